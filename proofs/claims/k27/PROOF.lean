import PyProof.Rows.All
import Wide.All
import OpenK.AllK
import Wide.FinOn
import Lean
import PyProof.EqAt
import PyProof.EqKinds
import PyProof.TupleCall
import PySem.Challenge.RW_evenmeet_k27_whole_fields_of_one_size
set_option Elab.async false
set_option linter.all false
set_option maxRecDepth 100000
/-! THE HAND LAYER, for ints, bools, texts, own classes, LISTS and tuples (index, slices, in, append, pop ..), calls, loops. Paste it whole ahead of your own text; what your proof does not reach may be deleted. -/
namespace L2
open PySem PySem.Spec PyProof.Rows

/-- a key: an int or a str -/
abbrev Key := Sum Int Str
def keyIs : Key → Value → Bool
  | .inl k, v => Value.isInt k v
  | .inr x, v => Value.isStrOf x v
def keyH (w : World) : Key → Int
  | .inl k => hashInt k
  | .inr x => hashStr w x
theorem keyIs_shape : ∀ {k : Key} {v : Value}, keyIs k v = true → (∃ i t, k = Sum.inl i ∧ v = Value.int i t) ∨ (∃ x t, k = Sum.inr x ∧ v = Value.str x t)
  | .inl i, v, h => by
    obtain ⟨t, e⟩ := Value.isInt_shape (k := i) (v := v) h
    exact .inl ⟨i, t, rfl, e⟩
  | .inr x, v, h => by
    obtain ⟨t, e⟩ := Value.isStrOf_shape (x := x) (v := v) h
    exact .inr ⟨x, t, rfl, e⟩
theorem key_ll (a b : Int) : decide ((Sum.inl a : Key) = Sum.inl b) = (a == b) := by
  by_cases e : a = b
  · subst e; simp
  · have h : ¬ (Sum.inl a : Key) = Sum.inl b := fun q => e (Sum.inl.inj q)
    rw [decide_eq_false h]
    exact (beq_eq_false_iff_ne.mpr e).symm
theorem key_rr (a b : Str) : decide ((Sum.inr a : Key) = Sum.inr b) = decide (a = b) := by
  by_cases e : a = b
  · subst e; simp
  · have h : ¬ (Sum.inr a : Key) = Sum.inr b := fun q => e (Sum.inr.inj q)
    rw [decide_eq_false h, decide_eq_false e]
theorem key_lr (a : Int) (b : Str) : decide ((Sum.inl a : Key) = Sum.inr b) = false := decide_eq_false (fun q => nomatch q)
theorem key_rl (a : Str) (b : Int) : decide ((Sum.inr a : Key) = Sum.inl b) = false := decide_eq_false (fun q => nomatch q)

def mixKind (prog : Program) (w : World) : PySem.KeyKind prog w Key where
  is := keyIs
  hash := keyH w
  inj := fun v a b ha hb => by
    rcases keyIs_shape ha with ⟨i, t, rfl, rfl⟩ | ⟨x, t, rfl, rfl⟩
    · rcases keyIs_shape hb with ⟨j, u, rfl, e⟩ | ⟨y, u, rfl, e⟩
      · injection e with e1 _; rw [e1]
      · exact nomatch e
    · rcases keyIs_shape hb with ⟨j, u, rfl, e⟩ | ⟨y, u, rfl, e⟩
      · exact nomatch e
      · injection e with e1 _; rw [e1]
  byValue := fun k v h => by
    rcases keyIs_shape h with ⟨i, t, rfl, rfl⟩ | ⟨x, t, rfl, rfl⟩ <;> rfl
  pyHash := fun hv h => by
    rcases keyIs_shape hv with ⟨i, t, rfl, rfl⟩ | ⟨x, t, rfl, rfl⟩
    · exact wpAny_pyHash_int h
    · exact wpAny_pyHash_str h
  eqBool := fun hu hv h => by
    rcases keyIs_shape hu with ⟨i, t, rfl, rfl⟩ | ⟨x, t, rfl, rfl⟩
    · rcases keyIs_shape hv with ⟨j, u, rfl, rfl⟩ | ⟨y, u, rfl, rfl⟩
      · rw [key_ll] at h; exact wpAny_eqBool_int h
      · rw [key_lr] at h; exact SeqAt.EqAt.int_str i t y u _ _ _ _ h
    · rcases keyIs_shape hv with ⟨j, u, rfl, rfl⟩ | ⟨y, u, rfl, rfl⟩
      · rw [key_rl] at h; exact SeqAt.EqAt.str_int x t j u _ _ _ _ h
      · rw [key_rr] at h; exact wpAny_eqBool_str h
  «strs» := fun k x t v h => by
    rcases keyIs_shape h with ⟨i, u, rfl, e⟩ | ⟨y, u, rfl, e⟩
    · exact nomatch e
    · injection e with e1 _
      subst e1
      cases v <;> rfl

end L2

namespace L2
open PySem PySem.Spec PyProof.Rows

/-- a value, without the heap -/
inductive V where
  | non | bl (b : Bool) | int (i : Int) | str (x : Str) | byt (b : Array UInt8) | flt (b : UInt64) | ref (a : Addr) | ty (n : String)
  deriving DecidableEq

def RelV : V → Value → Prop
  | .non, u => u = Value.none
  | .bl b, u => u = Value.bool b
  | .int i, u => ∃ t, u = Value.int i t
  | .str x, u => ∃ t, u = Value.str x t
  | .byt b, u => ∃ t, u = Value.bytes b t
  | .flt b, u => ∃ t, u = Value.float b t
  | .ref a, u => u = Value.ref a
  | .ty n, u => u = Value.type n

abbrev Vals : List V → List Value → Prop := Paired RelV
theorem Vals.length {xs : List V} {us : List Value} (r : Vals xs us) : xs.length = us.length := Paired.length r
theorem Vals.get : ∀ {xs : List V} {us : List Value} {i : Nat} {x : V}, Vals xs us → xs[i]? = some x → ∃ u, us[i]? = some u ∧ RelV x u
  | _, _, _, _, .nil, e => by simp at e
  | _, _, 0, _, .cons r _, e => by simp at e; subst e; exact ⟨_, rfl, r⟩
  | _, _, i + 1, x, .cons _ t, e => by
    obtain ⟨u, h1, h2⟩ := Vals.get (i := i) (x := x) t (by simpa using e)
    exact ⟨u, by simpa using h1, h2⟩
theorem Vals.set {x : V} {u : Value} (r : RelV x u) : ∀ {xs : List V} {us : List Value} (i : Nat), Vals xs us → Vals (xs.set i x) (us.set i u)
  | _, _, _, .nil => .nil
  | _, _, 0, .cons _ t => .cons r t
  | _, _, i + 1, .cons q t => .cons q (Vals.set r i t)
theorem Vals.append : ∀ {xs ys : List V} {us ws : List Value}, Vals xs us → Vals ys ws → Vals (xs ++ ys) (us ++ ws)
  | _, _, _, _, .nil, s => s
  | _, _, _, _, .cons r t, s => .cons r (Vals.append t s)
theorem Vals.take : ∀ {xs : List V} {us : List Value} (n : Nat), Vals xs us → Vals (xs.take n) (us.take n)
  | _, _, 0, _ => .nil
  | _, _, _ + 1, .nil => .nil
  | _, _, n + 1, .cons r t => .cons r (Vals.take n t)
theorem Vals.drop : ∀ {xs : List V} {us : List Value} (n : Nat), Vals xs us → Vals (xs.drop n) (us.drop n)
  | _, _, 0, r => r
  | _, _, _ + 1, .nil => .nil
  | _, _, n + 1, .cons _ t => Vals.drop n t
def RelO : Option V → Option Value → Prop
  | some v, some u => RelV v u
  | none, none => True
  | _, _ => False
def KV {κ : Type} : List (κ × V) → List (κ × Value) → Prop := Paired fun (p : κ × V) (q : κ × Value) => p.1 = q.1 ∧ RelV p.2 q.2

/-- a key of a dict (00_mix): an int or a text -/
def kV : Key → V
  | .inl i => .int i
  | .inr x => .str x

/-- what stands at a tracked address -/
inductive HO where
  /-- a list -/
  | lst (xs : List V)
  /-- a tuple (never changes) -/
  | tup (xs : List V)
  /-- a dict whose keys are ints and texts; one whose keys are tuples of ints and texts (the empty one is both) -/
  | dK (kvs : List (Key × V)) | dT (kvs : List (List Key × V))
  /-- a set of ints: its members, its size -/
  | set (S : Int → Bool) (n : Nat)
  /-- an instance of the class at C, its dict at dx, its attributes -/
  | ins (C dx : Addr) (fs : List (Str × V))
  /-- the dict of the instance at x -/
  | own (x : Addr)
  /-- the dict of an exception -/
  | xd (fs : List (Str × V))
  /-- a bound method, f of x -/
  | met (f x : Addr)
  /-- a range object lo, lo + 1, .. below hi -/
  | rng (lo hi : Int)
  /-- a thing that is known to the object (the script; a dict while a loop walks it): read, never written while it is so -/
  | frz (o : Obj) (u : HO)
  /-- a code object's table -/
  | tbl (ps : Array Value)
  /-- any other thing, by what is true of its one object (a def of one's own: SetO a S n := HO.ext fun h => ..) -/
  | ext (φ : Heap → Prop)

abbrev Hp := Addr → Option HO
def upd (H : Hp) (a : Addr) (o : HO) : Hp := fun b => if b = a then some o else H b
theorem upd_same {H : Hp} {a : Addr} {o : HO} : upd H a o a = some o := by unfold upd; rw [if_pos rfl]
theorem upd_ne {H : Hp} {a b : Addr} {o : HO} (h : b ≠ a) : upd H a o b = H b := by unfold upd; rw [if_neg h]
/-- two objects of different content stand apart -/
theorem ne_of {H : Hp} {a b : Addr} {o u : HO} (h : H a = some o) (h' : H b = some u) (d : o ≠ u) : a ≠ b := by
  intro e; subst e; rw [h] at h'; exact d (Option.some.inj h')
theorem ne_of_none {H : Hp} {a b : Addr} {o : HO} (h : H a = some o) (h' : H b = none) : a ≠ b := by
  intro e; subst e; rw [h] at h'; cases h'

section
variable (P : Program) (w : World)
def ObjOk (H : Hp) (h : Heap) (a : Addr) : HO → Prop
  | .lst xs => xs.length ≤ sizeLine ∧ ∃ (its : List Value) (n : Nat), Vals xs its ∧ h.get? a = some { cls := .type "list", data := .seq its.toArray n }
  | .tup xs => xs.length ≤ sizeLine ∧ ∃ its : List Value, Vals xs its ∧ IsTup h a its.toArray
  | .dK kvs => kvs.length ≤ sizeLine ∧ (a == sysModules) = false ∧ ∃ vs, KV kvs vs ∧ h.DictOf (mixKind P w) a vs
  | .dT kvs => kvs.length ≤ sizeLine ∧ (a == sysModules) = false ∧ ∃ xs : List (List Key × Addr × Value),
      Paired (fun (p : List Key × V) (q : List Key × Addr × Value) => p.1 = q.1 ∧ H q.2.1 = some (.tup (p.1.map kV)) ∧ RelV p.2 q.2.2) kvs xs ∧
      ∃ o es ep, h.get? a = some o ∧ o.ExactDict ∧ o.data = .dict es ep ∧ es.toList = xs.map (entryOfKey (tupleKind (mixKind P w))) ∧ (xs.map (·.1)).Nodup
  | .set S n => h.SetOf (intKind P w) a S n
  | .ins C dx fs => H dx = some (.own a) ∧ fs.length ≤ 1000 ∧ dx ≠ a ∧ h.get? a = some (PySem.W.instObj C dx) ∧
      ∃ mA, h.Ns1 dx mA ∧ (∀ f, RelO (fs.lookup f) (mA f)) ∧ PySem.Within mA (fs.map (·.1))
  | .own _ => ∃ o, h.get? a = some o
  | .xd fs => ∃ mA, h.Ns1 a mA ∧ ∀ f, RelO (fs.lookup f) (mA f)
  | .rng lo hi => ∃ t u v, h.get? a = some { cls := .type "range", data := .fields #[.int lo t, .int hi u, .int 1 v] }
  | .frz o u => h.get? a = some o ∧ ObjOk H h a u
  | .tbl ps => h.get? a = some { cls := .none, data := .fields ps }
  | .met f x => h.get? a = some (PySem.W.methodObj (.ref f) (.ref x))
  | .ext φ => φ h ∧ (∃ o, h.get? a = some o) ∧ ∀ h1 h2 : Heap, φ h1 → (∀ o, h1.get? a = some o → h2.get? a = some o) → φ h2
/-- the abstract heap is held -/
def HOk (H : Hp) (h : Heap) : Prop := ∀ a o, H a = some o → ObjOk P w H h a o
end

section
variable {P : Program} {w : World} {H H' : Hp} {h h' : Heap} {a : Addr} {o : HO}
theorem ObjOk.lt (x : ObjOk P w H h a o) : a < h.objs.size := by
  cases o with
  | lst xs => obtain ⟨_, _, _, _, e⟩ := x; exact Heap.lt_size e
  | tup xs => obtain ⟨_, _, _, p⟩ := x; exact p.lt
  | dK kvs => obtain ⟨_, _, _, _, o, _, _, e, _⟩ := x; exact Heap.lt_size e
  | dT kvs => obtain ⟨_, _, _, _, o, _, _, e, _⟩ := x; exact Heap.lt_size e
  | set S n => obtain ⟨o, _, _, _, e, _⟩ := x; exact Heap.lt_size e
  | ins C dx fs => obtain ⟨_, _, _, e, _⟩ := x; exact Heap.lt_size e
  | own y => obtain ⟨_, e⟩ := x; exact Heap.lt_size e
  | xd fs => obtain ⟨_, ⟨_, _, _, e, _⟩, _⟩ := x; exact Heap.lt_size e
  | rng lo hi => obtain ⟨_, _, _, e⟩ := x; exact Heap.lt_size e
  | frz ob u => obtain ⟨e, _⟩ := x; exact Heap.lt_size e
  | tbl ps => exact Heap.lt_size (show h.get? a = some _ from x)
  | met f y => exact Heap.lt_size (show h.get? a = some _ from x)
  | ext φ => obtain ⟨_, ⟨_, e⟩, _⟩ := x; exact Heap.lt_size e
theorem Paired.mapP {α β : Type} {F G : α → β → Prop} : ∀ {l₁ : List α} {l₂ : List β}, Paired F l₁ l₂ → (∀ a b, F a b → G a b) → Paired G l₁ l₂
  | _, _, .nil, _ => .nil
  | _, _, .cons r t, f => .cons (f _ _ r) (Paired.mapP t f)
/-- what an object's description leans on: its own object, its own dict, the tuples -/
theorem ObjOk.stay (x : ObjOk P w H h a o) (k : ∀ b u, (b = a ∨ H b = some (.own a)) → h.get? b = some u → h'.get? b = some u)
    (ho : ∀ b, H b = some (.own a) → H' b = some (.own a)) (ht : ∀ b xs, H b = some (.tup xs) → H' b = some (.tup xs)) : ObjOk P w H' h' a o := by
  induction o with
  | lst xs => obtain ⟨z, its, n, r, e⟩ := x; exact ⟨z, its, n, r, k _ _ (.inl rfl) e⟩
  | tup xs => obtain ⟨z, its, r, ob, e, c⟩ := x; exact ⟨z, its, r, ob, k _ _ (.inl rfl) e, c⟩
  | dK kvs => obtain ⟨z, y, vs, r, ob, es, ep, e, c⟩ := x; exact ⟨z, y, vs, r, ob, es, ep, k _ _ (.inl rfl) e, c⟩
  | dT kvs =>
    obtain ⟨z, y, xs, r, ob, es, ep, e, c⟩ := x
    exact ⟨z, y, xs, Paired.mapP r fun p q z => ⟨z.1, ht _ _ z.2.1, z.2.2⟩, ob, es, ep, k _ _ (.inl rfl) e, c⟩
  | set S n => obtain ⟨ob, es, ep, t, e, c⟩ := x; exact ⟨ob, es, ep, t, k _ _ (.inl rfl) e, c⟩
  | ins C dx fs =>
    obtain ⟨d, z, ne, e, mA, ⟨od, es, ep, e2, c⟩, r⟩ := x
    exact ⟨ho _ d, z, ne, k _ _ (.inl rfl) e, mA, ⟨od, es, ep, k _ _ (.inr d) e2, c⟩, r⟩
  | own y => obtain ⟨ob, e⟩ := x; exact ⟨ob, k _ _ (.inl rfl) e⟩
  | xd fs => obtain ⟨mA, ⟨od, es, ep, e, c⟩, r⟩ := x; exact ⟨mA, ⟨od, es, ep, k _ _ (.inl rfl) e, c⟩, r⟩
  | rng lo hi => obtain ⟨t, u, v, e⟩ := x; exact ⟨t, u, v, k _ _ (.inl rfl) e⟩
  | frz ob u ih => obtain ⟨e, q⟩ := x; exact ⟨k _ _ (.inl rfl) e, ih q⟩
  | tbl ps =>
    have e : h.get? a = some { cls := .none, data := .fields ps } := x
    show h'.get? a = some { cls := .none, data := .fields ps }
    exact k a _ (.inl rfl) e
  | met f y =>
    have e : h.get? a = some (PySem.W.methodObj (.ref f) (.ref y)) := x
    show h'.get? a = some (PySem.W.methodObj (.ref f) (.ref y))
    exact k a _ (.inl rfl) e
  | ext φ => obtain ⟨p, ⟨o, e⟩, st⟩ := x; exact ⟨st _ _ p fun o q => k _ _ (.inl rfl) q, ⟨o, k _ _ (.inl rfl) e⟩, st⟩
theorem HOk.lt (x : HOk P w H h) (e : H a = some o) : a < h.objs.size := (x a o e).lt
theorem HOk.fresh (x : HOk P w H h) (e : h.objs.size ≤ a) : H a = none := by
  cases q : H a with
  | none => rfl
  | some u => exact absurd (Nat.lt_of_lt_of_le (x.lt q) e) (Nat.lt_irrefl _)
/-- every object of the heap is kept -/
theorem HOk.kept (x : HOk P w H h) (k : ∀ b u, h.get? b = some u → h'.get? b = some u) : HOk P w H h' := fun a o e =>
  (x a o e).stay (fun b u _ q => k b u q) (fun _ q => q) fun _ _ q => q
/-- a new object is laid and tracked -/
theorem HOk.laid (x : HOk P w H h) (k : ∀ b u, h.get? b = some u → h'.get? b = some u) (hp : h.objs.size ≤ a) (new : ObjOk P w (upd H a o) h' a o) : HOk P w (upd H a o) h' := fun b u e => by
  have hn := x.fresh hp
  by_cases hb : b = a
  · subst hb; rw [upd_same] at e; cases e; exact new
  · rw [upd_ne hb] at e
    exact (x b u e).stay (fun c v _ q => k c v q) (fun c q => by rw [upd_ne (ne_of_none q hn)]; exact q) fun c xs q => by rw [upd_ne (ne_of_none q hn)]; exact q
end

/-- what may be read as u: it is u, or a known u -/
def Rd (H : Hp) (a : Addr) (u : HO) : Prop := H a = some u ∨ ∃ o, H a = some (.frz o u)
theorem Rd.ok {P : Program} {w : World} {H : Hp} {h : Heap} {a : Addr} {u : HO} (r : Rd H a u) (x : HOk P w H h) : ObjOk P w H h a u := by
  rcases r with r | ⟨o, r⟩
  · exact x a u r
  · obtain ⟨_, q⟩ := x a _ r
    exact q
/-- what may be written -/
def Mut : Option HO → Prop
  | some (.lst _) => True
  | some (.dK _) => True
  | some (.dT _) => True
  | some (.set _ _) => True
  | some (.ins _ _ _) => True
  | some (.ext _) => True
  | _ => False
section
variable {P : Program} {w : World} {H : Hp} {h h' : Heap} {x e : Addr} {o' : HO}
/-- the object at e is changed: x itself, or the dict of the instance x -/
theorem HOk.write (ok : HOk P w H h) (mu : Mut (H x)) (he : e = x ∨ H e = some (.own x)) (k : ∀ b u, b ≠ e → h.get? b = some u → h'.get? b = some u) (heo : ∃ u, h'.get? e = some u)
    (new : ObjOk P w (upd H x o') h' x o') : HOk P w (upd H x o') h' := fun b u q => by
  have nown : ∀ c y, H c = some (.own y) → c ≠ x := fun c y r z => by subst z; rw [r] at mu; exact mu
  have ntup : ∀ c xs, H c = some (.tup xs) → c ≠ x := fun c xs r z => by subst z; rw [r] at mu; exact mu
  by_cases hb : b = x
  · subst hb; rw [upd_same] at q; cases q; exact new
  · rw [upd_ne hb] at q
    by_cases hbe : b = e
    · have q' : H b = some (.own x) := by
        rcases he with z | z
        · exact absurd (hbe.trans z) hb
        · rw [hbe]; exact z
      rw [q] at q'; cases q'
      obtain ⟨v, hv⟩ := heo
      exact ⟨v, by rw [hbe]; exact hv⟩
    · refine (ok b u q).stay (fun c v hc r => k c v ?_ r) (fun c r => by rw [upd_ne (nown c b r)]; exact r) fun c xs r => by rw [upd_ne (ntup c xs r)]; exact r
      rcases hc with rfl | hc
      · exact hbe
      · rintro rfl
        rcases he with z | z
        · exact nown c b hc z
        · rw [hc] at z; cases z; exact hb rfl
end

/-! ### kept unless tracked; of the frames at fs (the callers') the slots may change (an exception that passes writes there); of the records at ex (iterators) nothing is said -/
structure Un (fs ex : List Addr) (H H' : Hp) (h h' : Heap) : Prop where
  keep : ∀ b o, h.get? b = some o → H b = none → b ∉ fs → b ∉ ex → h'.get? b = some o
  slot : ∀ b o, h.get? b = some o → H b = none → b ∈ fs → b ∉ ex → ∃ sl, h'.get? b = some { o with slots := sl }
  free : ∀ b o, h.get? b = some o → H b = none → b ∉ ex → H' b = none
  there : ∀ b o, h.get? b = some o → b ∉ ex → ∃ o', h'.get? b = some o'
  tups : ∀ b xs, H b = some (.tup xs) → H' b = some (.tup xs)
  frzs : ∀ b o u, H b = some (.frz o u) → H' b = some (.frz o u)
  tbls : ∀ b ps, H b = some (.tbl ps) → ∃ more, H' b = some (.tbl (ps ++ more))
section
variable {fs fs' ex ex' : List Addr} {H H1 H2 : Hp} {h h1 h2 h' : Heap} {a x e : Addr} {o : HO}
theorem Un.any (u : Un fs ex H H1 h h1) {b : Addr} {ob : Obj} (q : h.get? b = some ob) (n : H b = none) (hx : b ∉ ex) : ∃ sl, h1.get? b = some { ob with slots := sl } := by
  by_cases hb : b ∈ fs
  · exact u.slot b ob q n hb hx
  · exact ⟨ob.slots, u.keep b ob q n hb hx⟩
theorem Un.kept (k : ∀ b u, h.get? b = some u → h'.get? b = some u) : Un fs ex H H h h' :=
  ⟨fun b ob q _ _ _ => k b ob q, fun b ob q _ _ _ => ⟨ob.slots, k b ob q⟩, fun _ _ _ n _ => n, fun b ob q _ => ⟨ob, k b ob q⟩, fun _ _ q => q, fun _ _ _ q => q, fun _ ps q => ⟨#[], by rw [q]; simp⟩⟩
theorem Un.refl : Un fs ex H H h h := Un.kept fun _ _ q => q
theorem Un.laid (k : ∀ b u, h.get? b = some u → h'.get? b = some u) (hp : h.objs.size ≤ a) (hn : H a = none) : Un fs ex H (upd H a o) h h' where
  keep := fun b u q _ _ _ => k b u q
  slot := fun b u q _ _ _ => ⟨u.slots, k b u q⟩
  free := fun b u q n _ => by rw [upd_ne (Nat.ne_of_lt (Nat.lt_of_lt_of_le (Heap.lt_size q) hp))]; exact n
  there := fun b u q _ => ⟨u, k b u q⟩
  tups := fun b xs q => by rw [upd_ne (ne_of_none q hn)]; exact q
  frzs := fun b u xs q => by rw [upd_ne (ne_of_none q hn)]; exact q
  tbls := fun b ps q => ⟨#[], by rw [upd_ne (ne_of_none q hn), q]; simp⟩
theorem Un.write (mu : Mut (H x)) (he : e = x ∨ H e = some (.own x)) (k : ∀ b u, b ≠ e → h.get? b = some u → h'.get? b = some u) (heo : ∃ u, h'.get? e = some u) : Un fs ex H (upd H x o) h h' := by
  have hx : ∀ b, H b = none → b ≠ x := fun b n z => by subst z; rw [n] at mu; exact mu
  have hb : ∀ b, H b = none → b ≠ e := fun b n z => by
    subst z
    rcases he with r | r
    · exact hx b n r
    · rw [n] at r; cases r
  have hm : ∀ b u, H b = some u → ¬ Mut (some u) → b ≠ x := fun b u q nm z => by subst z; rw [q] at mu; exact nm mu
  refine ⟨fun b u q n _ _ => k b u (hb b n) q, fun b u q n _ _ => ⟨u.slots, k b u (hb b n) q⟩, fun b u q n _ => by rw [upd_ne (hx b n)]; exact n, fun b u q _ => ?_,
    fun b xs q => by rw [upd_ne (hm b _ q fun z => z)]; exact q, fun b u xs q => by rw [upd_ne (hm b _ q fun z => z)]; exact q, fun b ps q => ⟨#[], by rw [upd_ne (hm b _ q fun z => z), q]; simp⟩⟩
  by_cases hbe : b = e
  · subst hbe; exact heo
  · exact ⟨u, k b u hbe q⟩
end

/-! ### the heap without what is tracked -/
def trk (h : Heap) (H : Hp) : List Addr := (List.range h.objs.size).filter fun a => (H a).isSome
def hidT (h : Heap) (H : Hp) : Heap := PySem.W.hideAll h (trk h H)
theorem hidT_size (h : Heap) (H : Hp) : (hidT h H).objs.size = h.objs.size := PySem.W.hideAll_size _ _
theorem hidT_get {h : Heap} {H : Hp} {b : Addr} {o : Obj} (e : h.get? b = some o) (n : H b = none) : (hidT h H).get? b = some o :=
  PySem.W.hideAll_get _ e fun hm => by
    have q : (H b).isSome = true := (List.mem_filter.mp hm).2
    rw [n] at q; simp at q
theorem of_hidT {h : Heap} {H : Hp} {b : Addr} {o : Obj} (e : (hidT h H).get? b = some o) : h.get? b = some o ∧ H b = none := by
  have e' : h.get? b = some o := PySem.W.of_hideAll (trk h H) e
  refine ⟨e', ?_⟩
  cases q : H b with
  | none => rfl
  | some x =>
    have hm : b ∈ trk h H := List.mem_filter.mpr ⟨List.mem_range.mpr (Heap.lt_size e'), by simp [q]⟩
    have z : (hidT h H).get? b = none := PySem.W.hideAll_none (trk h H) hm
    rw [z] at e; cases e

/-! ### OpenK's ledger, filled with every new object but one -/
end L2

namespace L2
open PySem PySem.Spec PyProof.Rows

/-- the module's facts, over the base: the heap at the law's entry without what is tracked there -/
structure Mod (K : PySem.W.Frag) (mg : Str → Option Value) (base : Heap) : Prop where
  kin : K.In base
  glob : base.Ns mainGlobals mg
  blt : ∃ mb, base.Ns builtinsNs mb ∧ ∀ x : Str, x ≠ "__name__" → mb x = bootBuiltins x
  nolimit : base.NoLimit

/-- the context: a def's body (or a comprehension's block) running. base: fixed through the whole law; s₀, H₀: the entry; outer: the frames whose slots others may change (a def's callers); stack: all frames that run;
   ex: iterators that were made ahead of the entry and are walked here (a comprehension's); fn: the names whose cells were made at the entry (a def: all; a comprehension's block: its own); calm: not within an except suite; pn: pins that every state bears; xe: what is wanted of an exception that leaves the code -/
structure Cx where
  prog : Program
  w : World
  K : PySem.W.Frag
  mg : Str → Option Value
  base : Heap
  A : Around
  N : List Str
  s₀ : Shared
  H₀ : Hp
  env : Env
  outer : List Env
  stack : List Env
  ex : List Addr
  fn : Str → Bool
  calm : Bool
  pn : List (Addr × Obj)
  xe : Value → Shared → Prop
/-- the callers' frames -/
def frs (l : List Env) : List Addr := l.filterMap (·.frame)
abbrev Cx.fs (X : Cx) : List Addr := frs X.outer

def Vis (sc : Scope) (x : Str) : Prop := sc.names.lookup x = some .local ∨ sc.names.lookup x = some .cell ∨ sc.names.lookup x = some .free
def Loc (sc : Scope) (x : Str) : Prop := sc.names.lookup x = some .local ∨ sc.names.lookup x = some .cell
def Look (env : Env) (h : Heap) (m : Str → Option Value) (x : Str) (u : Value) : Prop :=
  (env.kindOf x = some .local ∧ m x = some u) ∨ ((env.kindOf x = some .cell ∨ env.kindOf x = some .free) ∧ ∃ c, env.cells.lookup x = some c ∧ h.IsCell c (some u))

structure Cx.Ok (X : Cx) : Prop where
  mod : Mod X.K X.mg X.base
  kind : X.env.scope.kind = .function
  glob : X.env.globals = mainGlobals
  blt : X.env.builtins = builtinsNs
  above : X.s₀.heap.objs.size ≤ X.env.locals
  inj : ∀ x y c, X.env.cells.lookup x = some c → X.env.cells.lookup y = some c → x = y
  has : ∀ x, (X.env.kindOf x = some .cell ∨ X.env.kindOf x = some .free) → ∃ c, X.env.cells.lookup x = some c
  cab : ∀ x c, X.fn x = true → X.env.cells.lookup x = some c → X.s₀.heap.objs.size ≤ c
  hd : X.calm = true → X.A.handled = none
  frames : X.A.frames = some X.stack
  stk : X.stack = X.outer ∨ (X.stack = X.env :: X.outer ∧ X.env.frame = some X.env.locals)
  exf : ∀ b ∈ X.ex, b ≠ X.env.locals ∧ ∀ x c, X.env.cells.lookup x = some c → c ≠ b
  bs : ∀ b o, X.base.get? b = some o → X.s₀.heap.get? b = some o ∧ X.H₀ b = none
  bsz : X.base.objs.size ≤ X.s₀.heap.objs.size
  noex : ∀ b o, X.base.get? b = some o → b ∉ X.ex
  exfs : ∀ b ∈ X.ex, b ∉ X.fs
  funs : X.s₀.heap.FunFrames X.base X.outer
  frf : ∀ b ∈ X.fs, X.H₀ b = none

structure Inv (X : Cx) (pins : List (Addr × Obj)) (σ : List (Option V)) (H : Hp) (s : Shared) : Prop where
  ok : X.Ok
  os : s.os = X.s₀.os
  bare : AllBare s.gens
  base : Un X.fs X.ex X.H₀ H X.s₀.heap s.heap
  loc : ∃ m, s.heap.Ns X.env.locals m ∧ ∀ (i : Nat) (x : Str) (v : V), X.N[i]? = some x → σ[i]? = some (some v) → Vis X.env.scope x → ∃ u, RelV v u ∧ Look X.env s.heap m x u
  cell : ∀ x c, X.env.cells.lookup x = some c → ∃ v, s.heap.IsCell c v
  free : H X.env.locals = none
  freeC : ∀ x c, X.env.cells.lookup x = some c → H c = none
  pin : ∀ p ∈ X.pn ++ pins, s.heap.get? p.1 = some p.2 ∧ H p.1 = none ∧ p.1 ≠ X.env.locals ∧ p.1 ∉ X.fs ∧ ∀ v, p.2.data ≠ .cell v
  hok : HOk X.prog X.w H s.heap
  len : σ.length = X.N.length

section
variable {X : Cx} {pins : List (Addr × Obj)} {σ : List (Option V)} {H H' : Hp} {s : Shared} {h' : Heap}

theorem Cx.Ok.nofr (ok : X.Ok) {b : Addr} {o : Obj} (e : X.base.get? b = some o) : b ∉ X.fs := fun hb => by
  have := (ok.funs.mem hb).1
  rw [e] at this; cases this
theorem Inv.bs (I : Inv X pins σ H s) : ∀ b o, X.base.get? b = some o → s.heap.get? b = some o ∧ H b = none := fun b o e =>
  ⟨I.base.keep b o (I.ok.bs b o e).1 (I.ok.bs b o e).2 (I.ok.nofr e) (I.ok.noex b o e), I.base.free b o (I.ok.bs b o e).1 (I.ok.bs b o e).2 (I.ok.noex b o e)⟩
theorem Inv.bk (I : Inv X pins σ H s) : ∀ b o, X.base.get? b = some o → s.heap.get? b = some o := fun b o e => (I.bs b o e).1
theorem Inv.mod (I : Inv X pins σ H s) : Mod X.K X.mg X.base := I.ok.mod
theorem Inv.kIn (I : Inv X pins σ H s) : X.K.In s.heap := I.ok.mod.kin.keeps I.bk
theorem Inv.lt (I : Inv X pins σ H s) : X.env.locals < s.heap.objs.size := let ⟨_, hn, _⟩ := I.loc; hn.lt
theorem Inv.sz (I : Inv X pins σ H s) : X.s₀.heap.objs.size ≤ s.heap.objs.size := Nat.le_trans I.ok.above (Nat.le_of_lt I.lt)
theorem Inv.nofs (I : Inv X pins σ H s) {a : Addr} (h : s.heap.objs.size ≤ a) : a ∉ X.fs := fun hb => by
  obtain ⟨_, o, ho, _⟩ := I.ok.funs.mem hb
  exact absurd (Nat.lt_of_lt_of_le (Heap.lt_size ho) (Nat.le_trans I.sz h)) (Nat.lt_irrefl _)
theorem Inv.cne (I : Inv X pins σ H s) : ∀ x c, X.env.cells.lookup x = some c → c ≠ X.env.locals := fun x c e z => by
  obtain ⟨v, o, ho, hd⟩ := I.cell x c e
  obtain ⟨m, ⟨o', es, ep, ho', hd', _⟩, _⟩ := I.loc
  rw [z, ho'] at ho; cases ho; rw [hd'] at hd; cases hd
theorem Inv.funs (I : Inv X pins σ H s) : s.heap.FunFrames X.base X.outer := by
  have all : ∀ (l : List Env), (∀ b ∈ frs l, b ∈ X.fs) → X.s₀.heap.FunFrames X.base l → s.heap.FunFrames X.base l := by
    intro l
    induction l with
    | nil => intro _ _; trivial
    | cons env r ih =>
      intro hs hl
      obtain ⟨hk, ⟨L, o, hf, hn, ho, hd⟩, hr⟩ := hl
      have hL : L ∈ X.fs := hs L (by unfold frs; rw [List.filterMap_cons, hf]; exact List.mem_cons_self)
      obtain ⟨sl, e⟩ := I.base.slot L o ho (I.ok.frf L hL) hL fun z => I.ok.exfs L z hL
      exact ⟨hk, ⟨L, _, hf, hn, e, hd⟩, ih (fun b hb => hs b (by unfold frs; rw [List.filterMap_cons, hf]; exact List.mem_cons_of_mem _ hb)) hr⟩
  exact all X.outer (fun _ hb => hb) I.ok.funs

/-- the frames that run, for a call -/
theorem Inv.stack (I : Inv X pins σ H s) : s.heap.FunFrames X.base X.stack := by
  rcases I.ok.stk with e | ⟨e, hf⟩
  · rw [e]; exact I.funs
  · rw [e]
    obtain ⟨m, hn, _⟩ := I.loc
    refine .cons (by rw [I.ok.kind]; decide) hf hn ?_ I.funs
    exact Heap.get?_none_of_le (Nat.le_trans I.ok.bsz I.ok.above)
theorem Inv.stkSub (I : Inv X pins σ H s) : ∀ b ∈ frs X.stack, b ∈ X.env.locals :: X.fs := fun b hb => by
  rcases I.ok.stk with e | ⟨e, hf⟩
  · rw [e] at hb; exact List.mem_cons_of_mem _ hb
  · rw [e] at hb
    unfold frs at hb
    rw [List.filterMap_cons, hf] at hb
    exact hb
theorem Inv.stkFree (I : Inv X pins σ H s) : ∀ b ∈ frs X.stack, H b = none := fun b hb => by
  rcases List.mem_cons.mp (I.stkSub b hb) with e | hb
  · rw [e]; exact I.free
  · obtain ⟨_, o, ho, _⟩ := I.ok.funs.mem hb
    exact I.base.free b o ho (I.ok.frf b hb) fun z => I.ok.exfs b z hb

/-- THE STEP: the untracked objects but the frame and the records at ch are kept (the callers' frames up to slots), the frame's map is kept, the new abstract heap is held -/
theorem Inv.step {g' : Array GenState} {t' : Nat} {d' : Drawn} {ch : List Addr} (I : Inv X pins σ H s)
    (hch : ∀ b ∈ ch, (b ∈ X.ex ∨ X.s₀.heap.objs.size ≤ b) ∧ b ≠ X.env.locals ∧ (∀ x c, X.env.cells.lookup x = some c → c ≠ b) ∧ ∀ p ∈ X.pn ++ pins, p.1 ≠ b)
    (keep : ∀ b o, b ≠ X.env.locals → b ∉ X.fs → b ∉ ch → s.heap.get? b = some o → H b = none → h'.get? b = some o)
    (slot : ∀ b o, b ≠ X.env.locals → b ∈ X.fs → b ∉ ch → s.heap.get? b = some o → H b = none → ∃ sl, h'.get? b = some { o with slots := sl }) (free : ∀ b o, b ∉ ch → s.heap.get? b = some o → H b = none → H' b = none)
    (there : ∀ b o, b ∉ ch → s.heap.get? b = some o → ∃ o', h'.get? b = some o')
    (tups : ∀ b xs, H b = some (.tup xs) → H' b = some (.tup xs)) (frzs : ∀ b o u, H b = some (.frz o u) → H' b = some (.frz o u)) (tbls : ∀ b ps, H b = some (.tbl ps) → ∃ more, H' b = some (.tbl (ps ++ more)))
    (ns : ∀ m, s.heap.Ns X.env.locals m → h'.Ns X.env.locals m) (hok : HOk X.prog X.w H' h') (hg : AllBare g') :
    Inv X pins σ H' { s with heap := h', gens := g', drawn := d', toks := t' } := by
  have neL : ∀ b o, X.s₀.heap.get? b = some o → b ≠ X.env.locals := fun b o e => Nat.ne_of_lt (Nat.lt_of_lt_of_le (Heap.lt_size e) I.ok.above)
  have neC : ∀ b o, X.s₀.heap.get? b = some o → b ∉ X.ex → b ∉ ch := fun b o e hx hb => by
    rcases (hch b hb).1 with z | z
    · exact hx z
    · exact absurd (Nat.lt_of_lt_of_le (Heap.lt_size e) z) (Nat.lt_irrefl _)
  have cellK : ∀ x c, X.env.cells.lookup x = some c → ∀ v, s.heap.IsCell c v → h'.IsCell c v := fun x c e v ⟨o, ho, hd⟩ => by
    have nch : c ∉ ch := fun z => (hch c z).2.2.1 x c e rfl
    by_cases hc : c ∈ X.fs
    · obtain ⟨sl, q⟩ := slot c o (I.cne x c e) hc nch ho (I.freeC x c e)
      exact ⟨_, q, hd⟩
    · exact ⟨o, keep c o (I.cne x c e) hc nch ho (I.freeC x c e), hd⟩
  refine ⟨I.ok, I.os, hg, ⟨fun b o e n hb hx => ?_, fun b o e n hb hx => ?_, fun b o e n hx => ?_, fun b o e hx => ?_, fun b xs e => tups b xs (I.base.tups b xs e), fun b o xs e => frzs b o xs (I.base.frzs b o xs e), fun b ps e => ?_⟩, ?_, fun x c e => ?_, ?_, fun x c e => ?_, fun p hp => ?_, hok, I.len⟩
  · exact keep b o (neL b o e) hb (neC b o e hx) (I.base.keep b o e n hb hx) (I.base.free b o e n hx)
  · obtain ⟨sl, e1⟩ := I.base.slot b o e n hb hx
    obtain ⟨sl', e2⟩ := slot b _ (neL b o e) hb (neC b o e hx) e1 (I.base.free b o e n hx)
    exact ⟨sl', e2⟩
  · obtain ⟨o', e1⟩ := I.base.there b o e hx
    exact free b o' (neC b o e hx) e1 (I.base.free b o e n hx)
  · obtain ⟨o', e1⟩ := I.base.there b o e hx
    exact there b o' (neC b o e hx) e1
  · obtain ⟨m1, e1⟩ := I.base.tbls b ps e
    obtain ⟨m2, e2⟩ := tbls b _ e1
    exact ⟨m1 ++ m2, by rw [e2, Array.append_assoc]⟩
  · obtain ⟨m, hn, hl⟩ := I.loc
    refine ⟨m, ns m hn, fun i x v e1 e2 e3 => ?_⟩
    obtain ⟨u, r, l⟩ := hl i x v e1 e2 e3
    refine ⟨u, r, ?_⟩
    rcases l with l | ⟨k, c, e, z⟩
    · exact .inl l
    · exact .inr ⟨k, c, e, cellK x c e _ z⟩
  · obtain ⟨v, z⟩ := I.cell x c e
    exact ⟨v, cellK x c e v z⟩
  · obtain ⟨m, ⟨o, _, _, ho, _⟩, _⟩ := I.loc
    exact free _ o (fun z => (hch _ z).2.1 rfl) ho I.free
  · obtain ⟨v, o, ho, hd⟩ := I.cell x c e
    exact free c o (fun z => (hch c z).2.2.1 x c e rfl) ho (I.freeC x c e)
  · obtain ⟨e, n, ne, nf, d⟩ := I.pin p hp
    have nch : p.1 ∉ ch := fun z => (hch p.1 z).2.2.2 p hp rfl
    exact ⟨keep p.1 p.2 ne nf nch e n, free p.1 p.2 nch e n, ne, nf, d⟩
/-- .. where the frame's own object is kept too -/
theorem Inv.un {t' : Nat} (I : Inv X pins σ H s) (u : Un X.fs [] H H' s.heap h') (hok : HOk X.prog X.w H' h') : Inv X pins σ H' { s with heap := h', toks := t' } := by
  obtain ⟨m, ⟨o, es, ep, ho, r⟩, _⟩ := id I.loc
  obtain ⟨sl, hL⟩ := u.any ho I.free (by simp)
  exact I.step (g' := s.gens) (d' := s.drawn) (ch := []) (fun _ z => nomatch z) (fun b o _ hb _ e n => u.keep b o e n hb (by simp)) (fun b o _ hb _ e n => u.slot b o e n hb (by simp)) (fun b o _ e n => u.free b o e n (by simp)) (fun b o _ e => u.there b o e (by simp)) u.tups u.frzs u.tbls (fun m' hm => by
    obtain ⟨o', es', ep', ho', r'⟩ := hm
    rw [ho] at ho'; cases ho'
    exact ⟨_, es', ep', hL, r'⟩) hok I.bare
/-- behind a call (or a comprehension's block): the slots of this frame may have changed too, the records at ch may have turned -/
theorem Inv.call {g' : Array GenState} {t' : Nat} {d' : Drawn} {ch : List Addr} (I : Inv X pins σ H s) (u : Un (frs X.stack) ch H H' s.heap h') (hok : HOk X.prog X.w H' h') (hg : AllBare g')
    (hch : ∀ b ∈ ch, (b ∈ X.ex ∨ X.s₀.heap.objs.size ≤ b) ∧ b ≠ X.env.locals ∧ (∀ x c, X.env.cells.lookup x = some c → c ≠ b) ∧ ∀ p ∈ X.pn ++ pins, p.1 ≠ b) :
    Inv X pins σ H' { s with heap := h', gens := g', drawn := d', toks := t' } := by
  obtain ⟨m, ⟨o, es, ep, ho, r⟩, _⟩ := id I.loc
  obtain ⟨sl, hL⟩ := u.any ho I.free fun z => (hch _ z).2.1 rfl
  exact I.step (ch := ch) hch (fun b o hL hb hc e n => u.keep b o e n (fun z => (List.mem_cons.mp (I.stkSub b z)).elim hL hb) hc) (fun b o _ _ hc e n => u.any e n hc) (fun b o hc e n => u.free b o e n hc) (fun b o hc e => u.there b o e hc) u.tups u.frzs u.tbls (fun m' hm => by
    obtain ⟨o', es', ep', ho', r'⟩ := hm
    rw [ho] at ho'; cases ho'
    exact ⟨_, es', ep', hL, r'⟩) hok hg
/-- an untracked record of ours (an iterator) has turned -/
theorem Inv.turned {t' : Nat} {it : Addr} (I : Inv X pins σ H s) (k : ∀ b o, b ≠ it → s.heap.get? b = some o → h'.get? b = some o) (hn : H it = none) (hL : it ≠ X.env.locals)
    (h1 : it ∈ X.ex ∨ X.s₀.heap.objs.size ≤ it) (h2 : ∀ x c, X.env.cells.lookup x = some c → c ≠ it) (h3 : ∀ p ∈ X.pn ++ pins, p.1 ≠ it) : Inv X pins σ H { s with heap := h', toks := t' } := by
  have nit : ∀ b u, H b = some u → b ≠ it := fun b u e z => by rw [z, hn] at e; cases e
  refine I.step (g' := s.gens) (d' := s.drawn) (ch := [it]) (fun b hb => ?_) (fun b o _ _ hc e _ => k b o (fun z => hc (by simp [z])) e) (fun b o _ _ hc e _ => ⟨o.slots, k b o (fun z => hc (by simp [z])) e⟩) (fun _ _ _ _ n => n)
    (fun b o hc e => ⟨o, k b o (fun z => hc (by simp [z])) e⟩) (fun _ _ e => e) (fun _ _ _ e => e) (fun b ps e => ⟨#[], by rw [e]; simp⟩) (fun m hm => ?_) (fun b u e => ?_) I.bare
  · have e : b = it := by simpa using hb
    subst e
    exact ⟨h1, hL, h2, h3⟩
  · obtain ⟨o, es, ep, ho, r⟩ := hm
    exact ⟨o, es, ep, k _ o (Ne.symm hL) ho, r⟩
  · refine (I.hok b u e).stay (fun c v hc q => k c v ?_ q) (fun _ q => q) fun _ _ q => q
    rcases hc with z | z
    · rw [z]; exact nit b u e
    · exact nit c _ z
theorem Inv.tok (I : Inv X pins σ H s) (t : Nat) : Inv X pins σ H { s with toks := t } := I.un (h' := s.heap) (t' := t) Un.refl I.hok
/-- all objects kept -/
theorem Inv.kept {t' : Nat} (I : Inv X pins σ H s) (k : ∀ b u, s.heap.get? b = some u → h'.get? b = some u) : Inv X pins σ H { s with heap := h', toks := t' } := I.un (Un.kept k) (I.hok.kept k)
/-- a new object laid and tracked -/
theorem Inv.laid {a : Addr} {o : HO} {t' : Nat} (I : Inv X pins σ H s) (k : ∀ b u, s.heap.get? b = some u → h'.get? b = some u) (hp : s.heap.objs.size ≤ a) (new : ObjOk X.prog X.w (upd H a o) h' a o) :
    Inv X pins σ (upd H a o) { s with heap := h', toks := t' } := I.un (Un.laid k hp (I.hok.fresh hp)) (I.hok.laid k hp new)
/-- an object written -/
theorem Inv.write {x e : Addr} {o : HO} {t' : Nat} (I : Inv X pins σ H s) (mu : Mut (H x)) (he : e = x ∨ H e = some (.own x)) (k : ∀ b u, b ≠ e → s.heap.get? b = some u → h'.get? b = some u) (heo : ∃ u, h'.get? e = some u)
    (new : ObjOk X.prog X.w (upd H x o) h' x o) : Inv X pins σ (upd H x o) { s with heap := h', toks := t' } := I.un (Un.write mu he k heo) (I.hok.write mu he k heo new)
/-- forgetting slots, pins -/
theorem Inv.weak {σ' : List (Option V)} (I : Inv X pins σ H s) (hl : σ'.length = σ.length) (w : ∀ (i : Nat) v, σ'[i]? = some (some v) → σ[i]? = some (some v)) : Inv X pins σ' H s :=
  ⟨I.ok, I.os, I.bare, I.base, let ⟨m, hn, hl'⟩ := I.loc; ⟨m, hn, fun i x v e1 e2 e3 => hl' i x v e1 (w i v e2) e3⟩, I.cell, I.free, I.freeC, I.pin, I.hok, hl.trans I.len⟩
theorem Inv.pins_of {pins' : List (Addr × Obj)} (I : Inv X pins σ H s) (h : ∀ p ∈ pins', s.heap.get? p.1 = some p.2 ∧ H p.1 = none ∧ p.1 ≠ X.env.locals ∧ p.1 ∉ X.fs ∧ ∀ v, p.2.data ≠ .cell v) : Inv X pins' σ H s :=
  ⟨I.ok, I.os, I.bare, I.base, I.loc, I.cell, I.free, I.freeC, fun p hp => (List.mem_append.mp hp).elim (fun z => I.pin p (List.mem_append_left _ z)) (h p), I.hok, I.len⟩

theorem nodup_ix {N : List Str} (hN : N.Nodup) {i j : Nat} {x : Str} (a : N[i]? = some x) (b : N[j]? = some x) : i = j := by
  obtain ⟨h1, e1⟩ := List.getElem?_eq_some_iff.mp a
  obtain ⟨h2, e2⟩ := List.getElem?_eq_some_iff.mp b
  exact (List.getElem_inj hN).mp (e1.trans e2.symm)

/-- a name is stored; what changed -/
theorem store_ok2 {M : Model} {A : Around} {E : Value → Shared → Prop} {i : Nat} {x : Str} {v : V} {u : Value} {Q : Unit → Shared → Prop} (I : Inv X pins σ H s) (hN : X.N.Nodup) (hi : X.N[i]? = some x) (hx : Loc X.env.scope x) (r : RelV v u)
    (h : ∀ s', Inv X pins (σ.set i (some v)) H s' → (∃ a, Heap.SameBut a s.heap s'.heap ∧ (a = X.env.locals ∨ X.env.cells.lookup x = some a)) → Q () s') (hf : X.fn x = true ∨ X.env.scope.names.lookup x = some .local := by first | exact .inl rfl | exact .inr rfl | assumption) : wpAny M A (storeName X.env x u) Q E s := by
  obtain ⟨m, hn, hl⟩ := id I.loc
  have hcls : (X.env.scope.kind == .class || (X.env.scope.kind == .module && X.env.locals != X.env.globals)) = false := by rw [I.ok.kind]; rfl
  have hiσ : i < σ.length := by rw [I.len]; exact (List.getElem?_eq_some_iff.mp hi).1
  have cne := I.cne
  have tracked : ∀ {a : Addr} {h' : Heap}, (∃ o, s.heap.get? a = some o ∧ H a = none) → Heap.SameBut a s.heap h' → HOk X.prog X.w H h' := fun {a h'} ha hs b ob e => by
    obtain ⟨_, _, hfree⟩ := ha
    refine (I.hok b ob e).stay (fun c w' hc q => (hs.2 c ?_).trans q) (fun _ q => q) fun _ _ q => q
    rintro rfl
    rcases hc with rfl | hc
    · rw [hfree] at e; cases e
    · rw [hfree] at hc; cases hc
  rcases hx with hk | hk
  · refine wpAny_storeName_local hk hn (fun h' hn' hs => ?_) hcls
    obtain ⟨oL, _, _, hoL, _⟩ := id hn
    refine h _ ⟨I.ok, I.os, I.bare, ⟨fun b o e n hb hx => ?_, fun b o e n hb hx => ?_, I.base.free, fun b o e hx => ?_, I.base.tups, I.base.frzs, I.base.tbls⟩, ⟨_, hn', fun j y v' e1 e2 e3 => ?_⟩, fun y c e => ?_, I.free, I.freeC, fun p hp => ?_, tracked ⟨oL, hoL, I.free⟩ hs, by simpa using I.len⟩ ⟨_, hs, .inl rfl⟩
    · exact (hs.2 b (Nat.ne_of_lt (Nat.lt_of_lt_of_le (Heap.lt_size e) I.ok.above))).trans (I.base.keep b o e n hb hx)
    · obtain ⟨sl, e1⟩ := I.base.slot b o e n hb hx
      exact ⟨sl, (hs.2 b (Nat.ne_of_lt (Nat.lt_of_lt_of_le (Heap.lt_size e) I.ok.above))).trans e1⟩
    · obtain ⟨o', e1⟩ := I.base.there b o e hx
      exact ⟨o', (hs.2 b (Nat.ne_of_lt (Nat.lt_of_lt_of_le (Heap.lt_size e) I.ok.above))).trans e1⟩
    · by_cases hj : j = i
      · subst hj
        rw [hi] at e1; cases e1
        rw [List.getElem?_set_self hiσ] at e2
        cases e2
        exact ⟨u, r, .inl ⟨hk, by simp⟩⟩
      · rw [List.getElem?_set_ne (Ne.symm hj)] at e2
        obtain ⟨u', r', q⟩ := hl j y v' e1 e2 e3
        refine ⟨u', r', ?_⟩
        rcases q with ⟨k, e⟩ | ⟨k, c, e, z⟩
        · refine .inl ⟨k, ?_⟩
          have : y ≠ x := fun e => hj (nodup_ix hN e1 (e ▸ hi))
          simp [this, e]
        · exact .inr ⟨k, c, e, z.sameBut hs (cne y c e)⟩
    · obtain ⟨w', z⟩ := I.cell y c e
      exact ⟨w', z.sameBut hs (cne y c e)⟩
    · obtain ⟨e, n, ne, nf, d⟩ := I.pin p hp
      exact ⟨(hs.2 p.1 ne).trans e, n, ne, nf, d⟩
  · have hfn : X.fn x = true := by
      rcases hf with z | z
      · exact z
      · rw [z] at hk; cases hk
    obtain ⟨c, hc⟩ := I.ok.has x (.inl hk)
    obtain ⟨w', z⟩ := I.cell x c hc
    refine wpAny_storeName_cell I.ok.kind hk hc z (fun h' hc' hs => ?_)
    obtain ⟨oc, hoc, hocd⟩ := id z
    refine h { s with heap := h' } ⟨I.ok, I.os, I.bare, ⟨fun b o e n hb hx => ?_, fun b o e n hb hx => ?_, I.base.free, fun b o e hx => ?_, I.base.tups, I.base.frzs, I.base.tbls⟩, ⟨m, hn.sameBut hs (Ne.symm (cne x c hc)), fun j y v' e1 e2 e3 => ?_⟩, fun y c' e => ?_, I.free, I.freeC, fun p hp => ?_, tracked ⟨oc, hoc, I.freeC x c hc⟩ hs, by simpa using I.len⟩ ⟨c, hs, .inr hc⟩
    · exact (hs.2 b (Nat.ne_of_lt (Nat.lt_of_lt_of_le (Heap.lt_size e) (I.ok.cab x c hfn hc)))).trans (I.base.keep b o e n hb hx)
    · obtain ⟨sl, e1⟩ := I.base.slot b o e n hb hx
      exact ⟨sl, (hs.2 b (Nat.ne_of_lt (Nat.lt_of_lt_of_le (Heap.lt_size e) (I.ok.cab x c hfn hc)))).trans e1⟩
    · obtain ⟨o', e1⟩ := I.base.there b o e hx
      exact ⟨o', (hs.2 b (Nat.ne_of_lt (Nat.lt_of_lt_of_le (Heap.lt_size e) (I.ok.cab x c hfn hc)))).trans e1⟩
    · by_cases hj : j = i
      · subst hj
        rw [hi] at e1; cases e1
        rw [List.getElem?_set_self hiσ] at e2
        cases e2
        exact ⟨u, r, .inr ⟨.inl hk, c, hc, hc'⟩⟩
      · rw [List.getElem?_set_ne (Ne.symm hj)] at e2
        obtain ⟨u', r', q⟩ := hl j y v' e1 e2 e3
        refine ⟨u', r', ?_⟩
        rcases q with q | ⟨k, c', e, z'⟩
        · exact .inl q
        · refine .inr ⟨k, c', e, z'.sameBut hs ?_⟩
          rintro rfl
          exact hj (nodup_ix hN e1 (I.ok.inj _ _ _ e hc ▸ hi))
    · by_cases hcc : c' = c
      · subst hcc; exact ⟨_, hc'⟩
      · obtain ⟨w2, z2⟩ := I.cell y c' e
        exact ⟨w2, z2.sameBut hs hcc⟩
    · obtain ⟨e, n, ne, nf, d⟩ := I.pin p hp
      refine ⟨(hs.2 p.1 ?_).trans e, n, ne, nf, d⟩
      intro q
      rw [q, hoc] at e
      have q' : oc = p.2 := Option.some.inj e
      exact d w' (by rw [← q']; exact hocd)
theorem store_ok {M : Model} {A : Around} {E : Value → Shared → Prop} {i : Nat} {x : Str} {v : V} {u : Value} {Q : Unit → Shared → Prop} (I : Inv X pins σ H s) (hN : X.N.Nodup) (hi : X.N[i]? = some x) (hx : Loc X.env.scope x) (r : RelV v u)
    (h : ∀ s', Inv X pins (σ.set i (some v)) H s' → Q () s') (hf : X.fn x = true ∨ X.env.scope.names.lookup x = some .local := by first | exact .inl rfl | exact .inr rfl | assumption) : wpAny M A (storeName X.env x u) Q E s :=
  store_ok2 I hN hi hx r (fun s' I' _ => h s' I') hf
/-- behind a call or a block, the state as it is -/
theorem Inv.call' {s' : Shared} {ch : List Addr} (I : Inv X pins σ H s) (ho : s'.os = s.os) (u : Un (frs X.stack) ch H H' s.heap s'.heap) (hok : HOk X.prog X.w H' s'.heap) (hg : AllBare s'.gens)
    (hch : ∀ b ∈ ch, (b ∈ X.ex ∨ X.s₀.heap.objs.size ≤ b) ∧ b ≠ X.env.locals ∧ (∀ x c, X.env.cells.lookup x = some c → c ≠ b) ∧ ∀ p ∈ X.pn ++ pins, p.1 ≠ b) : Inv X pins σ H' s' := by
  obtain ⟨h', g', d', t', o'⟩ := s'
  have e : o' = s.os := ho
  subst e
  exact I.call (g' := g') (t' := t') (d' := d') u hok hg hch
end

/-! ### the judgements -/
/-- an exception: its class, its own dict's address (where it has one), the abstract heap behind it -/
abbrev XK := Value → Option Addr → Hp → Prop
abbrev St := List (Option V)
abbrev VK := V → Hp → Prop
/-- an expression's reading; a test's; an argument list's -/
abbrev TE := St → Hp → VK → Prop
abbrev TT := St → Hp → (Bool → Hp → Prop) → Prop
abbrev TA := St → Hp → (List V → Hp → Prop) → Prop
/-- what is wanted behind a statement -/
structure Ends where
  nx : St → Hp → Prop
  rt : VK
  bk : St → Hp → Prop := fun _ _ => False
  ct : St → Hp → Prop := fun _ _ => False
abbrev TS := Ends → St → Hp → Prop

def EP (X : Cx) (pins : List (Addr × Obj)) (σ : St) (Q : VK) (u : Value) (s' : Shared) : Prop := ∃ v H', Inv X pins σ H' s' ∧ RelV v u ∧ Q v H'
def TP (X : Cx) (pins : List (Addr × Obj)) (σ : St) (Q : Bool → Hp → Prop) (b : Bool) (s' : Shared) : Prop := ∃ H', Inv X pins σ H' s' ∧ Q b H'
def AP (X : Cx) (pins : List (Addr × Obj)) (σ : St) (Q : List V → Hp → Prop) (us : List Value) (s' : Shared) : Prop := ∃ vs H', Inv X pins σ H' s' ∧ Vals vs us ∧ Q vs H'
def SP (X : Cx) (pins : List (Addr × Obj)) (D : Ends) (f : Flow) (s' : Shared) : Prop :=
  match f with
  | .next => ∃ σ' H', Inv X pins σ' H' s' ∧ D.nx σ' H'
  | .brk => ∃ σ' H', Inv X pins σ' H' s' ∧ D.bk σ' H'
  | .cont => ∃ σ' H', Inv X pins σ' H' s' ∧ D.ct σ' H'
  | .ret u => ∃ v σ' H', Inv X pins σ' H' s' ∧ RelV v u ∧ D.rt v H'

def PE (X : Cx) (e : Expr) (t : TE) : Prop :=
  ∀ (pins : List (Addr × Obj)) (s : Shared) (σ : St) (H : Hp) (Q : VK), Inv X pins σ H s → t σ H Q → wpAny (model X.prog X.w) X.A (eval e X.env) (EP X pins σ Q) X.xe s
def PT (X : Cx) (e : Expr) (t : TT) : Prop :=
  ∀ (pins : List (Addr × Obj)) (s : Shared) (σ : St) (H : Hp) (Q : Bool → Hp → Prop), Inv X pins σ H s → t σ H Q → wpAny (model X.prog X.w) X.A (isTrue e X.env (eval e X.env)) (TP X pins σ Q) X.xe s
/-- a test whatever its 'whole' is (and, or) -/
def PW (X : Cx) (e : Expr) (t : TT) : Prop :=
  ∀ (whole : Sem Value) (pins : List (Addr × Obj)) (s : Shared) (σ : St) (H : Hp) (Q : Bool → Hp → Prop), Inv X pins σ H s → t σ H Q → wpAny (model X.prog X.w) X.A (isTrue e X.env whole) (TP X pins σ Q) X.xe s
theorem PW.pt {X : Cx} {e : Expr} {t : TT} (h : PW X e t) : PT X e t := h _
/-- an argument list (no star), from the left -/
def PA (X : Cx) (es : List Expr) (t : TA) : Prop :=
  ∀ (pos : Pos) (pins : List (Addr × Obj)) (s : Shared) (σ : St) (H : Hp) (Q : List V → Hp → Prop), Inv X pins σ H s → t σ H Q → wpAny (model X.prog X.w) X.A (spliced (backTo pos (starEach es X.env))) (AP X pins σ Q) X.xe s
def PS (X : Cx) (st : Stmt) (t : TS) : Prop :=
  ∀ (pins : List (Addr × Obj)) (s : Shared) (σ : St) (H : Hp) (D : Ends), Inv X pins σ H s → t D σ H → wpAny (model X.prog X.w) X.A (exec st X.env) (SP X pins D) X.xe s
def PSs (X : Cx) (st : List Stmt) (t : TS) : Prop :=
  ∀ (pins : List (Addr × Obj)) (s : Shared) (σ : St) (H : Hp) (D : Ends), Inv X pins σ H s → t D σ H → wpAny (model X.prog X.w) X.A (execs st X.env) (SP X pins D) X.xe s
/-- weaken the end -/
theorem thn {α : Type} {t : Sem α} {Q Q' : α → Shared → Prop} {M : Model} {A : Around} {E : Value → Shared → Prop} {s : Shared} (h : wpAny M A t Q E s) (hQ : ∀ a s, Q a s → Q' a s) : wpAny M A t Q' E s := wpAny_mono h hQ fun _ _ x => x
end L2

namespace L2
open PySem PySem.Spec PyProof.Rows
section
variable {X : Cx}

/-! ### names and constants -/
def tVar (i : Nat) : TE := fun σ H Q => ∃ v, σ[i]? = some (some v) ∧ Q v H
def tC (v : V) : TE := fun _ H Q => Q v H
theorem pe_var {i : Nat} {x : Str} {pos : Pos} (hN : X.N[i]? = some x) (hv : Vis X.env.scope x) (hd : (x == ("__debug__" : Str)) = false := by decide) (hcd : (x == ("__classdict__" : Str)) = false := by decide) : PE X (.Name x pos) (tVar i) := by
  intro pins s σ H Q I h
  obtain ⟨v, e, h⟩ := h
  obtain ⟨m, hn, hl⟩ := I.loc
  obtain ⟨u, r, l⟩ := hl i x v hN e hv
  have fin : EP X pins σ Q u s := ⟨v, H, I, r, h⟩
  rcases l with ⟨hk, hm⟩ | ⟨hk, c, hc, hcell⟩
  · exact wpAny_Name (wpAny_loadName_local I.ok.kind hk hn hm fin) hd
  · rcases hk with hk | hk
    · exact wpAny_Name (wpAny_loadName_cell I.ok.kind hk hc hcell fin) hd
    · exact wpAny_Name (wpAny_loadName_free I.ok.kind hk hc hcell fin hcd) hd
theorem pe_int {i j pos} : PE X (.Constant (.int i) j pos) (tC (.int i)) := fun _ _ _ H _ I h => wpAny_Constant_int ⟨.int i, H, I.tok _, ⟨_, rfl⟩, h⟩
theorem pe_bl {b j pos} : PE X (.Constant (.bool b) j pos) (tC (.bl b)) := fun _ _ _ H _ I h => Constant_bool ⟨.bl b, H, I, rfl, h⟩
theorem pe_non {j pos} : PE X (.Constant .none j pos) (tC .non) := fun _ _ _ H _ I h => Constant_none ⟨.non, H, I, rfl, h⟩
/-- a global name of the def -/
def Gl (X : Cx) (x : Str) : Prop := X.env.kindOf x = some .globalImplicit
theorem ld_glob {E : Value → Shared → Prop} {pins : List (Addr × Obj)} {s : Shared} {σ : St} {H : Hp} {x : Str} {u : Value} {pos : Pos} {Q : Value → Shared → Prop} (I : Inv X pins σ H s) (hg : Gl X x) (hm : X.mg x = some u) (h : Q u s)
    (hd : (x == ("__debug__" : Str)) = false := by decide) : wpAny (model X.prog X.w) X.A (eval (.Name x pos) X.env) Q E s :=
  Calls.Name_function_global I.ok.kind hg (Calls.loadGlobal_global (by rw [I.ok.glob]; exact I.mod.glob.keeps I.bk) hm h) hd
theorem ld_blt {E : Value → Shared → Prop} {pins : List (Addr × Obj)} {s : Shared} {σ : St} {H : Hp} {x : Str} {u : Value} {pos : Pos} {Q : Value → Shared → Prop} (I : Inv X pins σ H s) (hg : Gl X x) (hm : X.mg x = none) (hv : bootBuiltins x = some u) (h : Q u s)
    (hn : x ≠ "__name__" := by decide) (hd : (x == ("__debug__" : Str)) = false := by decide) : wpAny (model X.prog X.w) X.A (eval (.Name x pos) X.env) Q E s := by
  obtain ⟨mb, h1, h2⟩ := I.mod.blt
  exact Calls.Name_function_global I.ok.kind hg (Calls.loadGlobal_builtin (by rw [I.ok.glob]; exact I.mod.glob.keeps I.bk) hm (by rw [I.ok.blt]; exact h1.keeps I.bk) ((h2 x hn).trans hv) h) hd
/-- a module's constant, a class, a function, as a value -/
theorem pe_glob {x : Str} {v : V} {u : Value} {pos : Pos} (hg : Gl X x) (hm : X.mg x = some u) (r : RelV v u) (hd : (x == ("__debug__" : Str)) = false := by decide) : PE X (.Name x pos) (tC v) :=
  fun _ _ _ H _ I h => ld_glob I hg hm ⟨v, H, I, r, h⟩ hd
theorem pe_bltn {x : Str} {v : V} {u : Value} {pos : Pos} (hg : Gl X x) (hm : X.mg x = none) (hv : bootBuiltins x = some u) (r : RelV v u) (hn : x ≠ "__name__" := by decide) (hd : (x == ("__debug__" : Str)) = false := by decide) : PE X (.Name x pos) (tC v) :=
  fun _ _ _ H _ I h => ld_blt I hg hm hv ⟨v, H, I, r, h⟩ hn hd

/-! ### arithmetic -/
variable {a b : Expr} {ta tb : TE} {pos : Pos}
/-! ### comparisons -/
/-- a comparison as a value, as a test -/
def tB (t : TE) : TT := fun σ H Q => t σ H fun x H1 => ∃ c, x = .bl c ∧ Q c H1
/-- an expression whose value is a bool, as a test -/
theorem pt_val {e : Expr} {t : TE} (h : PE X e t) (he : ∀ whole, isTrue e X.env whole = (do let v ← whole; standAt e.pos; holding [v] (truthy v)) := by intro _; rfl) : PT X e (tB t) := by
  intro pins s σ H Q I hw
  refine isTrue_plain (thn (h pins s σ H _ I hw) fun v s1 ⟨x, H1, I1, r1, q1⟩ => ?_) (he _)
  obtain ⟨d, rfl, q⟩ := q1
  cases r1
  exact wpAny_truthy_bool ⟨H1, I1, q⟩

/-! ### and, or, not -/
variable {tA tB' : TT} {rest : List Expr}
def tAnd (t u : TT) : TT := fun σ H Q => t σ H fun c H1 => if c = true then u σ H1 Q else Q false H1
def tOr (t u : TT) : TT := fun σ H Q => t σ H fun c H1 => if c = true then Q true H1 else u σ H1 Q
def tNot (t : TT) : TT := fun σ H Q => t σ H fun c H1 => Q (!c) H1
theorem pw_and1 (ha : PT X a tA) : PW X (.BoolOp .And [a] pos) tA := by
  intro wh pins s σ H Q I h
  refine isTrue_and (thn (ha pins s σ H Q I h) fun c s1 e => ?_)
  cases c with
  | true => exact isTrue_and_nil e
  | false => exact e
theorem pw_or1 (ha : PT X a tA) : PW X (.BoolOp .Or [a] pos) tA := by
  intro wh pins s σ H Q I h
  refine isTrue_or (thn (ha pins s σ H Q I h) fun c s1 e => ?_)
  cases c with
  | false => exact isTrue_or_nil e
  | true => exact e
theorem pw_and (ha : PT X a tA) (hb : PW X (.BoolOp .And (b :: rest) pos) tB') : PW X (.BoolOp .And (a :: b :: rest) pos) (tAnd tA tB') := by
  intro wh pins s σ H Q I h
  refine isTrue_and (thn (ha pins s σ H _ I h) fun c s1 ⟨H1, I1, q1⟩ => ?_)
  cases c with
  | true => exact hb wh pins s1 σ H1 Q I1 q1
  | false => exact ⟨H1, I1, q1⟩
theorem pw_or (ha : PT X a tA) (hb : PW X (.BoolOp .Or (b :: rest) pos) tB') : PW X (.BoolOp .Or (a :: b :: rest) pos) (tOr tA tB') := by
  intro wh pins s σ H Q I h
  refine isTrue_or (thn (ha pins s σ H _ I h) fun c s1 ⟨H1, I1, q1⟩ => ?_)
  cases c with
  | true => exact ⟨H1, I1, q1⟩
  | false => exact hb wh pins s1 σ H1 Q I1 q1
theorem pt_not (ha : PT X a tA) : PT X (.UnaryOp .Not a pos) (tNot tA) := by
  intro pins s σ H Q I h
  exact isTrue_not (ha pins s σ H (fun c H1 => Q (!c) H1) I h)
/-- .. as values (bools) -/
def tAndV (ta tb : TE) : TE := fun σ H Q => ta σ H fun x H1 => ∃ c, x = .bl c ∧ if c = true then tb σ H1 Q else Q (.bl false) H1
def tNotV (ta : TE) : TE := fun σ H Q => ta σ H fun x H1 => ∃ c, x = .bl c ∧ Q (.bl (!c)) H1
theorem pe_one {op} {t : TE} (h : PE X a t) : PE X (.BoolOp op [a] pos) t := fun pins s σ H Q I hw => BoolOp_one (h pins s σ H Q I hw)
theorem pe_and (ha : PE X a ta) (hb : PE X (.BoolOp .And (b :: rest) pos) tb) : PE X (.BoolOp .And (a :: b :: rest) pos) (tAndV ta tb) := by
  intro pins s σ H Q I h
  refine BoolOp_and (thn (ha pins s σ H _ I h) fun v s1 ⟨x, H1, I1, r1, q1⟩ => ?_)
  obtain ⟨c, rfl, q1⟩ := q1
  cases r1
  refine wpAny_truthy_bool ?_
  cases c with
  | true => exact hb pins s1 σ H1 Q I1 q1
  | false => exact ⟨.bl false, H1, I1, rfl, q1⟩
theorem pe_not (ha : PE X a ta) : PE X (.UnaryOp .Not a pos) (tNotV ta) := by
  intro pins s σ H Q I h
  refine UnaryOp_ (thn (ha pins s σ H _ I h) fun v s1 ⟨x, H1, I1, r1, q1⟩ => ?_)
  obtain ⟨c, rfl, q1⟩ := q1
  cases r1
  exact not_of (wpAny_truthy_bool ⟨.bl (!c), H1, I1, rfl, q1⟩)
end
end L2

namespace L2
open PySem PySem.Spec PyProof.Rows

/-! ### a list, a tuple that is read: tracked, frozen, or an object of the module -/
def SqL (K : PySem.W.Frag) (H : Hp) (a : Addr) (xs : List V) : Prop :=
  Rd H a (.lst xs) ∨
    ∃ (o : Obj) (its : Array Value) (n : Nat), K.lookup a = some o ∧ o.cls = .type "list" ∧ o.dict = none ∧ o.data = .seq its n ∧ its.size ≤ sizeLine ∧ Vals xs its.toList
def SqT (K : PySem.W.Frag) (H : Hp) (a : Addr) (xs : List V) : Prop :=
  Rd H a (.tup xs) ∨
    ∃ (o : Obj) (its : Array Value) (n : Nat), K.lookup a = some o ∧ o.cls = .type "tuple" ∧ o.data = .seq its n ∧ its.size ≤ sizeLine ∧ Vals xs its.toList
def absV : Value → Option V
  | .none => some .non
  | .bool b => some (.bl b)
  | .int i _ => some (.int i)
  | .str x _ => some (.str x)
  | .bytes b _ => some (.byt b)
  | .float b _ => some (.flt b)
  | .ref a => some (.ref a)
  | .type n => some (.ty n)
  | _ => none
theorem RelV.abs {x : V} {u : Value} (r : RelV x u) : absV u = some x := by
  cases x with
  | non => cases r; rfl
  | bl _ => cases r; rfl
  | int _ => obtain ⟨t, rfl⟩ := r; rfl
  | str _ => obtain ⟨t, rfl⟩ := r; rfl
  | byt _ => obtain ⟨t, rfl⟩ := r; rfl
  | flt _ => obtain ⟨t, rfl⟩ := r; rfl
  | ref _ => cases r; rfl
  | ty _ => cases r; rfl
theorem RelV.inj {x y : V} {u : Value} (r : RelV x u) (q : RelV y u) : x = y := Option.some.inj (r.abs.symm.trans q.abs)
theorem Vals.inj : ∀ {xs ys : List V} {us : List Value}, Vals xs us → Vals ys us → xs = ys
  | _, _, _, .nil, .nil => rfl
  | _, _, _, .cons r t, .cons r' t' => by rw [r.inj r', Vals.inj t t']
section
variable {X : Cx} {pins : List (Addr × Obj)} {σ : St} {H : Hp} {s : Shared} {a : Addr} {xs ys : List V}
theorem SqL.of {K : PySem.W.Frag} (h : H a = some (.lst xs)) : SqL K H a xs := .inl (.inl h)
theorem SqT.of {K : PySem.W.Frag} (h : H a = some (.tup xs)) : SqT K H a xs := .inl (.inl h)
theorem Inv.list (I : Inv X pins σ H s) (h : SqL X.K H a xs) : ∃ its : List Value, Vals xs its ∧ PlainL s.heap a its.toArray ∧ xs.length ≤ sizeLine := by
  rcases h with h | ⟨o, its, n, hk, hc, hd, hs, hz, r⟩
  · obtain ⟨z, its, n, r, e⟩ := h.ok I.hok
    exact ⟨its, r, ⟨_, n, e, rfl, rfl, rfl⟩, z⟩
  · refine ⟨its.toList, r, ⟨o, n, I.kIn a o hk, hc, hd, by simpa using hs⟩, ?_⟩
    have e := r.length
    simp only [Array.length_toList] at e
    omega
theorem Inv.tuple (I : Inv X pins σ H s) (h : SqT X.K H a xs) : ∃ its : List Value, Vals xs its ∧ IsTup s.heap a its.toArray ∧ xs.length ≤ sizeLine := by
  rcases h with h | ⟨o, its, n, hk, hc, hs, hz, r⟩
  · obtain ⟨z, its, r, p⟩ := h.ok I.hok
    exact ⟨its, r, p, z⟩
  · refine ⟨its.toList, r, ⟨o, I.kIn a o hk, hc, n, by simpa using hs⟩, ?_⟩
    have e := r.length
    simp only [Array.length_toList] at e
    omega
theorem Inv.list_inj (I : Inv X pins σ H s) (h : SqL X.K H a xs) (h' : SqL X.K H a ys) : xs = ys := by
  obtain ⟨its, r, ⟨o, n, e, _, _, d⟩, _⟩ := I.list h
  obtain ⟨its', r', ⟨o', n', e', _, _, d'⟩, _⟩ := I.list h'
  rw [e] at e'; cases e'
  rw [d] at d'
  injection d' with d1 _
  have : its = its' := by simpa using congrArg Array.toList d1
  subst this
  exact r.inj r'
theorem Inv.tuple_inj (I : Inv X pins σ H s) (h : SqT X.K H a xs) (h' : SqT X.K H a ys) : xs = ys := by
  obtain ⟨its, r, ⟨o, e, _, n, d⟩, _⟩ := I.tuple h
  obtain ⟨its', r', ⟨o', e', _, n', d'⟩, _⟩ := I.tuple h'
  rw [e] at e'; cases e'
  rw [d] at d'
  injection d' with d1 _
  have : its = its' := by simpa using congrArg Array.toList d1
  subst this
  exact r.inj r'
end

/-! ### another wish about exceptions -/
abbrev Cx.wish (X : Cx) (E : Value → Shared → Prop) : Cx := { X with xe := E }
/-- no exception leaves -/
abbrev Cx.nox (X : Cx) : Cx := X.wish fun _ _ => False
theorem Cx.Ok.wish {X : Cx} (ok : X.Ok) (E : Value → Shared → Prop) : (X.wish E).Ok :=
  ⟨ok.mod, ok.kind, ok.glob, ok.blt, ok.above, ok.inj, ok.has, ok.cab, ok.hd, ok.frames, ok.stk, ok.exf, ok.bs, ok.bsz, ok.noex, ok.exfs, ok.funs, ok.frf⟩
theorem Cx.Ok.unwish {X : Cx} {E : Value → Shared → Prop} (ok : (X.wish E).Ok) : X.Ok :=
  ⟨ok.mod, ok.kind, ok.glob, ok.blt, ok.above, ok.inj, ok.has, ok.cab, ok.hd, ok.frames, ok.stk, ok.exf, ok.bs, ok.bsz, ok.noex, ok.exfs, ok.funs, ok.frf⟩
section
variable {X : Cx} {pins : List (Addr × Obj)} {σ : St} {H : Hp} {s : Shared} {E : Value → Shared → Prop}
theorem Inv.wish (I : Inv X pins σ H s) (E : Value → Shared → Prop) : Inv (X.wish E) pins σ H s := ⟨I.ok.wish E, I.os, I.bare, I.base, I.loc, I.cell, I.free, I.freeC, I.pin, I.hok, I.len⟩
theorem Inv.unwish (I : Inv (X.wish E) pins σ H s) : Inv X pins σ H s := ⟨I.ok.unwish, I.os, I.bare, I.base, I.loc, I.cell, I.free, I.freeC, I.pin, I.hok, I.len⟩
theorem SP.unwish {D : Ends} {f : Flow} {s' : Shared} (h : SP (X.wish E) pins D f s') : SP X pins D f s' := by
  cases f with
  | next => obtain ⟨σ', H', I, q⟩ := h; exact ⟨σ', H', I.unwish, q⟩
  | brk => obtain ⟨σ', H', I, q⟩ := h; exact ⟨σ', H', I.unwish, q⟩
  | cont => obtain ⟨σ', H', I, q⟩ := h; exact ⟨σ', H', I.unwish, q⟩
  | ret u => obtain ⟨v, σ', H', I, r, q⟩ := h; exact ⟨v, σ', H', I.unwish, r, q⟩
theorem PSs.nox {st : List Stmt} {t : TS} (h : PSs X.nox st t) : PSs X st t := fun pins s σ H D I hw =>
  wpAny_mono (h pins s σ H D (I.wish _) hw) (fun _ _ q => q.unwish) fun _ _ z => False.elim z
end

/-! ### blocks and small statements -/
section
variable {X : Cx} {st : Stmt} {rest : List Stmt} {t u : TS} {e : Expr} {te : TE} {pos : Pos}
def tNext : TS := fun D σ H => D.nx σ H
def tSeq (t u : TS) : TS := fun D σ H => t { D with nx := u D } σ H
theorem pss_nil : PSs X [] tNext := fun _ _ σ H _ I h => wpAny_execs_nil ⟨σ, H, I, h⟩
theorem pss_cons (h1 : PS X st t) (h2 : PSs X rest u) : PSs X (st :: rest) (tSeq t u) := by
  intro pins s σ H D I h
  refine wpAny_execs_cons (thn (h1 pins s σ H { D with nx := u D } I h) fun f s1 q => ?_)
  cases f with
  | next =>
    obtain ⟨σ', H', I', q⟩ := q
    exact h2 pins s1 σ' H' D I' q
  | ret v => exact q
  | brk => exact q
  | cont => exact q
theorem pss_one (h1 : PS X st t) : PSs X [st] t := by
  intro pins s σ H D I h
  refine wpAny_execs_cons (thn (h1 pins s σ H D I h) fun f s1 q => ?_)
  cases f with
  | next => exact wpAny_execs_nil q
  | ret v => exact q
  | brk => exact q
  | cont => exact q
/-- in a def's body nothing is shown -/
theorem Inv.quiet {pins : List (Addr × Obj)} {σ : St} {H : Hp} {s : Shared} (I : Inv X pins σ H s) : interactive X.env = false := by simp [interactive, I.ok.kind]
/-- an expression whose value is dropped -/
def tDrop (te : TE) : TS := fun D σ H => te σ H fun _ H1 => D.nx σ H1
theorem ps_expr (he : PE X e te) (hs : swapsWith e none pos.line X.env = pure false := by rfl) : PS X (.Expr e pos) (tDrop te) := by
  intro pins s σ H D I h
  exact wpAny_Expr_any (thn (he pins s σ H _ I h) fun v s1 ⟨x, H1, I1, r1, q1⟩ => ⟨σ, H1, I1, q1⟩) I.quiet hs
def tRet (te : TE) : TS := fun D σ H => te σ H D.rt
theorem ps_ret (he : PE X e te) : PS X (.Return (some e) pos) (tRet te) := by
  intro pins s σ H D I h
  exact wpAny_Return_some (thn (he pins s σ H _ I h) fun v s1 ⟨x, H1, I1, r1, q1⟩ => ⟨x, σ, H1, I1, r1, q1⟩)
def tIfS (c : TT) (t u : TS) : TS := fun D σ H => c σ H fun b H1 => if b = true then t D σ H1 else u D σ H1
theorem ps_if {c : Expr} {a b : List Stmt} {tc : TT} (hc : PT X c tc) (ha : PSs X a t) (hb : PSs X b u) : PS X (.If c a b pos) (tIfS tc t u) := by
  intro pins s σ H D I h
  refine wpAny_If (thn (hc pins s σ H _ I h) fun d s1 ⟨H1, I1, q1⟩ => ?_)
  cases d with
  | true => exact ha pins s1 σ H1 D I1 q1
  | false => exact hb pins s1 σ H1 D I1 q1
/-- code that the proof never comes to -/
def tNever : TS := fun _ _ _ => False
theorem pss_never {sts : List Stmt} : PSs X sts tNever := fun _ _ _ _ _ _ h => h.elim
end

/-! ### targets -/
abbrev TG := V → St → Hp → (St → Hp → Prop) → Prop
abbrev TGs := List V → St → Hp → (St → Hp → Prop) → Prop
def PG (X : Cx) (target : Expr) (t : TG) : Prop :=
  ∀ (pins : List (Addr × Obj)) (s : Shared) (σ : St) (H : Hp) (v : V) (u : Value) (Q : St → Hp → Prop), Inv X pins σ H s → RelV v u → t v σ H Q →
    wpAny (model X.prog X.w) X.A (assign target X.env u) (fun _ s' => ∃ σ' H', Inv X pins σ' H' s' ∧ Q σ' H') X.xe s
/-- several targets, one after another -/
def PGs (X : Cx) (ts : List Expr) (t : TGs) : Prop :=
  ∀ (pins : List (Addr × Obj)) (s : Shared) (σ : St) (H : Hp) (vs : List V) (us : List Value) (Q : St → Hp → Prop), Inv X pins σ H s → Vals vs us → t vs σ H Q →
    wpAny (model X.prog X.w) X.A (assignInOrder ((assignEach ts X.env).map (·.2)) us) (fun _ s' => ∃ σ' H', Inv X pins σ' H' s' ∧ Q σ' H') X.xe s
/-- o[i] = v, by values -/
abbrev TSet := V → V → V → Hp → (Hp → Prop) → Prop
def PSet (X : Cx) (t : TSet) : Prop :=
  ∀ (pins : List (Addr × Obj)) (s : Shared) (σ : St) (H : Hp) (o i v : V) (ov iv u : Value) (Q : Hp → Prop), Inv X pins σ H s → RelV o ov → RelV i iv → RelV v u → t o i v H Q →
    wpAny (model X.prog X.w) X.A (setItem ov iv u) (fun _ s' => ∃ H', Inv X pins σ H' s' ∧ Q H') X.xe s
/-- a op= b, by values -/
abbrev TIp := V → V → Hp → VK → Prop
def PIp (X : Cx) (op : Operator) (t : TIp) : Prop :=
  ∀ (pins : List (Addr × Obj)) (s : Shared) (σ : St) (H : Hp) (x y : V) (v u : Value) (Q : VK), Inv X pins σ H s → RelV x v → RelV y u → t x y H Q →
    wpAny (model X.prog X.w) X.A (inplaceOp op v u) (EP X pins σ Q) X.xe s
section
variable {X : Cx} {pos : Pos}
def gName (i : Nat) : TG := fun v σ H Q => Q (σ.set i (some v)) H
theorem pg_name {i : Nat} {x : Str} (hN : X.N.Nodup) (hi : X.N[i]? = some x) (hx : Loc X.env.scope x) (hf : X.fn x = true ∨ X.env.scope.names.lookup x = some .local := by first | exact .inl rfl | exact .inr rfl | assumption) : PG X (.Name x pos) (gName i) := by
  intro pins s σ H v u Q I r h
  exact wpAny_assign_Name (store_ok I hN hi hx r (fun s' I' => ⟨_, H, I', h⟩) hf)
def gNil : TGs := fun vs σ H Q => vs = [] ∧ Q σ H
def gCons (t : TG) (u : TGs) : TGs := fun vs σ H Q => ∃ v r, vs = v :: r ∧ t v σ H fun σ' H' => u r σ' H' Q
theorem pgs_nil : PGs X [] gNil := by
  intro pins s σ H vs us Q I r h
  obtain ⟨e, h⟩ := h
  subst e
  cases r
  exact assignInOrder_nil ⟨σ, H, I, h⟩
theorem pgs_cons {e : Expr} {es : List Expr} {t : TG} {u : TGs} (h1 : PG X e t) (h2 : PGs X es u)
    (hs : (assignEach (e :: es) X.env).map (·.2) = assign e X.env :: (assignEach es X.env).map (·.2) := by rfl) : PGs X (e :: es) (gCons t u) := by
  intro pins s σ H vs us Q I r h
  obtain ⟨v, vr, e1, h⟩ := h
  subst e1
  cases r with
  | cons r rr =>
    rw [hs]
    refine assignInOrder_cons (thn (h1 pins s σ H _ _ _ I r h) fun _ s1 ⟨σ1, H1, I1, q1⟩ => ?_)
    exact h2 pins s1 σ1 H1 _ _ Q I1 rr q1
/-- (a, b, ..) = a tuple of that length -/
def gTup (K : PySem.W.Frag) (n : Nat) (t : TGs) : TG := fun v σ H Q => ∃ a xs, v = .ref a ∧ SqT K H a xs ∧ xs.length = n ∧ t xs σ H Q
theorem pg_tup {es : List Expr} {k : Nat} {t : TGs} {n : Nat} (hc : X.calm = true) (h : PGs X es t)
    (hn : (assignEach es X.env).length = n := by rfl) (hst : (assignEach es X.env).findIdx? (·.1) = none := by rfl) : PG X (.Tuple es k pos) (gTup X.K n t) := by
  intro pins s σ H v u Q I r hw
  obtain ⟨a, xs, e1, hq, hl, hw⟩ := hw
  subst e1
  cases r
  obtain ⟨its, rv, ht, hz⟩ := I.tuple hq
  refine assign_Tuple_tuple (I.ok.hd hc) ht (by simp [hn, ← hl, rv.length]) hst fun h' hx => ?_
  have I1 : Inv X pins σ H { s with heap := h' } := I.kept (t' := s.toks) fun b o e => hx b o (Nat.ne_of_lt (Heap.lt_size e)) e
  exact h pins _ σ H xs _ Q I1 (by simpa using rv) hw
/-- o[i] = .. -/
def gSub (to ti : TE) (t : TSet) : TG := fun v σ H Q => to σ H fun o H1 => ti σ H1 fun i H2 => t o i v H2 fun H3 => Q σ H3
theorem pg_sub {o i : Expr} {to ti : TE} {t : TSet} (ho : PE X o to) (hi : PE X i ti) (hs : PSet X t)
    (ha : ∀ v, assign (.Subscript o i pos) X.env v = (do
      let ov ← holding [v] (eval o X.env)
      let iv ← holding [v, ov] (eval i X.env)
      standAt pos
      holding [v, ov, iv] (setItem ov iv v)
      release [v, ov, iv] []) := by intro _; rfl) : PG X (.Subscript o i pos) (gSub to ti t) := by
  intro pins s σ H v u Q I r h
  rw [ha]
  refine wpAny_bind (wpAny_holding (thn (ho pins s σ H _ I h) fun ov s1 ⟨x, H1, I1, r1, q1⟩ => ?_))
  refine wpAny_bind (wpAny_holding (thn (hi pins s1 σ H1 _ I1 q1) fun iv s2 ⟨y, H2, I2, r2, q2⟩ => ?_))
  refine wpAny_bind (wpAny_standAt (wpAny_bind (wpAny_holding (thn (hs pins s2 σ H2 x y v ov iv u _ I2 r1 r2 r q2) fun _ s3 ⟨H3, I3, q3⟩ => ?_))))
  exact wpAny_release ⟨σ, H3, I3, q3⟩
/-- target = value -/
def tAsg (te : TE) (g : TG) : TS := fun D σ H => te σ H fun x H1 => g x σ H1 D.nx
theorem ps_asg {tg e : Expr} {te : TE} {g : TG} (he : PE X e te) (hg : PG X tg g) (hs : swapsWithSole [tg] e pos.line X.env = pure false := by rfl) (hw : swappedStores [tg] e X.env = pure none := by rfl)
    (h1 : (assignEach [tg] X.env).map (·.2) = [assign tg X.env] := by rfl) : PS X (.Assign [tg] e pos) (tAsg te g) := by
  intro pins s σ H D I h
  refine wpAny_Assign_stores (thn (he pins s σ H _ I h) fun v s1 ⟨x, H1, I1, r1, q1⟩ => ?_) hs hw
  rw [h1]
  exact thn (hg pins s1 σ H1 x v _ I1 r1 q1) fun _ s2 q => q
/-- name = value -/
theorem ps_set {i : Nat} {x : Str} {e : Expr} {te : TE} {pos' : Pos} (hN : X.N.Nodup) (hi : X.N[i]? = some x) (hx : Loc X.env.scope x) (he : PE X e te) (hs : swapsWith e (some (.Name x pos')) pos.line X.env = pure false := by rfl) (hf : X.fn x = true ∨ X.env.scope.names.lookup x = some .local := by first | exact .inl rfl | exact .inr rfl | assumption) :
    PS X (.Assign [.Name x pos'] e pos) (tAsg te (gName i)) := by
  intro pins s σ H D I h
  refine wpAny_Assign_Name (thn (he pins s σ H _ I h) fun v s1 ⟨y, H1, I1, r1, q1⟩ => ?_) hs
  exact store_ok I1 hN hi hx r1 (fun s2 I2 => ⟨_, H1, I2, q1⟩) hf
/-- name op= e -/
def tAug (i : Nat) (te : TE) (ti : TIp) : TS := fun D σ H => ∃ x, σ[i]? = some (some x) ∧ te σ H fun y H1 => ti x y H1 fun z H2 => D.nx (σ.set i (some z)) H2
theorem ps_aug {i : Nat} {x : Str} {e : Expr} {te : TE} {op : Operator} {ti : TIp} {pos' : Pos} (hN : X.N.Nodup) (hi : X.N[i]? = some x) (hx : Loc X.env.scope x) (he : PE X e te) (ho : PIp X op ti) (hf : X.fn x = true ∨ X.env.scope.names.lookup x = some .local := by first | exact .inl rfl | exact .inr rfl | assumption) :
    PS X (.AugAssign (.Name x pos') op e pos) (tAug i te ti) := by
  intro pins s σ H D I h
  obtain ⟨v, e1, h⟩ := h
  obtain ⟨m, hn, hl⟩ := I.loc
  have vis : Vis X.env.scope x := by rcases hx with k | k; exact .inl k; exact .inr (.inl k)
  obtain ⟨u, r, l⟩ := hl i x v hi e1 vis
  refine wpAny_AugAssign_Name ?_
  have go : wpAny (model X.prog X.w) X.A (eval e X.env) (fun w s₂ => wpAny (model X.prog X.w) X.A (inplaceOp op u w) (fun r s₃ => wpAny (model X.prog X.w) X.A (storeName X.env x r) (fun _ => SP X pins D .next) X.xe s₃) X.xe s₂) X.xe s := by
    refine thn (he pins s σ H _ I h) fun w s1 ⟨y, H1, I1, r1, q1⟩ => ?_
    refine thn (ho pins s1 σ H1 v y u w _ I1 r r1 q1) fun z s2 ⟨zv, H2, I2, r2, q2⟩ => ?_
    exact store_ok I2 hN hi hx r2 (fun s3 I3 => ⟨_, H2, I3, q2⟩) hf
  rcases l with ⟨hk, hm⟩ | ⟨hk, c, hc, hcell⟩
  · exact wpAny_loadName_local I.ok.kind hk hn hm go
  · rcases hk with hk | hk
    · exact wpAny_loadName_cell I.ok.kind hk hc hcell go
    · rcases hx with k | k
      · have : X.env.scope.names.lookup x = some .free := hk
        rw [k] at this; cases this
      · have : X.env.scope.names.lookup x = some .free := hk
        rw [k] at this; cases this
/-- o[i] op= e -/
def tAugS (to ti te : TE) (tget : V → V → Hp → VK → Prop) (tip : TIp) (tset : TSet) : TS := fun D σ H => to σ H fun o H1 => ti σ H1 fun i H2 => tget o i H2 fun x H3 => te σ H3 fun y H4 => tip x y H4 fun z H5 => tset o i z H5 fun H6 => D.nx σ H6
/-- o[i], by values -/
def PGet (X : Cx) (t : V → V → Hp → VK → Prop) : Prop :=
  ∀ (pins : List (Addr × Obj)) (s : Shared) (σ : St) (H : Hp) (o i : V) (ov iv : Value) (Q : VK), Inv X pins σ H s → RelV o ov → RelV i iv → t o i H Q →
    wpAny (model X.prog X.w) X.A (getItem ov iv) (EP X pins σ Q) X.xe s
theorem ps_augS {o i e : Expr} {to ti te : TE} {tget : V → V → Hp → VK → Prop} {tip : TIp} {tset : TSet} {op : Operator} {tpos : Pos} (ho : PE X o to) (hi : PE X i ti) (hg : PGet X tget) (he : PE X e te) (hp : PIp X op tip) (hs : PSet X tset)
    (ha : ∀ ov iv new, augStore i ov iv new = (do holding [new, ov, iv] (setItem ov iv new); release [new, ov, iv] []; pure .next) := by intros; rfl) : PS X (.AugAssign (.Subscript o i tpos) op e pos) (tAugS to ti te tget tip tset) := by
  intro pins s σ H D I h
  refine wpAny_AugAssign_SubscriptAny (thn (ho pins s σ H _ I h) fun ov s1 ⟨x1, H1, I1, r1, q1⟩ => ?_) ha
  refine thn (hi pins s1 σ H1 _ I1 q1) fun iv s2 ⟨x2, H2, I2, r2, q2⟩ => ?_
  refine thn (hg pins s2 σ H2 x1 x2 ov iv _ I2 r1 r2 q2) fun old s3 ⟨x3, H3, I3, r3, q3⟩ => ?_
  refine thn (he pins s3 σ H3 _ I3 q3) fun v s4 ⟨x4, H4, I4, r4, q4⟩ => ?_
  refine thn (hp pins s4 σ H4 x3 x4 old v _ I4 r3 r4 q4) fun new s5 ⟨x5, H5, I5, r5, q5⟩ => ?_
  exact thn (hs pins s5 σ H5 x1 x2 x5 ov iv new _ I5 r1 r2 r5 q5) fun _ s6 ⟨H6, I6, q6⟩ => ⟨σ, H6, I6, q6⟩
/-- ints -/
def ipI (f : Int → Int → Int) : TIp := fun x y H Q => ∃ i j, x = .int i ∧ y = .int j ∧ Q (.int (f i j)) H
theorem ip_add : PIp X .Add (ipI fun i j => i + j) := by
  intro pins s σ H x y v u Q I r1 r2 h
  obtain ⟨i, j, e1, e2, q⟩ := h
  subst e1; subst e2
  obtain ⟨t, rfl⟩ := r1
  obtain ⟨t', rfl⟩ := r2
  exact iadd_int ⟨.int _, H, I.tok _, ⟨_, rfl⟩, q⟩
theorem ip_sub : PIp X .Sub (ipI fun i j => i - j) := by
  intro pins s σ H x y v u Q I r1 r2 h
  obtain ⟨i, j, e1, e2, q⟩ := h
  subst e1; subst e2
  obtain ⟨t, rfl⟩ := r1
  obtain ⟨t', rfl⟩ := r2
  exact isub_int ⟨.int _, H, I.tok _, ⟨_, rfl⟩, q⟩
end

/-! ### while -/
section
variable {X : Cx} {pos : Pos}
/-- the invariant W with its measure -/
def tWhile (c : TT) (tb : TS) : TS := fun D σ H => ∃ W : Nat → St → Hp → Prop, (∃ m, W m σ H) ∧ ∀ m σ H, W m σ H →
  c σ H fun b H1 => if b = true then ∃ N : St → Hp → Prop, (∀ σ' H', N σ' H' → ∃ m', m' < m ∧ W m' σ' H') ∧ tb { D with nx := N, ct := N, bk := D.nx } σ H1 else D.nx σ H1
theorem ps_while {c : Expr} {body : List Stmt} {tc : TT} {tb : TS} (hp : PassesOwn (model X.prog X.w) X.A X.env X.xe) (hc : PT X c tc) (hb : PSs X body tb) : PS X (.While c body [] pos) (tWhile tc tb) := by
  intro pins s σ H D I h
  obtain ⟨W, ⟨m0, w0⟩, turn⟩ := h
  refine wpAny_While (codeAny_whileLoop (fun n s' => ∃ σ' H', Inv X pins σ' H' s' ∧ W n σ' H') ?_ m0 ⟨σ, H, I, w0⟩)
  rintro n s1 ⟨σ1, H1, I1, w1⟩
  refine wpAny_passesOwn hp (thn (hc pins s1 σ1 H1 _ I1 (turn n σ1 H1 w1)) fun b s2 ⟨H2, I2, q2⟩ => ?_)
  cases b with
  | true =>
    obtain ⟨N, hN, q2⟩ := q2
    rw [if_pos rfl]
    refine wpAny_passesOwn hp (thn (hb pins s2 σ1 H2 _ I2 q2) fun f s3 q3 => ?_)
    cases f with
    | next =>
      obtain ⟨σ3, H3, I3, n3⟩ := q3
      obtain ⟨m', hm, w3⟩ := hN σ3 H3 n3
      exact ⟨m', hm, σ3, H3, I3, w3⟩
    | cont =>
      obtain ⟨σ3, H3, I3, n3⟩ := q3
      obtain ⟨m', hm, w3⟩ := hN σ3 H3 n3
      exact ⟨m', hm, σ3, H3, I3, w3⟩
    | brk => exact q3
    | ret v => exact q3
  | false =>
    rw [if_neg Bool.false_ne_true]
    exact wpAny_execs_nil ⟨σ1, H2, I2, q2⟩
end

/-! ### what a loop or a comprehension walks -/
/-- at turn i: it yields x (the heap may grow), or it stops -/
structure It where
  go : Nat → Hp → Prop
  yld : Nat → Hp → V → Hp → Prop
  stop : Nat → Hp → Prop
/-- the iterator's own objects may turn: they are not the frame's, not pinned, younger than the entry (or a comprehension's own) -/
def FpOk (X : Cx) (pins : List (Addr × Obj)) (H : Hp) (b : Addr) : Prop :=
  H b = none ∧ b ≠ X.env.locals ∧ b ∉ X.fs ∧ (b ∈ X.ex ∨ X.s₀.heap.objs.size ≤ b) ∧ (∀ x c, X.env.cells.lookup x = some c → c ≠ b) ∧ ∀ p ∈ X.pn ++ pins, p.1 ≠ b
theorem Inv.fpOk {X : Cx} {pins : List (Addr × Obj)} {σ : St} {H H' : Hp} {s : Shared} {b : Addr} (I : Inv X pins σ H s) (hb : s.heap.objs.size ≤ b) (hn : H' b = none) : FpOk X pins H' b := by
  refine ⟨hn, Nat.ne_of_gt (Nat.lt_of_lt_of_le I.lt hb), I.nofs hb, .inr (Nat.le_trans I.sz hb), fun x c e z => ?_, fun p hp z => ?_⟩
  · obtain ⟨v, q⟩ := I.cell x c e
    exact absurd (Nat.lt_of_lt_of_le q.lt (by rw [z]; exact hb)) (Nat.lt_irrefl _)
  · exact absurd (Nat.lt_of_lt_of_le (Heap.lt_size (I.pin p hp).1) (by rw [z]; exact hb)) (Nat.lt_irrefl _)
structure Turn (P : Program) (w : World) (K : PySem.W.Frag) (tg : Expr) (J : It) (fp : List Addr) (it : Addr) (tn : Nat → Heap → Prop) : Prop where
  mem : it ∈ fp
  obj : ∀ i h, tn i h → ∀ b ∈ fp, ∃ o, h.get? b = some o ∧ ∀ v, o.data ≠ .cell v
  keep : ∀ i h h', tn i h → (∀ b ∈ fp, ∀ o, h.get? b = some o → h'.get? b = some o) → tn i h'
  item : ∀ (X : Cx), X.prog = P → X.w = w → X.K = K → X.calm = true → ∀ (i : Nat) (pins : List (Addr × Obj)) (s : Shared) (σ : St) (H : Hp) (E : Value → Shared → Prop), Inv X pins σ H s → (∀ b ∈ fp, FpOk X pins H b) → tn i s.heap → J.go i H →
    wpAny (model P w) X.A (pyNext (.ref it)) (fun r s1 => ∃ u, r = some u ∧
      wpAny (model P w) X.A (letOwnedTupleGo tg (.ref it) u) (fun _ s2 => ∃ x H', Inv X pins σ H' s2 ∧ RelV x u ∧ J.yld i H x H' ∧ tn (i + 1) s2.heap ∧ ∀ b ∈ fp, H' b = none) E s1) E s
  done : ∀ (X : Cx), X.prog = P → X.w = w → X.K = K → X.calm = true → ∀ (i : Nat) (pins : List (Addr × Obj)) (s : Shared) (σ : St) (H : Hp) (E : Value → Shared → Prop), Inv X pins σ H s → (∀ b ∈ fp, FpOk X pins H b) → tn i s.heap → J.stop i H →
    wpAny (model P w) X.A (pyNext (.ref it)) (fun r s1 => r = none ∧ Inv X pins σ H s1) E s
  self : ∀ (A : Around) (i : Nat) (s : Shared) (Q : Value → Shared → Prop) (E : Value → Shared → Prop), tn i s.heap → Q (.ref it) s → wpAny (model P w) A (pyIter (.ref it)) Q E s
abbrev TI := St → Hp → (It → Hp → Prop) → Prop
/-- an iterator has come -/
def PIE (X : Cx) (pins : List (Addr × Obj)) (σ : St) (tg : Expr) (R : It → Hp → Prop) (itv : Value) (s2 : Shared) : Prop :=
  ∃ (it : Addr) (fp : List Addr) (tn : Nat → Heap → Prop) (J : It) (H' : Hp), itv = .ref it ∧ Inv X pins σ H' s2 ∧ Turn X.prog X.w X.K tg J fp it tn ∧ tn 0 s2.heap ∧ (∀ b ∈ fp, FpOk X pins H' b) ∧ R J H'
def PI (X : Cx) (tg iter : Expr) (wi : TI) : Prop :=
  ∀ (pins : List (Addr × Obj)) (s : Shared) (σ : St) (H : Hp) (R : It → Hp → Prop), Inv X pins σ H s → wi σ H R →
    wpAny (model X.prog X.w) X.A (eval iter X.env) (fun v s1 => wpAny (model X.prog X.w) X.A (pyIter v) (PIE X pins σ tg R) X.xe s1) X.xe s

/-- the step ahead of the store is nothing for an iterator that keeps no tuple -/
theorem go_of {M : Model} {A : Around} {E : Value → Shared → Prop} {s : Shared} {tg : Expr} {it : Addr} {u : Value} {o : Obj} {n : String} {vs : Array Value} {Q : Unit → Shared → Prop} (ho : s.heap.get? it = some o) (hc : o.cls = .type n) (hd : o.data = .fields vs)
    (hn : ["enumerate", "zip", "dict_itemiterator", "dict_reverseitemiterator", "odict_iterator", "itertools.zip_longest", "itertools.pairwise"].contains n = false) (hQ : Q () s) : wpAny M A (letOwnedTupleGo tg (.ref it) u) Q E s := by
  unfold letOwnedTupleGo
  cases tg <;> first
    | exact wpAny_pure hQ
    | (cases u <;> first
        | exact wpAny_pure hQ
        | (refine wpAny_bind (wpAny_load ho ?_)
           rw [hc, hd]
           show wpAny M A (if (["enumerate", "zip", "dict_itemiterator", "dict_reverseitemiterator", "odict_iterator", "itertools.zip_longest", "itertools.pairwise"].contains n && vs[0]? == some (rawInt _)) = true then _ else _) Q E s
           rw [if_neg (by intro h; rw [hn, Bool.false_and] at h; cases h)]
           exact wpAny_pure hQ))

/-- the list at a, as it stands at each turn (a loop may append to it) -/
def Itl (K : PySem.W.Frag) (a : Addr) : It :=
  ⟨fun i H => ∃ xs x, SqL K H a xs ∧ xs[i]? = some x, fun i H x H' => H' = H ∧ ∀ xs, SqL K H a xs → xs[i]? = some x, fun i H => ∃ xs, SqL K H a xs ∧ xs.length ≤ i⟩
def Itt (K : PySem.W.Frag) (a : Addr) : It :=
  ⟨fun i H => ∃ xs x, SqT K H a xs ∧ xs[i]? = some x, fun i H x H' => H' = H ∧ ∀ xs, SqT K H a xs → xs[i]? = some x, fun i H => ∃ xs, SqT K H a xs ∧ xs.length ≤ i⟩
/-- lo, lo + 1, .. (n of them) -/
def Itr (lo : Int) (n : Nat) : It := ⟨fun i _ => i < n, fun i H x H' => H' = H ∧ x = .int (lo + i), fun i _ => n ≤ i⟩
theorem turn_list {P : Program} {w : World} {K : PySem.W.Frag} {tg : Expr} (a it : Addr) : Turn P w K tg (Itl K a) [it] it (fun i h => h.IsListIter it a i) where
  mem := by simp
  obj := fun i h st b hb => by
    have e : b = it := by simpa using hb
    subst e
    obtain ⟨o, e, c, d⟩ := st
    exact ⟨o, e, fun v z => by rw [d] at z; cases z⟩
  keep := fun i h h' st k => st.at fun o e => k it (by simp) o e
  item := by
    intro X hP hw hK hc i pins s σ H E I hf st hg
    subst hP hw hK
    obtain ⟨xs, x, hq, hx⟩ := hg
    obtain ⟨its, rv, p, hz⟩ := I.list hq
    obtain ⟨u, hu, ru⟩ := rv.get hx
    obtain ⟨f0, f1, f2, f3, f4, f5⟩ := hf it (by simp)
    refine wpAny_pyNext_list_item st p.isList (x := u) (by simpa using hu) fun h' st' sb => ?_
    have I1 : Inv X pins σ H { s with heap := h' } := I.turned (t' := s.toks) (fun b o hb e => (sb.2 b hb).trans e) f0 f1 f3 f4 f5
    obtain ⟨o, e, c, d⟩ := id st'
    exact ⟨u, rfl, go_of (s := { s with heap := h' }) e c d (by decide) ⟨x, H, I1, ru, ⟨rfl, fun ys hy => by rw [I.list_inj hy hq]; exact hx⟩, st', fun b hb => (hf b hb).1⟩⟩
  done := by
    intro X hP hw hK hc i pins s σ H E I hf st hg
    subst hP hw hK
    obtain ⟨xs, hq, hx⟩ := hg
    obtain ⟨its, rv, p, hz⟩ := I.list hq
    obtain ⟨f0, f1, f2, f3, f4, f5⟩ := hf it (by simp)
    have hl := rv.length
    exact wpAny_pyNext_list_end (I.ok.hd hc) st p.isList (by simp; omega) fun h' eb => ⟨rfl, I.turned (t' := s.toks) (fun b o hb e => eb b o hb e) f0 f1 f3 f4 f5⟩
  self := fun _ _ _ _ _ st h => wpAny_pyIter_listiter st h
theorem turn_tuple {P : Program} {w : World} {K : PySem.W.Frag} {tg : Expr} (a it : Addr) : Turn P w K tg (Itt K a) [it] it (fun i h => h.IsTupleIter it a i) where
  mem := by simp
  obj := fun i h st b hb => by
    have e : b = it := by simpa using hb
    subst e
    obtain ⟨o, e, c, d⟩ := st
    exact ⟨o, e, fun v z => by rw [d] at z; cases z⟩
  keep := fun i h h' st k => st.at fun o e => k it (by simp) o e
  item := by
    intro X hP hw hK hc i pins s σ H E I hf st hg
    subst hP hw hK
    obtain ⟨xs, x, hq, hx⟩ := hg
    obtain ⟨its, rv, p, hz⟩ := I.tuple hq
    obtain ⟨u, hu, ru⟩ := rv.get hx
    obtain ⟨f0, f1, f2, f3, f4, f5⟩ := hf it (by simp)
    refine wpAny_pyNext_tuple_item st (show s.heap.IsTuple a its.toArray from p) (x := u) (by simpa using hu) fun h' st' sb => ?_
    have I1 : Inv X pins σ H { s with heap := h' } := I.turned (t' := s.toks) (fun b o hb e => (sb.2 b hb).trans e) f0 f1 f3 f4 f5
    obtain ⟨o, e, c, d⟩ := id st'
    exact ⟨u, rfl, go_of (s := { s with heap := h' }) e c d (by decide) ⟨x, H, I1, ru, ⟨rfl, fun ys hy => by rw [I.tuple_inj hy hq]; exact hx⟩, st', fun b hb => (hf b hb).1⟩⟩
  done := by
    intro X hP hw hK hc i pins s σ H E I hf st hg
    subst hP hw hK
    obtain ⟨xs, hq, hx⟩ := hg
    obtain ⟨its, rv, p, hz⟩ := I.tuple hq
    obtain ⟨f0, f1, f2, f3, f4, f5⟩ := hf it (by simp)
    have hl := rv.length
    exact wpAny_pyNext_tuple_end (I.ok.hd hc) st (show s.heap.IsTuple a its.toArray from p) (by simp; omega) fun h' eb => ⟨rfl, I.turned (t' := s.toks) (fun b o hb e => eb b o hb e) f0 f1 f3 f4 f5⟩
  self := fun _ _ _ _ _ st h => wpAny_pyIter_tupleiter st h
theorem turn_range {P : Program} {w : World} {K : PySem.W.Frag} {tg : Expr} (it : Addr) (lo : Int) (n : Nat) : Turn P w K tg (Itr lo n) [it] it (fun i h => IsRangeIter h it (lo + (i : Nat) * 1) ((n : Int) - (i : Nat)) 1) where
  mem := by simp
  obj := fun i h st b hb => by
    have e : b = it := by simpa using hb
    subst e
    exact ⟨_, st, fun v z => by
      have z' : Data.fields _ = Data.cell v := z
      cases z'⟩
  keep := fun i h h' st k => k it (by simp) _ st
  item := by
    intro X hP hw hK hc i pins s σ H E I hf st hg
    subst hP hw hK
    obtain ⟨f0, f1, f2, f3, f4, f5⟩ := hf it (by simp)
    have W := Walks.range (prog := X.prog) (w := X.w) (I.ok.hd hc) it lo 1 n
    refine W.item i s _ _ hg st fun v h' tk hv st' kk => ?_
    obtain ⟨t, rfl⟩ := hv
    have I1 : Inv X pins σ H { s with heap := h', toks := tk } := I.turned (fun b o hb e => kk b o (by simpa using hb) e) f0 f1 f3 f4 f5
    refine ⟨_, rfl, go_of (s := { s with heap := h', toks := tk }) (n := "range_iterator") st' rfl rfl (by decide) ⟨.int (lo + i), H, I1, ⟨t, ?_⟩, ⟨rfl, rfl⟩, st', fun b hb => (hf b hb).1⟩⟩
    rw [Int.mul_one]
  done := by
    intro X hP hw hK hc i pins s σ H E I hf st hg
    subst hP hw hK
    obtain ⟨f0, f1, f2, f3, f4, f5⟩ := hf it (by simp)
    exact wpAny_pyNext_range_end (I.ok.hd hc) st (by have : n ≤ i := hg; omega) fun h' eb => ⟨rfl, I.turned (t' := s.toks) (fun b o hb e => eb b o hb e) f0 f1 f3 f4 f5⟩
  self := fun _ _ _ _ _ st h => wpAny_pyIter_rangeiter st h
end L2

namespace L2
open PySem PySem.Spec PyProof.Rows
section
variable {X : Cx} {tg : Expr}
def iList (K : PySem.W.Frag) (tl : TE) : TI := fun σ H R => tl σ H fun x H1 => ∃ a, x = .ref a ∧ (∃ xs, SqL K H1 a xs) ∧ R (Itl K a) H1
def iTup (K : PySem.W.Frag) (tl : TE) : TI := fun σ H R => tl σ H fun x H1 => ∃ a, x = .ref a ∧ (∃ xs, SqT K H1 a xs) ∧ R (Itt K a) H1
theorem pi_list {l : Expr} {tl : TE} (hl : PE X l tl) : PI X tg l (iList X.K tl) := by
  intro pins s σ H R I h
  refine thn (hl pins s σ H _ I h) fun v s1 ⟨x, H1, I1, r1, q1⟩ => ?_
  obtain ⟨a, e, ⟨xs, hq⟩, q⟩ := q1
  subst e
  cases r1
  obtain ⟨its, rv, p, hz⟩ := I1.list hq
  refine wpAny_pyIter_list p.isList ?_
  refine ⟨s1.heap.objs.size, [s1.heap.objs.size], _, _, H1, rfl, I1.kept (t' := s1.toks) fun b o e => Heap.get?_push_of_some _ e, turn_list a _, ⟨_, Heap.get?_push_size _ rfl, rfl, rfl⟩, fun b hb => ?_, q⟩
  have e : b = s1.heap.objs.size := by simpa using hb
  subst e
  exact I1.fpOk (Nat.le_refl _) (I1.hok.fresh (Nat.le_refl _))
theorem pi_tup {l : Expr} {tl : TE} (hl : PE X l tl) : PI X tg l (iTup X.K tl) := by
  intro pins s σ H R I h
  refine thn (hl pins s σ H _ I h) fun v s1 ⟨x, H1, I1, r1, q1⟩ => ?_
  obtain ⟨a, e, ⟨xs, hq⟩, q⟩ := q1
  subst e
  cases r1
  obtain ⟨its, rv, p, hz⟩ := I1.tuple hq
  refine wpAny_pyIter_tuple (show s1.heap.IsTuple a its.toArray from p) ?_
  refine ⟨s1.heap.objs.size, [s1.heap.objs.size], _, _, H1, rfl, I1.kept (t' := s1.toks) fun b o e => Heap.get?_push_of_some _ e, turn_tuple a _, ⟨_, Heap.get?_push_size _ rfl, rfl, rfl⟩, fun b hb => ?_, q⟩
  have e : b = s1.heap.objs.size := by simpa using hb
  subst e
  exact I1.fpOk (Nat.le_refl _) (I1.hok.fresh (Nat.le_refl _))
/-- a range object just made, walked -/
theorem range_it {pins : List (Addr × Obj)} {σ : St} {H : Hp} {s : Shared} {R : It → Hp → Prop} {E : Value → Shared → Prop} {lo hi : Int} {t u v : Tok} {tk : Nat} (I : Inv X pins σ H s) (h1 : -(2 ^ 62) ≤ lo) (h2 : lo < 2 ^ 62) (h3 : -(2 ^ 62) ≤ hi) (h4 : hi < 2 ^ 62)
    (q : R (Itr lo (hi - lo).toNat) H) : wpAny (model X.prog X.w) X.A (pyIter (.ref s.heap.objs.size)) (PIE X pins σ tg R) E { s with heap := s.heap.push { cls := .type "range", data := .fields #[.int lo t, .int hi u, .int 1 v] }, toks := tk } := by
  refine wpAny_pyIter_range (IsRange.new ..) (small_one h1 h2 h3 h4) ?_
  have I1 : Inv X pins σ H { s with heap := s.heap.push { cls := .type "range", data := .fields #[.int lo t, .int hi u, .int 1 v] }, toks := tk } := I.kept fun b o e => Heap.get?_push_of_some _ e
  refine ⟨(s.heap.push { cls := .type "range", data := .fields #[.int lo t, .int hi u, .int 1 v] }).objs.size, [(s.heap.push { cls := .type "range", data := .fields #[.int lo t, .int hi u, .int 1 v] }).objs.size], _, _, H, rfl,
    I1.kept (t' := tk) fun b o e => Heap.get?_push_of_some _ e, turn_range _ lo (hi - lo).toNat, ?_, fun b hb => ?_, q⟩
  · have e1 : lo + ((0 : Nat) : Int) * 1 = lo := by simp
    have e2 : (((hi - lo).toNat : Nat) : Int) - ((0 : Nat) : Int) = Builtin.Range.rangeSize lo hi 1 := by rw [rangeSize_one]; split <;> omega
    show IsRangeIter _ _ (lo + ((0 : Nat) : Int) * 1) ((((hi - lo).toNat : Nat) : Int) - ((0 : Nat) : Int)) 1
    rw [e1, e2]
    exact Heap.get?_push_size _ rfl
  · have e : b = (s.heap.push { cls := .type "range", data := .fields #[.int lo t, .int hi u, .int 1 v] }).objs.size := by simpa using hb
    subst e
    exact I1.fpOk (Nat.le_refl _) (I1.hok.fresh (Nat.le_refl _))
def iRng1 (ta : TA) : TI := fun σ H R => ta σ H fun vs H1 => ∃ j : Int, vs = [.int j] ∧ -(2 ^ 62) ≤ j ∧ j < 2 ^ 62 ∧ R (Itr 0 j.toNat) H1
def iRng2 (ta : TA) : TI := fun σ H R => ta σ H fun vs H1 => ∃ i j : Int, vs = [.int i, .int j] ∧ (-(2 ^ 62) ≤ i ∧ i < 2 ^ 62 ∧ -(2 ^ 62) ≤ j ∧ j < 2 ^ 62) ∧ R (Itr i (j - i).toNat) H1
theorem pi_range1 {a : Expr} {ta : TA} {p pos : Pos} (hg : Gl X "range") (hm : X.mg "range" = none) (ha : PA X [a] ta) (hs : starEach [a] X.env = [(false, eval a X.env)] := by rfl) : PI X tg (.Call (.Name "range" p) [a] [] pos) (iRng1 ta) := by
  intro pins s σ H R I h
  refine Call_ (ld_blt I hg hm boot_range (PyProof.Rows.callWith_type1 (thn (ha pos pins s σ H _ I h) fun us s1 ⟨vs, H1, I1, r1, q1⟩ => ?_) hs rfl))
  obtain ⟨j, e, q1, q2, q⟩ := q1
  subst e
  cases r1 with
  | cons r rr =>
    cases rr
    obtain ⟨t, rfl⟩ := r
    exact call_range_1 (range_it I1 (by omega) (by omega) q1 q2 (by simpa using q))
theorem pi_range2 {a b : Expr} {ta : TA} {p pos : Pos} (hg : Gl X "range") (hm : X.mg "range" = none) (ha : PA X [a, b] ta) (hs : starEach [a, b] X.env = [(false, eval a X.env), (false, eval b X.env)] := by rfl) (hs2 : starEach [b] X.env = [(false, eval b X.env)] := by rfl) :
    PI X tg (.Call (.Name "range" p) [a, b] [] pos) (iRng2 ta) := by
  intro pins s σ H R I h
  refine Call_ (ld_blt I hg hm boot_range (PyProof.Rows.callWith_type1 (thn (ha pos pins s σ H _ I h) fun us s1 ⟨vs, H1, I1, r1, q1⟩ => ?_) (by rw [hs, hs2]) (by rw [hs2]; rfl)))
  obtain ⟨i, j, e, ⟨q1, q2, q3, q4⟩, q⟩ := q1
  subst e
  cases r1 with
  | cons r rr =>
    cases rr with
    | cons r' rr =>
      cases rr
      obtain ⟨t, rfl⟩ := r
      obtain ⟨t', rfl⟩ := r'
      exact call_range_2 (range_it I1 q1 q2 q3 q4 q)

/-! ### for -/
/-- W: the invariant by the turn and a measure; N: what the body is to reach -/
def tFor (wi : TI) (g : TG) (tb : TS) : TS := fun D σ H => wi σ H fun J H1 => ∃ W : Nat → Nat → St → Hp → Prop, (∃ m, W 0 m σ H1) ∧ ∀ i m σ H, W i m σ H →
  (J.stop i H ∧ D.nx σ H) ∨ (J.go i H ∧ ∃ N : St → Hp → Prop, (∀ σ' H', N σ' H' → ∃ m', m' < m ∧ W (i + 1) m' σ' H') ∧ ∀ x H', J.yld i H x H' → g x σ H' fun σ2 H2 => tb { D with nx := N, ct := N, bk := D.nx } σ2 H2)
/-- the records at fp as they stand -/
def pinsAt (fp : List Addr) (h : Heap) : List (Addr × Obj) := fp.filterMap fun b => (h.get? b).map fun o => (b, o)
theorem mem_pinsAt {fp : List Addr} {h : Heap} {b : Addr} {o : Obj} (hb : b ∈ fp) (e : h.get? b = some o) : (b, o) ∈ pinsAt fp h := List.mem_filterMap.mpr ⟨b, hb, by rw [e]; rfl⟩
theorem of_pinsAt {fp : List Addr} {h : Heap} {p : Addr × Obj} (hp : p ∈ pinsAt fp h) : p.1 ∈ fp ∧ h.get? p.1 = some p.2 := by
  obtain ⟨b, hb, e⟩ := List.mem_filterMap.mp hp
  cases q : h.get? b with
  | none => rw [q] at e; cases e
  | some o =>
    rw [q] at e
    have e' : (b, o) = p := Option.some.inj e
    subst e'
    exact ⟨hb, q⟩
theorem Inv.pinned {pins : List (Addr × Obj)} {σ : St} {H : Hp} {s : Shared} {fp : List Addr} (I : Inv X pins σ H s) (hf : ∀ b ∈ fp, FpOk X pins H b) (ho : ∀ b ∈ fp, ∃ o, s.heap.get? b = some o ∧ ∀ v, o.data ≠ .cell v) : Inv X (pins ++ pinsAt fp s.heap) σ H s :=
  I.pins_of fun p hp => (List.mem_append.mp hp).elim (fun z => I.pin p (List.mem_append_right _ z)) fun z => by
    obtain ⟨hb, e⟩ := of_pinsAt z
    obtain ⟨f0, f1, f2, _⟩ := hf p.1 hb
    obtain ⟨o, e', d⟩ := ho p.1 hb
    rw [e] at e'; cases e'
    exact ⟨e, f0, f1, f2, d⟩
theorem Inv.unpinned {pins pl : List (Addr × Obj)} {σ : St} {H : Hp} {s : Shared} (I : Inv X (pins ++ pl) σ H s) : Inv X pins σ H s := I.pins_of fun p hp => I.pin p (List.mem_append_right _ (List.mem_append_left _ hp))
theorem ps_for {iter : Expr} {body : List Stmt} {wi : TI} {g : TG} {tb : TS} {pos : Pos} (hp : PassesOwn (model X.prog X.w) X.A X.env X.xe) (hc : X.calm = true) (hi : PI X tg iter wi) (hg : PG X tg g) (hb : PSs X body tb)
    (hs : ∀ x, foldedSetIterable iter X.env x = pure x := by intro _; rfl) : PS X (.For tg iter body [] pos) (tFor wi g tb) := by
  intro pins s σ H D I h
  refine wpAny_For (thn (hi pins s σ H _ I h) fun v s1 h1 => thn h1 fun itv s2 h2 => ?_) hs
  obtain ⟨it, fp, tn, J, H2, e, I2, T, st2, f2, W, ⟨m0, w0⟩, turn⟩ := h2
  subst e
  -- what stays true of the iterator's objects through the loop
  have stat : ∀ {H' : Hp}, (∀ b ∈ fp, H' b = none) → ∀ b ∈ fp, FpOk X pins H' b := fun hn b hb => ⟨hn b hb, (f2 b hb).2⟩
  refine codeAny_forLoop_any (fun n s' => ∃ i σ' H', Inv X pins σ' H' s' ∧ tn i s'.heap ∧ (∀ b ∈ fp, H' b = none) ∧ W i n σ' H') ?_ m0 ⟨0, σ, H2, I2, st2, fun b hb => (f2 b hb).1, w0⟩
  rintro n s3 ⟨i, σ3, H3, I3, st3, fr3, w3⟩
  rcases turn i n σ3 H3 w3 with ⟨stop, qn⟩ | ⟨go, N, hN, step⟩
  · refine wpAny_passesOwn hp (thn (T.done X rfl rfl rfl hc i pins s3 σ3 H3 X.xe I3 (stat fr3) st3 stop) fun r s4 ⟨hr, I4⟩ => ?_)
    subst hr
    exact wpAny_execs_nil ⟨σ3, H3, I4, qn⟩
  · refine wpAny_passesOwn hp (thn (T.item X rfl rfl rfl hc i pins s3 σ3 H3 X.xe I3 (stat fr3) st3 go) fun r s4 ⟨u, hr, h4⟩ => ?_)
    subst hr
    refine wpAny_passesOwn hp (thn h4 fun _ s5 ⟨x, H5, I5, r5, y5, st5, fr5⟩ => ?_)
    have I5' := I5.pinned (stat fr5) (T.obj _ _ st5)
    refine wpAny_passesOwn hp (thn (hg _ s5 σ3 H5 x u _ I5' r5 (step x H5 y5)) fun _ s6 ⟨σ6, H6, I6, q6⟩ => ?_)
    refine wpAny_passesOwn hp (thn (hb _ s6 σ6 H6 _ I6 q6) fun f s7 q7 => ?_)
    have again : ∀ {σ7 : St} {H7 : Hp}, Inv X (pins ++ pinsAt fp s5.heap) σ7 H7 s7 → N σ7 H7 → ∃ m, m < n ∧ ∃ i σ' H', Inv X pins σ' H' s7 ∧ tn i s7.heap ∧ (∀ b ∈ fp, H' b = none) ∧ W i m σ' H' := fun {σ7 H7} I7 n7 => by
      obtain ⟨m', hm, w7⟩ := hN σ7 H7 n7
      refine ⟨m', hm, i + 1, σ7, H7, I7.unpinned, T.keep _ _ _ st5 fun b hb o e => (I7.pin (b, o) (List.mem_append_right _ (List.mem_append_right _ (mem_pinsAt hb e)))).1, fun b hb => ?_, w7⟩
      obtain ⟨o, e, d⟩ := T.obj _ _ st5 b hb
      exact (I7.pin (b, o) (List.mem_append_right _ (List.mem_append_right _ (mem_pinsAt hb e)))).2.1
    cases f with
    | next => obtain ⟨σ7, H7, I7, n7⟩ := q7; exact again I7 n7
    | cont => obtain ⟨σ7, H7, I7, n7⟩ := q7; exact again I7 n7
    | brk => obtain ⟨σ7, H7, I7, q7⟩ := q7; exact ⟨σ7, H7, I7.unpinned, q7⟩
    | ret v => obtain ⟨x7, σ7, H7, I7, r7, q7⟩ := q7; exact ⟨x7, σ7, H7, I7.unpinned, r7, q7⟩
end

/-! ### the forms one uses -/
/-- over a list that the body leaves as it is -/
theorem for_list {K : PySem.W.Frag} {a : Addr} {xs : List V} {g : TG} {tb : TS} {D : Ends} {σ : St} {H : Hp} (Pv : Nat → St → Hp → Prop) (h0 : Pv 0 σ H) (hl : ∀ i σ H, i ≤ xs.length → Pv i σ H → SqL K H a xs)
    (hs : ∀ i x σ H, xs[i]? = some x → Pv i σ H → g x σ H fun σ2 H2 => tb { D with nx := Pv (i + 1), ct := Pv (i + 1), bk := D.nx } σ2 H2) (hd : ∀ σ H, Pv xs.length σ H → D.nx σ H) :
    ∃ W : Nat → Nat → St → Hp → Prop, (∃ m, W 0 m σ H) ∧ ∀ i m σ H, W i m σ H →
      ((Itl K a).stop i H ∧ D.nx σ H) ∨ ((Itl K a).go i H ∧ ∃ N : St → Hp → Prop, (∀ σ' H', N σ' H' → ∃ m', m' < m ∧ W (i + 1) m' σ' H') ∧ ∀ x H', (Itl K a).yld i H x H' → g x σ H' fun σ2 H2 => tb { D with nx := N, ct := N, bk := D.nx } σ2 H2) := by
  refine ⟨fun i m σ H => m = xs.length - i ∧ i ≤ xs.length ∧ Pv i σ H, ⟨xs.length, by simp, Nat.zero_le _, h0⟩, ?_⟩
  rintro i m σ H ⟨rfl, hi, p⟩
  have q := hl i σ H hi p
  by_cases hlt : i < xs.length
  · refine .inr ⟨⟨xs, xs[i], q, by simp [hlt]⟩, Pv (i + 1), fun σ' H' p' => ⟨xs.length - (i + 1), by omega, rfl, hlt, p'⟩, fun x H' y => ?_⟩
    obtain ⟨e, y⟩ := y
    subst e
    exact hs i x σ _ (y xs q) p
  · have e : i = xs.length := by omega
    subst e
    exact .inl ⟨⟨xs, q, Nat.le_refl _⟩, hd σ H p⟩
theorem for_tup {K : PySem.W.Frag} {a : Addr} {xs : List V} {g : TG} {tb : TS} {D : Ends} {σ : St} {H : Hp} (Pv : Nat → St → Hp → Prop) (h0 : Pv 0 σ H) (hl : ∀ i σ H, i ≤ xs.length → Pv i σ H → SqT K H a xs)
    (hs : ∀ i x σ H, xs[i]? = some x → Pv i σ H → g x σ H fun σ2 H2 => tb { D with nx := Pv (i + 1), ct := Pv (i + 1), bk := D.nx } σ2 H2) (hd : ∀ σ H, Pv xs.length σ H → D.nx σ H) :
    ∃ W : Nat → Nat → St → Hp → Prop, (∃ m, W 0 m σ H) ∧ ∀ i m σ H, W i m σ H →
      ((Itt K a).stop i H ∧ D.nx σ H) ∨ ((Itt K a).go i H ∧ ∃ N : St → Hp → Prop, (∀ σ' H', N σ' H' → ∃ m', m' < m ∧ W (i + 1) m' σ' H') ∧ ∀ x H', (Itt K a).yld i H x H' → g x σ H' fun σ2 H2 => tb { D with nx := N, ct := N, bk := D.nx } σ2 H2) := by
  refine ⟨fun i m σ H => m = xs.length - i ∧ i ≤ xs.length ∧ Pv i σ H, ⟨xs.length, by simp, Nat.zero_le _, h0⟩, ?_⟩
  rintro i m σ H ⟨rfl, hi, p⟩
  have q := hl i σ H hi p
  by_cases hlt : i < xs.length
  · refine .inr ⟨⟨xs, xs[i], q, by simp [hlt]⟩, Pv (i + 1), fun σ' H' p' => ⟨xs.length - (i + 1), by omega, rfl, hlt, p'⟩, fun x H' y => ?_⟩
    obtain ⟨e, y⟩ := y
    subst e
    exact hs i x σ _ (y xs q) p
  · have e : i = xs.length := by omega
    subst e
    exact .inl ⟨⟨xs, q, Nat.le_refl _⟩, hd σ H p⟩
theorem for_range {lo : Int} {n : Nat} {g : TG} {tb : TS} {D : Ends} {σ : St} {H : Hp} (Pv : Nat → St → Hp → Prop) (h0 : Pv 0 σ H)
    (hs : ∀ i σ H, i < n → Pv i σ H → g (.int (lo + i)) σ H fun σ2 H2 => tb { D with nx := Pv (i + 1), ct := Pv (i + 1), bk := D.nx } σ2 H2) (hd : ∀ σ H, Pv n σ H → D.nx σ H) :
    ∃ W : Nat → Nat → St → Hp → Prop, (∃ m, W 0 m σ H) ∧ ∀ i m σ H, W i m σ H →
      ((Itr lo n).stop i H ∧ D.nx σ H) ∨ ((Itr lo n).go i H ∧ ∃ N : St → Hp → Prop, (∀ σ' H', N σ' H' → ∃ m', m' < m ∧ W (i + 1) m' σ' H') ∧ ∀ x H', (Itr lo n).yld i H x H' → g x σ H' fun σ2 H2 => tb { D with nx := N, ct := N, bk := D.nx } σ2 H2) := by
  refine ⟨fun i m σ H => m = n - i ∧ i ≤ n ∧ Pv i σ H, ⟨n, by simp, Nat.zero_le _, h0⟩, ?_⟩
  rintro i m σ H ⟨rfl, hi, p⟩
  by_cases hlt : i < n
  · refine .inr ⟨hlt, Pv (i + 1), fun σ' H' p' => ⟨n - (i + 1), by omega, rfl, hlt, p'⟩, fun x H' y => ?_⟩
    obtain ⟨e, y⟩ := y
    subst e y
    exact hs i σ _ hlt p
  · have e : i = n := by omega
    subst e
    exact .inl ⟨Nat.le_refl _, hd σ H p⟩
end L2

namespace L2
open PySem PySem.Spec PyProof.Rows

abbrev R2 := V → V → Hp → VK → Prop
/-- a two-place operation on values: f is binaryOp op, inplaceOp op or compareOp op -/
def OpR (X : Cx) (f : Value → Value → Sem Value) (r : R2) : Prop :=
  ∀ (pins : List (Addr × Obj)) (s : Shared) (σ : St) (H : Hp) (x y : V) (v u : Value) (Q : VK), Inv X pins σ H s → RelV x v → RelV y u → r x y H Q →
    wpAny (model X.prog X.w) X.A (f v u) (EP X pins σ Q) X.xe s
/-- a one-place operation -/
def UnR (X : Cx) (f : Value → Sem Value) (r : V → Hp → VK → Prop) : Prop :=
  ∀ (pins : List (Addr × Obj)) (s : Shared) (σ : St) (H : Hp) (x : V) (v : Value) (Q : VK), Inv X pins σ H s → RelV x v → r x H Q →
    wpAny (model X.prog X.w) X.A (f v) (EP X pins σ Q) X.xe s
/-- a call of a value that is known (a builtin, a type) with values -/
def CallR (X : Cx) (f : Value) (r : List V → Hp → VK → Prop) : Prop :=
  ∀ (pins : List (Addr × Obj)) (s : Shared) (σ : St) (H : Hp) (xs : List V) (us : List Value) (Q : VK), Inv X pins σ H s → Vals xs us → r xs H Q →
    wpAny (model X.prog X.w) X.A (call f us) (EP X pins σ Q) X.xe s
def tOp (r : R2) (ta tb : TE) : TE := fun σ H Q => ta σ H fun x H1 => tb σ H1 fun y H2 => r x y H2 Q
def tUn (r : V → Hp → VK → Prop) (ta : TE) : TE := fun σ H Q => ta σ H fun x H1 => r x H1 Q
/-- ints in, under C, and a value out -/
def rI (C : Int → Int → Prop) (g : Int → Int → V) : R2 := fun x y H Q => ∃ i j, x = .int i ∧ y = .int j ∧ C i j ∧ Q (g i j) H
def rI0 (g : Int → Int → V) : R2 := fun x y H Q => ∃ i j, x = .int i ∧ y = .int j ∧ Q (g i j) H
def rU (g : Int → V) : V → Hp → VK → Prop := fun x H Q => ∃ i, x = .int i ∧ Q (g i) H

section
variable {X : Cx} {a b c : Expr} {ta tb tc : TE} {pos : Pos}

theorem binT (ha : PE X a ta) (hb : PE X b tb) {pins : List (Addr × Obj)} {s : Shared} {σ : St} {H : Hp} {R : V → V → Hp → Prop} (I : Inv X pins σ H s)
    (h : ta σ H fun x H1 => tb σ H1 fun y H2 => R x y H2) {Q : Value → Shared → Prop} {f : Value → Value → Sem Value}
    (hf : ∀ v u s2 x y H2, Inv X pins σ H2 s2 → RelV x v → RelV y u → R x y H2 → wpAny (model X.prog X.w) X.A (f v u) Q X.xe s2) :
    wpAny (model X.prog X.w) X.A (eval a X.env) (fun v s₁ => wpAny (model X.prog X.w) X.A (eval b X.env) (fun u s₂ => wpAny (model X.prog X.w) X.A (f v u) Q X.xe s₂) X.xe s₁) X.xe s := by
  refine thn (ha pins s σ H _ I h) fun v s1 ⟨x, H1, I1, r1, q1⟩ => ?_
  refine thn (hb pins s1 σ H1 _ I1 q1) fun u s2 ⟨y, H2, I2, r2, q2⟩ => ?_
  exact hf v u s2 x y H2 I2 r1 r2 q2

theorem pe_op {op : Operator} {r : R2} (ho : OpR X (binaryOp op) r) (ha : PE X a ta) (hb : PE X b tb) : PE X (.BinOp a op b pos) (tOp r ta tb) := by
  intro pins s σ H Q I h
  exact wpAny_BinOp (binT ha hb I h fun v u s2 x y H2 I2 rx ry q => ho pins s2 σ H2 x y v u Q I2 rx ry q)
theorem pe_un {op : UnaryOp} {r : V → Hp → VK → Prop} (ho : UnR X (unaryOp op) r) (ha : PE X a ta) : PE X (.UnaryOp op a pos) (tUn r ta) := by
  intro pins s σ H Q I h
  exact UnaryOp_ (thn (ha pins s σ H _ I h) fun v s1 ⟨x, H1, I1, r1, q1⟩ => ho pins s1 σ H1 x v Q I1 r1 q1)
/-! ### ints -/
theorem opI {f : Value → Value → Sem Value} {C : Int → Int → Prop} {g : Int → Int → Int}
    (rule : ∀ (i j : Int) (t u : Tok) (s : Shared) (Q : Value → Shared → Prop) (E : Value → Shared → Prop), C i j → Q (.int (g i j) s.toks) { s with toks := s.toks + 1 } → wpAny (model X.prog X.w) X.A (f (.int i t) (.int j u)) Q E s) :
    OpR X f (rI C fun i j => .int (g i j)) := by
  intro pins s σ H x y v u Q I rx ry h
  obtain ⟨i, j, rfl, rfl, hc, q⟩ := h
  obtain ⟨t, rfl⟩ := rx
  obtain ⟨t', rfl⟩ := ry
  exact rule i j t t' s _ _ hc ⟨.int (g i j), H, I.tok _, ⟨_, rfl⟩, q⟩
theorem opI0 {f : Value → Value → Sem Value} {g : Int → Int → Int}
    (rule : ∀ (i j : Int) (t u : Tok) (s : Shared) (Q : Value → Shared → Prop) (E : Value → Shared → Prop), Q (.int (g i j) s.toks) { s with toks := s.toks + 1 } → wpAny (model X.prog X.w) X.A (f (.int i t) (.int j u)) Q E s) :
    OpR X f (rI0 fun i j => .int (g i j)) := by
  intro pins s σ H x y v u Q I rx ry h
  obtain ⟨i, j, rfl, rfl, q⟩ := h
  obtain ⟨t, rfl⟩ := rx
  obtain ⟨t', rfl⟩ := ry
  exact rule i j t t' s _ _ ⟨.int (g i j), H, I.tok _, ⟨_, rfl⟩, q⟩
theorem opB0 {f : Value → Value → Sem Value} {g : Int → Int → Bool}
    (rule : ∀ (i j : Int) (t u : Tok) (s : Shared) (Q : Value → Shared → Prop) (E : Value → Shared → Prop), Q (.bool (g i j)) s → wpAny (model X.prog X.w) X.A (f (.int i t) (.int j u)) Q E s) :
    OpR X f (rI0 fun i j => .bl (g i j)) := by
  intro pins s σ H x y v u Q I rx ry h
  obtain ⟨i, j, rfl, rfl, q⟩ := h
  obtain ⟨t, rfl⟩ := rx
  obtain ⟨t', rfl⟩ := ry
  exact rule i j t t' s _ _ ⟨.bl (g i j), H, I, rfl, q⟩

def CDiv (i j : Int) : Prop := 0 < j ∧ j < 1073741824
def CPow (i j : Int) : Prop := 0 ≤ j ∧ j ≤ 1000000 ∧ i.natAbs < 2 ^ 64
def CMul (i j : Int) : Prop := (-(2 ^ 64) < i ∧ i < 2 ^ 64) ∨ (-(2 ^ 64) < j ∧ j < 2 ^ 64)
theorem CMul.ok {i j : Int} (h : CMul i j) : IntMulOk i j := by
  rcases h with ⟨h1, h2⟩ | ⟨h1, h2⟩
  · exact .of_left (intBits_le_64 h1 h2)
  · exact .of_right (intBits_le_64 h1 h2)
theorem op_add : OpR X (binaryOp .Add) (rI0 fun i j => .int (i + j)) := opI0 fun _ _ _ _ _ _ _ q => add_int q
theorem op_sub : OpR X (binaryOp .Sub) (rI0 fun i j => .int (i - j)) := opI0 fun _ _ _ _ _ _ _ q => sub_int q
theorem op_mul : OpR X (binaryOp .Mult) (rI CMul fun i j => .int (i * j)) := opI fun _ _ _ _ _ _ _ hc q => mul_int q hc.ok
/-- // by a positive divisor -/
theorem op_fdiv : OpR X (binaryOp .FloorDiv) (rI CDiv fun i j => .int (i / j)) := opI fun i j _ _ _ _ _ hc q => by
  have h1 : (0 : Int) < j := hc.1
  have h2 : j < 1073741824 := hc.2
  exact floordiv_int (by omega) (by rw [Int.fdiv_eq_ediv_of_nonneg i (by omega)]; exact q) (.inl (PyProof.noPylong_small (by omega)))
/-- % by a positive divisor of any size -/
theorem op_mod : OpR X (binaryOp .Mod) (rI (fun _ j => 0 < j) fun i j => .int (i % j)) := opI fun i j _ _ _ _ _ hc q => by
  have h1 : (0 : Int) < j := hc
  exact mod_int' (by omega) (by rw [Int.fmod_eq_emod_of_nonneg i (by omega)]; exact q)
theorem op_pow : OpR X (binaryOp .Pow) (rI CPow fun i j => .int (i ^ j.toNat)) := opI fun _ _ _ _ _ _ _ hc q => pow_int_small hc.1 hc.2.1 hc.2.2 q
theorem unI {f : Value → Sem Value} {g : Int → Int}
    (rule : ∀ (i : Int) (t : Tok) (s : Shared) (Q : Value → Shared → Prop) (E : Value → Shared → Prop), Q (.int (g i) s.toks) { s with toks := s.toks + 1 } → wpAny (model X.prog X.w) X.A (f (.int i t)) Q E s) :
    UnR X f (rU fun i => .int (g i)) := by
  intro pins s σ H x v Q I rx h
  obtain ⟨i, rfl, q⟩ := h
  obtain ⟨t, rfl⟩ := rx
  exact rule i t s _ _ ⟨.int (g i), H, I.tok _, ⟨_, rfl⟩, q⟩
theorem un_neg : UnR X (unaryOp .USub) (rU fun i => .int (-i)) := unI fun _ _ _ _ _ q => neg_int q
/-! ### bools among ints: n += (a < b) -/
end

/-! ### comparisons -/
/-- the scalars that == tells apart as data does -/
def scal : V → V → Bool
  | .non, .non => true | .non, .int _ => true | .int _, .non => true | .non, .bl _ => true | .bl _, .non => true | .non, .str _ => true | .str _, .non => true
  | .int _, .int _ => true | .bl _, .bl _ => true | .str _, .str _ => true | .byt _, .byt _ => true
  | .int _, .str _ => true | .str _, .int _ => true | .bl _, .str _ => true | .str _, .bl _ => true
  | _, _ => false
def rEq : R2 := fun x y H Q => scal x y = true ∧ Q (.bl (decide (x = y))) H
def rNe : R2 := fun x y H Q => scal x y = true ∧ Q (.bl (!decide (x = y))) H

theorem dec_int {i j : Int} : decide (V.int i = V.int j) = (i == j) := by
  rw [Bool.eq_iff_iff]
  simp
theorem dec_bl {i j : Bool} : decide (V.bl i = V.bl j) = (i == j) := by
  rw [Bool.eq_iff_iff]
  simp
theorem dec_str {i j : Str} : decide (V.str i = V.str j) = (i == j) := by
  rw [Bool.eq_iff_iff]
  simp
theorem dec_byt {i j : Array UInt8} : decide (V.byt i = V.byt j) = (i.toList == j.toList) := by
  rw [Bool.eq_iff_iff]
  cases i
  cases j
  simp

section
variable {X : Cx} {a b c : Expr} {ta tb tc : TE} {pos : Pos}
theorem fin_bl {pins : List (Addr × Obj)} {σ : St} {H : Hp} {s : Shared} {Q : VK} {k k' : Bool} (I : Inv X pins σ H s) (q : Q (.bl k) H) (e : k = k') : EP X pins σ Q (.bool k') s := by
  subst e
  exact ⟨.bl k, H, I, rfl, q⟩
theorem op_eq : OpR X (compareOp .Eq) rEq := by
  intro pins s σ H x y v u Q I rx ry h
  obtain ⟨hs, q⟩ := h
  cases x with
  | non =>
    cases rx
    cases y with
    | non => cases ry; exact PySem.EqNone.eq_none_none (fin_bl I q (by simp))
    | bl j => cases ry; exact PySem.EqNone.eq_none_bool (fin_bl I q (by simp))
    | int j => obtain ⟨t', rfl⟩ := ry; exact PySem.EqNone.eq_none_int (fin_bl I q (by simp))
    | str j => obtain ⟨t', rfl⟩ := ry; exact PySem.EqNone.eq_none_str (fin_bl I q (by simp))
    | _ => exact absurd (show false = true from hs) Bool.false_ne_true
  | bl i =>
    cases rx
    cases y with
    | non => cases ry; exact PySem.EqNone.eq_bool_none (fin_bl I q (by simp))
    | bl j => cases ry; exact eq_bool (fin_bl I q dec_bl)
    | str j => obtain ⟨t', rfl⟩ := ry; exact PySem.EqMixed.eq_bool_str (fin_bl I q (by simp))
    | _ => exact absurd (show false = true from hs) Bool.false_ne_true
  | int i =>
    obtain ⟨t, rfl⟩ := rx
    cases y with
    | non => cases ry; exact PySem.EqNone.eq_int_none (fin_bl I q (by simp))
    | int j => obtain ⟨t', rfl⟩ := ry; exact eq_int (fin_bl I q dec_int)
    | str j => obtain ⟨t', rfl⟩ := ry; exact PySem.EqMixed.eq_int_str (fin_bl I q (by simp))
    | _ => exact absurd (show false = true from hs) Bool.false_ne_true
  | str i =>
    obtain ⟨t, rfl⟩ := rx
    cases y with
    | non => cases ry; exact PySem.EqNone.eq_str_none (fin_bl I q (by simp))
    | bl j => cases ry; exact PySem.EqMixed.eq_str_bool (fin_bl I q (by simp))
    | int j => obtain ⟨t', rfl⟩ := ry; exact PySem.EqMixed.eq_str_int (fin_bl I q (by simp))
    | str j => obtain ⟨t', rfl⟩ := ry; exact eq_str (fin_bl I q dec_str)
    | _ => exact absurd (show false = true from hs) Bool.false_ne_true
  | byt i =>
    obtain ⟨t, rfl⟩ := rx
    cases y with
    | byt j => obtain ⟨t', rfl⟩ := ry; exact PySem.W.eq_bytes (fin_bl I q dec_byt)
    | _ => exact absurd (show false = true from hs) Bool.false_ne_true
  | _ => cases y <;> exact absurd (show false = true from hs) Bool.false_ne_true
theorem op_ne : OpR X (compareOp .NotEq) rNe := by
  intro pins s σ H x y v u Q I rx ry h
  obtain ⟨hs, q⟩ := h
  cases x with
  | non =>
    cases rx
    cases y with
    | non => cases ry; exact PySem.EqNone.ne_none_none (fin_bl I q (by simp))
    | bl j => cases ry; exact PySem.EqNone.ne_none_bool (fin_bl I q (by simp))
    | int j => obtain ⟨t', rfl⟩ := ry; exact PySem.EqNone.ne_none_int (fin_bl I q (by simp))
    | str j => obtain ⟨t', rfl⟩ := ry; exact PySem.EqNone.ne_none_str (fin_bl I q (by simp))
    | _ => exact absurd (show false = true from hs) Bool.false_ne_true
  | bl i =>
    cases rx
    cases y with
    | non => cases ry; exact PySem.EqNone.ne_bool_none (fin_bl I q (by simp))
    | bl j => cases ry; exact ne_bool (fin_bl I q (congrArg not dec_bl))
    | str j => obtain ⟨t', rfl⟩ := ry; exact PySem.EqMixed.ne_bool_str (fin_bl I q (by simp))
    | _ => exact absurd (show false = true from hs) Bool.false_ne_true
  | int i =>
    obtain ⟨t, rfl⟩ := rx
    cases y with
    | non => cases ry; exact PySem.EqNone.ne_int_none (fin_bl I q (by simp))
    | int j => obtain ⟨t', rfl⟩ := ry; exact ne_int (fin_bl I q (congrArg not dec_int))
    | str j => obtain ⟨t', rfl⟩ := ry; exact PySem.EqMixed.ne_int_str (fin_bl I q (by simp))
    | _ => exact absurd (show false = true from hs) Bool.false_ne_true
  | str i =>
    obtain ⟨t, rfl⟩ := rx
    cases y with
    | non => cases ry; exact PySem.EqNone.ne_str_none (fin_bl I q (by simp))
    | bl j => cases ry; exact PySem.EqMixed.ne_str_bool (fin_bl I q (by simp))
    | int j => obtain ⟨t', rfl⟩ := ry; exact PySem.EqMixed.ne_str_int (fin_bl I q (by simp))
    | str j => obtain ⟨t', rfl⟩ := ry; exact ne_str (fin_bl I q (congrArg not dec_str))
    | _ => exact absurd (show false = true from hs) Bool.false_ne_true
  | byt i =>
    obtain ⟨t, rfl⟩ := rx
    cases y with
    | byt j => obtain ⟨t', rfl⟩ := ry; exact PySem.W.ne_bytes (fin_bl I q (congrArg not dec_byt))
    | _ => exact absurd (show false = true from hs) Bool.false_ne_true
  | _ => cases y <;> exact absurd (show false = true from hs) Bool.false_ne_true

theorem op_lt : OpR X (compareOp .Lt) (rI0 fun i j => .bl (decide (i < j))) := opB0 fun _ _ _ _ _ _ _ q => lt_int q
theorem op_le : OpR X (compareOp .LtE) (rI0 fun i j => .bl (decide (i ≤ j))) := opB0 fun _ _ _ _ _ _ _ q => le_int q
theorem op_gt : OpR X (compareOp .Gt) (rI0 fun i j => .bl (decide (j < i))) := opB0 fun _ _ _ _ _ _ _ q => gt_int q
theorem op_ge : OpR X (compareOp .GtE) (rI0 fun i j => .bl (decide (j ≤ i))) := opB0 fun _ _ _ _ _ _ _ q => ge_int q
theorem op_notN : OpR X (compareOp .IsNot) (fun x y H Q => y = .non ∧ Q (.bl (!decide (x = .non))) H) := by
  intro pins s σ H x y v u Q I rx ry h
  obtain ⟨rfl, q⟩ := h
  cases ry
  refine isnot_none_gen (fin_bl I q ?_)
  cases x <;> first
    | (cases rx; rfl)
    | (obtain ⟨t, rfl⟩ := rx; rfl)

theorem nomark (b : Expr) {op : CmpOp} (h : op ≠ .In := by decide) (h2 : op ≠ .NotIn := by decide) : behindInMarks op b = false := by
  have e1 : (op == CmpOp.In) = false := by cases op <;> first | rfl | exact absurd rfl h
  have e2 : (op == CmpOp.NotIn) = false := by cases op <;> first | rfl | exact absurd rfl h2
  cases b <;> simp [behindInMarks, e1, e2]
/-- a comparison as a value; hm: nomark b, or (for in, not in) by with_unfolding_all rfl -/
theorem pe_cmpR {op : CmpOp} {r : R2} (ho : OpR X (compareOp op) r) (ha : PE X a ta) (hb : PE X b tb) (hm : behindInMarks op b = false) : PE X (.Compare a [op] [b] pos) (tOp r ta tb) := by
  intro pins s σ H Q I h
  exact wpAny_Compare1 (binT ha hb I h fun v u s2 x y H2 I2 rx ry q => ho pins s2 σ H2 x y v u Q I2 rx ry q) hm
/-- a reading of a value as a test -/
def tTest (t : TE) : TT := fun σ H Q => t σ H fun x H' => ∃ k, x = .bl k ∧ Q k H'
theorem pt_cmpR {op : CmpOp} {r : R2} (ho : OpR X (compareOp op) r) (ha : PE X a ta) (hb : PE X b tb) (hm : behindInMarks op b = false) : PT X (.Compare a [op] [b] pos) (tTest (tOp r ta tb)) := by
  intro pins s σ H Q I h
  refine wpAny_isTrue_Compare1 (thn (ha pins s σ H _ I h) fun v s1 ⟨x, H1, I1, r1, q1⟩ => thn (hb pins s1 σ H1 _ I1 q1) fun u s2 ⟨y, H2, I2, r2, q2⟩ =>
    thn (ho pins s2 σ H2 x y v u _ I2 r1 r2 q2) fun c s3 ⟨z, H3, I3, r3, k, e, q3⟩ => ?_) hm
  subst e
  cases r3
  exact wpAny_truthy_bool ⟨H3, I3, q3⟩
/-- a op1 b op2 c -/
def tChain (r r' : R2) (ta tb tc : TE) : TE := fun σ H Q => ta σ H fun x H1 => tb σ H1 fun y H2 => r x y H2 fun z H3 => ∃ k, z = .bl k ∧
  (if k = true then tc σ H3 fun w' H4 => r' y w' H4 Q else Q (.bl false) H3)
theorem pe_chain {op op' : CmpOp} {r r' : R2} (ho : OpR X (compareOp op) r) (ho' : OpR X (compareOp op') r') (ha : PE X a ta) (hb : PE X b tb) (hc : PE X c tc)
    (hm : lastMarks [op, op'] [b, c] = false := by with_unfolding_all rfl) : PE X (.Compare a [op, op'] [b, c] pos) (tChain r r' ta tb tc) := by
  intro pins s σ H Q I h
  refine Compare_chain (thn (ha pins s σ H _ I h) fun v s1 ⟨x, H1, I1, r1, q1⟩ => chain_link (thn (hb pins s1 σ H1 _ I1 q1) fun u s2 ⟨y, H2, I2, r2, q2⟩ =>
    thn (ho pins s2 σ H2 x y v u _ I2 r1 r2 q2) fun d s3 ⟨z, H3, I3, r3, k, e, q3⟩ => ?_)) hm
  subst e
  cases r3
  refine wpAny_truthy_bool ?_
  cases k with
  | false => exact ite_ff ⟨.bl false, H3, I3, rfl, q3⟩
  | true => exact ite_tt (chain_last (thn (hc pins s3 σ H3 _ I3 q3) fun w' s4 ⟨z', H4, I4, r4, q4⟩ => ho' pins s4 σ H4 y z' u w' Q I4 r2 r4 q4))
/-! ### truth -/
theorem line63 : (sizeLine : Nat) < 2 ^ 63 := by rw [sizeLine_eq]; decide
/-! ### strs and bytes -/
/-! ### scalar builtins, by CallR -/
theorem vals1 {x : V} {us : List Value} (r : Vals [x] us) : ∃ u, us = [u] ∧ RelV x u := by
  cases r with
  | cons r1 r2 => cases r2; exact ⟨_, rfl, r1⟩
theorem vals2 {x y : V} {us : List Value} (r : Vals [x, y] us) : ∃ u w', us = [u, w'] ∧ RelV x u ∧ RelV y w' := by
  cases r with
  | cons r1 r2 =>
    cases r2 with
    | cons r3 r4 => cases r4; exact ⟨_, _, rfl, r1, r3⟩
theorem call_abs : CallR X (.builtin "abs") (fun xs H Q => ∃ i, xs = [.int i] ∧ Q (.int (if i < 0 then -i else i)) H) := by
  intro pins s σ H xs us Q I r h
  obtain ⟨i, rfl, q⟩ := h
  obtain ⟨u, rfl, t, rfl⟩ := vals1 r
  exact call_abs_int fun u tk => ⟨.int (if i < 0 then -i else i), H, I.tok _, ⟨_, rfl⟩, q⟩
theorem call_int1 : CallR X (.type "int") (fun xs H Q => (∃ i, xs = [.int i] ∧ Q (.int i) H) ∨ ∃ k, xs = [.bl k] ∧ Q (.int (if k then 1 else 0)) H) := by
  intro pins s σ H xs us Q I r h
  rcases h with ⟨i, rfl, q⟩ | ⟨k, rfl, q⟩
  · obtain ⟨u, rfl, t, rfl⟩ := vals1 r
    exact call_int_int ⟨.int i, H, I, ⟨_, rfl⟩, q⟩
  · obtain ⟨u, rfl, r1⟩ := vals1 r
    cases r1
    exact call_int_bool ⟨.int (if k then 1 else 0), H, I.tok _, ⟨_, rfl⟩, q⟩
end
end L2

namespace L2
open PySem PySem.Spec PyProof.Rows

/-! ### an instance, its attributes a map -/
structure ObjM (h : Heap) (x dx C : Addr) (mA : Str → Option Value) : Prop where
  obj : h.get? x = some (PySem.W.instObj C dx)
  ns : h.Ns1 dx mA
  ne : dx ≠ x

theorem lookIn_ns {h : Heap} {dx : Addr} {mA : Str → Option Value} (n : h.Ns1 dx mA) : ∃ od, h.get? dx = some od ∧ ∀ name, PySem.W.lookIn name od = some (mA name) := by
  obtain ⟨o, es, ep, ho, hd, hk, _, hm⟩ := n
  refine ⟨o, ho, fun name => ?_⟩
  have e := hm name
  unfold nsFind findBy at e
  rw [← Array.find?_toList] at e
  unfold PySem.W.lookIn
  rw [hd]
  dsimp only
  split
  · rename_i y q
    rw [q] at e
    exact congrArg some e
  · rename_i q
    rw [q] at e
    have a : es.toList.any (·.refKey) = false := by
      rw [List.any_eq_false]
      intro y hy
      obtain ⟨z, t, hkey⟩ := hk y (Array.mem_toList_iff.mp hy)
      simp [DictEntry.refKey, hkey]
    have a' : ¬ es.toList.any (·.refKey) = true := by rw [a]; exact Bool.false_ne_true
    rw [if_neg a']
    exact congrArg some e

theorem ObjM.look {h : Heap} {x dx C : Addr} {mA : Str → Option Value} (I : ObjM h x dx C mA) : ∃ od, PySem.W.InstAt h x (PySem.W.instObj C dx) C (some od) ∧ ∀ name, PySem.W.lookIn name od = some (mA name) :=
  let ⟨od, ho, hl⟩ := lookIn_ns I.ns
  ⟨od, ⟨I.obj, rfl, rfl, ho⟩, hl⟩

section
variable {prog : Program} {w : World} {A : Around} {E : Value → Shared → Prop} {s : Shared} {K : PySem.W.Frag} {x dx C f : Addr} {mA : Str → Option Value} {name : Str} {v : Value}

theorem get_map {expr : Bool} {Q : Value → Shared → Prop} (X : K.In s.heap) (I : ObjM s.heap x dx C mA) (hg : PySem.W.plainGet K C name = true) (hh : PySem.W.hasDictIn K C = true)
    (ha : PySem.W.findIn K (.ref C) name = some none) (hv : mA name = some v) (hv' : PySem.W.handedIn v = true) (h : Q v { s with toks := s.toks + 1 }) :
    wpAny (model prog w) A (getAttr (.ref x) name expr) Q E s := by
  obtain ⟨od, J, hl⟩ := I.look
  exact PySem.W.get_value X J (PySem.W.plainGet_of hg).1 (PySem.W.findObj_own hh ha rfl (by rw [hl, hv])) hv' h

theorem get_meth {pl : Sem Bool} {Q : Value × List Value → Shared → Prop} (X : K.In s.heap) (I : ObjM s.heap x dx C mA) (hg : PySem.W.plainGet K C name = true)
    (hf : PySem.W.findIn K (.ref C) name = some (some (.ref f))) (ht : PySem.W.isFn K (.ref f) = true) (hv : mA name = none) (h : Q (.ref f, [.ref x]) s) :
    wpAny (model prog w) A (getMethod (.ref x) name pl) Q E s := by
  obtain ⟨od, J, hl⟩ := I.look
  exact PySem.W.method_fn X J (PySem.W.plainGet_of hg).1 (PySem.W.plainGet_of hg).2 hf (beq_iff_eq.mp ht) (by show (PySem.W.lookIn name od).map (·.isSome) = some false; rw [hl, hv]; rfl) h

theorem set_map {ns : List Str} {Q : Unit → Shared → Prop} (X : K.In s.heap) (I : ObjM s.heap x dx C mA)
    (hs : PySem.W.findIn K (.ref C) "__setattr__" = some (some (.builtin "object.__setattr__"))) (hp : PySem.W.plainOver K C = true) (ht : PySem.W.takerIn K C name = some none) (hh : PySem.W.hasDictIn K C = true)
    (hw : PySem.Within mA ns) (hsz : ns.length ≤ sizeLine)
    (h : ∀ h', ObjM h' x dx C (fun y => if y = name then some v else mA y) → Heap.SameBut dx s.heap h' → Q () { s with heap := h', toks := s.toks + 2 }) :
    wpAny (model prog w) A (setAttr (.ref x) name v) Q E s := by
  obtain ⟨od, J, hl⟩ := I.look
  refine PySem.W.set_plain X J hs (PySem.W.osa_open (s := { s with toks := s.toks + 1 }) (r := none) X J hp ht fun b => ?_)
  obtain ⟨cd, hc, hd'⟩ := PySem.W.any_some hh
  have hx : s.heap.get? x = some ⟨.ref C, some dx, .plain, #[]⟩ := I.obj
  refine wpAny_bind (wpAny_pure (wpAny_bind (wpAny_bind (wpAny_loadPart hx (wpAny_bind (PySem.W.Looks.here (s := { s with toks := s.toks + 1 }) (PySem.W.looks_clsIn X hc) ?_))))))
  rw [hd']
  refine wpAny_pure (a := some dx) (wpAny_bind (wpAny_pure (wpAny_bind ?_)))
  refine wpAny_nsSet1 (s := { s with toks := s.toks + 1 }) I.ns fun h' hn2 hs2 => ?_
  obtain ⟨oD, esD, epD, hoD, hdD, hcD⟩ := hn2.count (PySem.Within.cons name v hw)
  refine wpAny_bind (wpAny_lookBehind hoD (by rw [hdD]; exact pastItsLine_dict (Nat.le_trans hcD (by rw [List.length_cons]; omega))) ?_)
  exact wpAny_pure (h _ ⟨(hs2.2 _ (Ne.symm I.ne)).trans I.obj, hn2, I.ne⟩ hs2)

/-- C(..): the dict at the heap's end, the instance behind it; then its __init__ -/
theorem make_map {R : Result → Shared → Prop} {vs : List Value} {kw : List (Str × Value)} (X : K.In s.heap) (hm : PySem.W.makesIn K C = true)
    (hi : PySem.W.findIn K (.ref C) "__init__" = some (some (.ref f))) (hf : PySem.W.typeIn K (.ref f) = some (.type "function"))
    (h : codeAny (model prog w) (A.under (.builtin "type.__call__" ⟨.ref C :: vs, kw⟩)) (.call (.ref f) ⟨.ref (s.heap.objs.size + 1) :: vs, kw⟩) (PySem.W.InitBack (s.heap.objs.size + 1) R)
      { s with heap := (s.heap.push PySem.W.emptyDict).push (PySem.W.instObj C s.heap.objs.size) }) :
    codeAny (model prog w) A (.call (.ref C) ⟨vs, kw⟩) R s := by
  obtain ⟨hh, g, d, t, os⟩ := s
  exact PySem.W.make_core (PySem.W.makes_of X hm) (PySem.W.looks_findIn X hi) (fun self => PySem.W.bind_fn X self hf) (.inl rfl) h
end

/-! ### the attributes as a list of pairs -/
def putF (f : Str) (v : V) : List (Str × V) → List (Str × V)
  | [] => [(f, v)]
  | (g, x) :: r => if g = f then (g, v) :: r else (g, x) :: putF f v r
theorem lookup_putF (f g : Str) (v : V) : ∀ fs : List (Str × V), (putF f v fs).lookup g = if g = f then some v else fs.lookup g
  | [] => by
    show List.lookup g [(f, v)] = _
    by_cases h : g = f
    · have hb : (g == f) = true := beq_iff_eq.mpr h
      simp only [List.lookup, hb, if_pos h]
    · have hb : (g == f) = false := beq_eq_false_iff_ne.mpr h
      simp only [List.lookup, hb, if_neg h]
  | (k, x) :: r => by
    have ih := lookup_putF f g v r
    rw [show putF f v ((k, x) :: r) = (if k = f then (k, v) :: r else (k, x) :: putF f v r) from rfl]
    by_cases hk : k = f
    · rw [if_pos hk]
      by_cases h : g = k
      · have hb : (g == k) = true := beq_iff_eq.mpr h
        simp only [List.lookup, hb, if_pos (h.trans hk)]
      · have hb : (g == k) = false := beq_eq_false_iff_ne.mpr h
        simp only [List.lookup, hb, if_neg (fun e : g = f => h (e.trans hk.symm))]
    · rw [if_neg hk]
      by_cases h : g = k
      · have hb : (g == k) = true := beq_iff_eq.mpr h
        simp only [List.lookup, hb, if_neg (fun e : g = f => hk (h.symm.trans e))]
      · have hb : (g == k) = false := beq_eq_false_iff_ne.mpr h
        simp only [List.lookup, hb]
        exact ih
theorem keys_putF (f : Str) (v : V) : ∀ fs : List (Str × V), f ∈ (putF f v fs).map (·.1) ∧ ∀ g, g ∈ fs.map (·.1) → g ∈ (putF f v fs).map (·.1)
  | [] => ⟨by simp [putF], fun g h => by simp at h⟩
  | (k, x) :: r => by
    obtain ⟨i1, i2⟩ := keys_putF f v r
    rw [show putF f v ((k, x) :: r) = (if k = f then (k, v) :: r else (k, x) :: putF f v r) from rfl]
    by_cases hk : k = f
    · rw [if_pos hk]
      subst hk
      exact ⟨by simp, fun g h => by simpa using h⟩
    · rw [if_neg hk]
      refine ⟨?_, fun g h => ?_⟩
      · rw [List.map_cons]
        exact List.mem_cons_of_mem _ i1
      · rw [List.map_cons] at h ⊢
        rcases List.mem_cons.mp h with e | e
        · exact List.mem_cons.mpr (.inl e)
        · exact List.mem_cons_of_mem _ (i2 g e)
theorem length_putF (f : Str) (v : V) : ∀ fs : List (Str × V), (putF f v fs).length ≤ fs.length + 1
  | [] => by simp [putF]
  | (k, x) :: r => by
    have ih := length_putF f v r
    rw [show putF f v ((k, x) :: r) = (if k = f then (k, v) :: r else (k, x) :: putF f v r) from rfl]
    by_cases hk : k = f
    · rw [if_pos hk, List.length_cons, List.length_cons]; omega
    · rw [if_neg hk, List.length_cons, List.length_cons]; omega

theorem RelO.some_of {v : V} {o : Option Value} (r : RelO (some v) o) : ∃ u, o = some u ∧ RelV v u := by
  cases o with
  | none => exact (show False from r).elim
  | some u => exact ⟨u, rfl, r⟩
theorem RelO.none_of {o : Option Value} (r : RelO none o) : o = none := by
  cases o with
  | none => rfl
  | some u => exact (show False from r).elim
theorem handed_of {v : V} {u : Value} (r : RelV v u) : PySem.W.handedIn u = true := by
  cases v with
  | non => cases (show u = Value.none from r); rfl
  | bl b => cases (show u = Value.bool b from r); rfl
  | int i => obtain ⟨t, e⟩ := (show ∃ t, u = Value.int i t from r); cases e; rfl
  | str x => obtain ⟨t, e⟩ := (show ∃ t, u = Value.str x t from r); cases e; rfl
  | byt b => obtain ⟨t, e⟩ := (show ∃ t, u = Value.bytes b t from r); cases e; rfl
  | flt b => obtain ⟨t, e⟩ := (show ∃ t, u = Value.float b t from r); cases e; rfl
  | ref a => cases (show u = Value.ref a from r); rfl
  | ty n => cases (show u = Value.type n from r); rfl

section
variable {P : Program} {w : World} {H H' : Hp} {h h' : Heap} {a C dx : Addr} {fs fs' : List (Str × V)}
theorem ins_get (hok : HOk P w H h) (e : H a = some (.ins C dx fs)) : ∃ mA, ObjM h a dx C mA ∧ (∀ f, RelO (fs.lookup f) (mA f)) ∧ PySem.Within mA (fs.map (·.1)) ∧ fs.length ≤ 1000 ∧ H dx = some (.own a) := by
  obtain ⟨d, z, ne, ob, mA, n, r, q⟩ := (show ObjOk P w H h a (.ins C dx fs) from hok a _ e)
  exact ⟨mA, ⟨ob, n, ne⟩, r, q, z, d⟩
end

/-! ### what of the text a class must have -/
structure Cls (K : PySem.W.Frag) (C : Addr) : Prop where
  pg : PySem.W.plainGet K C Str.empty = true
  hd : PySem.W.hasDictIn K C = true
  po : PySem.W.plainOver K C = true
  sa : PySem.W.findIn K (.ref C) "__setattr__" = some (some (.builtin "object.__setattr__"))
theorem Cls.get {K : PySem.W.Frag} {C : Addr} (c : Cls K C) (f : Str) : PySem.W.plainGet K C f = true := c.pg
/-- no class of it has the name -/
def NoAttr (K : PySem.W.Frag) (C : Addr) (f : Str) : Prop := PySem.W.findIn K (.ref C) f = some none
theorem NoAttr.taker {K : PySem.W.Frag} {C : Addr} {f : Str} (n : NoAttr K C f) : PySem.W.takerIn K C f = some none := by
  unfold PySem.W.takerIn
  rw [show PySem.W.findIn K (.ref C) f = some none from n]
  rfl
/-- a method: a plain def of the class or of one above it -/
structure Meth (K : PySem.W.Frag) (C : Addr) (m : Str) (f : Addr) : Prop where
  at_ : PySem.W.findIn K (.ref C) m = some (some (.ref f))
  fn : PySem.W.isFn K (.ref f) = true
  kp : PySem.W.keepIn K (.ref f) = true

section
variable {X : Cx} {pins : List (Addr × Obj)} {σ : St} {H : Hp} {s : Shared} {a C dx : Addr} {fs : List (Str × V)} {f : Str} {v : V} {A : Around} {E : Value → Shared → Prop}

theorem getattr_ok {b : Bool} {Q : Value → Shared → Prop} (I : Inv X pins σ H s) (e : H a = some (.ins C dx fs)) (c : Cls X.K C) (n : NoAttr X.K C f) (l : fs.lookup f = some v)
    (h : ∀ u s', Inv X pins σ H s' → RelV v u → Q u s') : wpAny (model X.prog X.w) A (getAttr (.ref a) f b) Q E s := by
  obtain ⟨mA, O, r, _, _, _⟩ := ins_get I.hok e
  obtain ⟨u, hu, ru⟩ := RelO.some_of (v := v) (o := mA f) (by rw [← l]; exact r f)
  exact get_map I.kIn O (c.get f) c.hd n hu (handed_of ru) (h u _ (I.tok _) ru)

theorem getmeth_ok {m : Str} {g : Addr} {pl : Sem Bool} {Q : Value × List Value → Shared → Prop} (I : Inv X pins σ H s) (e : H a = some (.ins C dx fs)) (c : Cls X.K C) (k : Meth X.K C m g) (l : fs.lookup m = none)
    (h : Q (.ref g, [.ref a]) s) : wpAny (model X.prog X.w) A (getMethod (.ref a) m pl) Q E s := by
  obtain ⟨mA, O, r, _, _, _⟩ := ins_get I.hok e
  have hn : mA m = none := RelO.none_of (by rw [← l]; exact r m)
  exact get_meth I.kIn O (c.get m) k.at_ k.fn hn h

theorem setattr_ok {y : V} {u : Value} {Q : Unit → Shared → Prop} (I : Inv X pins σ H s) (e : H a = some (.ins C dx fs)) (c : Cls X.K C) (n : NoAttr X.K C f) (hl : fs.length < 1000) (ry : RelV y u)
    (h : ∀ s', Inv X pins σ (upd H a (.ins C dx (putF f y fs))) s' → Q () s') : wpAny (model X.prog X.w) A (setAttr (.ref a) f u) Q E s := by
  obtain ⟨mA, O, r, wi, _, ho⟩ := ins_get I.hok e
  have hz : (fs.map (·.1)).length ≤ sizeLine := by rw [List.length_map, sizeLine_eq]; omega
  refine set_map I.kIn O c.sa c.po n.taker c.hd wi hz fun h' O' sb => h _ ?_
  have hd : ∃ o, h'.get? dx = some o := let ⟨o, _, _, e', _⟩ := O'.ns; ⟨o, e'⟩
  refine I.write (x := a) (e := dx) (by rw [e]; exact True.intro) (.inr ho) (fun b q hb z => (sb.2 b hb).trans z) hd ?_
  refine ⟨by rw [upd_ne O.ne]; exact ho, ?_, O.ne, O'.obj, _, O'.ns, fun g => ?_, fun g hg => ?_⟩
  · have := length_putF f y fs; omega
  · show RelO ((putF f y fs).lookup g) (if g = f then some u else mA g)
    rw [lookup_putF]
    by_cases q : g = f
    · rw [if_pos q, if_pos q]; exact ry
    · rw [if_neg q, if_neg q]; exact r g
  · by_cases q : g = f
    · rw [q]; exact (keys_putF f y fs).1
    · refine (keys_putF f y fs).2 g (wi g fun z => hg ?_)
      show (if g = f then some u else mA g) = none
      rw [if_neg q]; exact z

/-- a new instance, tracked, without attributes -/
theorem Inv.made (I : Inv X pins σ H s) : Inv X pins σ (upd (upd H s.heap.objs.size (.own (s.heap.objs.size + 1))) (s.heap.objs.size + 1) (.ins C s.heap.objs.size []))
    { s with heap := (s.heap.push PySem.W.emptyDict).push (PySem.W.instObj C s.heap.objs.size) } := by
  have e1 : (s.heap.push PySem.W.emptyDict).get? s.heap.objs.size = some PySem.W.emptyDict := Heap.get?_push_size s.heap rfl
  have e2 : ((s.heap.push PySem.W.emptyDict).push (PySem.W.instObj C s.heap.objs.size)).get? (s.heap.objs.size + 1) = some (PySem.W.instObj C s.heap.objs.size) := by
    have := Heap.get?_push_size (s.heap.push PySem.W.emptyDict) (o := PySem.W.instObj C s.heap.objs.size) rfl
    rwa [Heap.size_push] at this
  have e3 : (s.heap.push PySem.W.emptyDict).Ns s.heap.objs.size (fun _ => none) := ⟨PySem.W.emptyDict, #[], _, e1, rfl, (fun e he => absurd he (by simp)), fun _ => rfl⟩
  have I1 := I.laid (a := s.heap.objs.size) (o := .own (s.heap.objs.size + 1)) (h' := s.heap.push PySem.W.emptyDict) (t' := s.toks) (fun b u q => Heap.get?_push_of_some _ q) (Nat.le_refl _) ⟨_, e1⟩
  refine I1.laid (a := s.heap.objs.size + 1) (o := .ins C s.heap.objs.size []) (t' := s.toks) (fun b u q => Heap.get?_push_of_some _ q) (Nat.le_of_eq (Heap.size_push _ _)) ?_
  have ne : s.heap.objs.size ≠ s.heap.objs.size + 1 := Nat.ne_of_lt (Nat.lt_succ_self _)
  refine ⟨by rw [upd_ne ne, upd_same], Nat.zero_le _, ne, e2, fun _ => none, (Heap.Ns1.of_empty e3).at fun o q => Heap.get?_push_of_some _ q, fun _ => True.intro, fun y hy => absurd rfl hy⟩

/-- e.f where nothing but the object is asked: through attributeBase (super) and the last hold -/
theorem attr_of {prog : Program} {w : World} {env : Env} {e : Expr} {f : Str} {pos : Pos} {s : Shared} {Q : Value → Shared → Prop} (hb : attributeBase e f env (eval e env) = eval e env)
    (h : wpAny (model prog w) A (eval e env) (fun o s₁ => wpAny (model prog w) A (getAttr o f true) Q E s₁) E s) : wpAny (model prog w) A (eval (.Attribute e f pos) env) Q E s :=
  Attribute_any_ h (by rw [arm_eval_Attribute, hb])
end

/-! ### readings and rules -/
/-- e.f, an attribute of the instance -/
def tFld (K : PySem.W.Frag) (ta : TE) (f : Str) : TE := fun σ H Q => ta σ H fun x H1 => ∃ a C dx fs v, x = .ref a ∧ H1 a = some (.ins C dx fs) ∧ Cls K C ∧ NoAttr K C f ∧ fs.lookup f = some v ∧ Q v H1
/-- e.f = value -/
def sFld (K : PySem.W.Frag) (ta tv : TE) (f : Str) : TS := fun D σ H => tv σ H fun y H1 => ta σ H1 fun x H2 => ∃ a C dx fs, x = .ref a ∧ H2 a = some (.ins C dx fs) ∧ Cls K C ∧ NoAttr K C f ∧ fs.length < 1000 ∧
  D.nx σ (upd H2 a (.ins C dx (putF f y fs)))
section
variable {X : Cx} {o e value : Expr} {f : Str} {pos pos' tpos : Pos} {ta tv : TE}
theorem pe_fld (he : PE X e ta) (hb : attributeBase e f X.env (eval e X.env) = eval e X.env) : PE X (.Attribute e f pos) (tFld X.K ta f) := by
  intro pins s σ H Q I h
  refine attr_of hb (thn (he pins s σ H _ I h) fun u s1 ⟨x, H1, I1, rx, a, C, dx, fs, v, ex, ea, c, n, l, q⟩ => ?_)
  subst ex
  obtain rfl : u = Value.ref a := rx
  exact getattr_ok I1 ea c n l fun u' s2 I2 ru => ⟨v, H1, I2, ru, q⟩
theorem ps_fld (ha : PE X o ta) (hv : PE X value tv) (hs : swapsWith value (some (.Attribute o f pos')) pos.line X.env = pure false) : PS X (.Assign [.Attribute o f pos'] value pos) (sFld X.K ta tv f) := by
  intro pins s σ H D I h
  refine plainObj_wpAny_Assign_Attribute (thn (hv pins s σ H _ I h) fun u s1 ⟨y, H1, I1, ry, q⟩ => thn (ha pins s1 σ H1 _ I1 q) fun ov s2 ⟨x, H2, I2, rx, a, C, dx, fs, ex, ea, c, n, l, q2⟩ => ?_) hs
  subst ex
  obtain rfl : ov = Value.ref a := rx
  exact setattr_ok I2 ea c n l ry fun s3 I3 => ⟨σ, _, I3, q2⟩
end

/-! ### isinstance -/
section
variable {X : Cx} {pins : List (Addr × Obj)} {σ : St} {H : Hp} {s : Shared} {A : Around} {E : Value → Shared → Prop} {Q : Value → Shared → Prop} {c : Value} {b : Bool}
/-- the type of a value, as the fragment's deciders take it; for an instance its class -/
inductive TyOf (K : PySem.W.Frag) (H : Hp) : V → Value → Prop where
  | non : TyOf K H .non (.type "NoneType")
  | bl (x : Bool) : TyOf K H (.bl x) (.type "bool")
  | int (i : Int) : TyOf K H (.int i) (.type "int")
  | str (x : Str) : TyOf K H (.str x) (.type "str")
  | flt (x : UInt64) : TyOf K H (.flt x) (.type "float")
  | lst {a : Addr} {xs : List V} (e : H a = some (.lst xs)) : TyOf K H (.ref a) (.type "list")
  | frz {a : Addr} {o : Obj} {xs : List V} (e : H a = some (.frz o (.lst xs))) : TyOf K H (.ref a) (.type "list")
  | tup {a : Addr} {xs : List V} (e : H a = some (.tup xs)) : TyOf K H (.ref a) (.type "tuple")
  | dK {a : Addr} {kvs : List (Key × V)} (e : H a = some (.dK kvs)) : TyOf K H (.ref a) (.type "dict")
  | dT {a : Addr} {kvs : List (List Key × V)} (e : H a = some (.dT kvs)) : TyOf K H (.ref a) (.type "dict")
  | ins {a C dx : Addr} {fs : List (Str × V)} (e : H a = some (.ins C dx fs)) (cl : Cls K C) (ha : PySem.W.findIn K (.ref C) "__class__" = some (some (.builtin "object.__class__")))
      (hn : PySem.W.specialIn K (.builtin "object.__class__") "__get__" = some (some (.builtin "getset_descriptor.__get__"))) (htk : PySem.W.takesIn K (.builtin "object.__class__") = some true)
      (hm : PySem.W.mroIn K C (.type "object") = some true) : TyOf K H (.ref a) (.ref C)
/-- isinstance(x, c) for one class c, a built-in or an own one: kitOne's answer -/
theorem isinst_ok {x : V} {u t : Value} (I : Inv X pins σ H s) (rx : RelV x u) (ty : TyOf X.K H x t) (e : PySem.W.kitOne X.K t c = some b) (h : ∀ tk, Q (.bool b) { s with toks := tk }) :
    wpAny (model X.prog X.w) A (call (.builtin "isinstance") [u, c]) Q E s := by
  cases ty with
  | non => cases (show u = Value.none from rx); exact PySem.W.kia_one PySem.W.kitx_none I.kIn True.intro e (fun z => nomatch z) h
  | bl y => cases (show u = Value.bool y from rx); exact PySem.W.kia_one PySem.W.kitx_bool I.kIn True.intro e (fun z => nomatch z) h
  | int i => obtain ⟨t, q⟩ := (show ∃ t, u = Value.int i t from rx); cases q; exact PySem.W.kia_one PySem.W.kitx_int I.kIn True.intro e (fun z => nomatch z) h
  | str y => obtain ⟨t, q⟩ := (show ∃ t, u = Value.str y t from rx); cases q; exact PySem.W.kia_one PySem.W.kitx_str I.kIn True.intro e (fun z => nomatch z) h
  | flt y => obtain ⟨t, q⟩ := (show ∃ t, u = Value.float y t from rx); cases q; exact PySem.W.kia_one PySem.W.kitx_float I.kIn True.intro e (fun z => nomatch z) h
  | @lst a xs ea =>
    cases (show u = Value.ref a from rx)
    obtain ⟨_, _, n, _, h1⟩ := (show ObjOk X.prog X.w H s.heap a (.lst xs) from I.hok a _ ea)
    exact PySem.W.kia_one PySem.W.kitx_list I.kIn ⟨_, h1, rfl⟩ e (fun z => nomatch z) h
  | @frz a ob xs ea =>
    cases (show u = Value.ref a from rx)
    obtain ⟨_, _, _, n, _, h1⟩ := (show ObjOk X.prog X.w H s.heap a (.frz ob (.lst xs)) from I.hok a _ ea)
    exact PySem.W.kia_one PySem.W.kitx_list I.kIn ⟨_, h1, rfl⟩ e (fun z => nomatch z) h
  | @tup a xs ea =>
    cases (show u = Value.ref a from rx)
    obtain ⟨_, _, _, p⟩ := (show ObjOk X.prog X.w H s.heap a (.tup xs) from I.hok a _ ea)
    obtain ⟨o, h1, h2, _⟩ := p
    exact PySem.W.kia_one PySem.W.kitx_tuple I.kIn ⟨o, h1, h2⟩ e (fun z => nomatch z) h
  | @dK a kvs ea =>
    cases (show u = Value.ref a from rx)
    obtain ⟨_, _, vs, _, p⟩ := (show ObjOk X.prog X.w H s.heap a (.dK kvs) from I.hok a _ ea)
    obtain ⟨o, es, ep, h1, h2, _⟩ := p
    exact PySem.W.kia_one PySem.W.kitx_dict I.kIn ⟨o, h1, h2.1⟩ e (fun z => nomatch z) h
  | @dT a kvs ea =>
    cases (show u = Value.ref a from rx)
    obtain ⟨_, _, xs, _, o, es, ep, h1, h2, _⟩ := (show ObjOk X.prog X.w H s.heap a (.dT kvs) from I.hok a _ ea)
    exact PySem.W.kia_one PySem.W.kitx_dict I.kIn ⟨o, h1, h2.1⟩ e (fun z => nomatch z) h
  | @ins a C dx fs ea cl ha hn htk hm =>
    cases (show u = Value.ref a from rx)
    obtain ⟨mA, O, _⟩ := ins_get I.hok ea
    obtain ⟨od, J, _⟩ := O.look
    exact PySem.W.kia_one (PySem.W.kitx_own (cl.get _) cl.hd ha hn htk hm) I.kIn J e (fun z => nomatch z) h
end
end L2

namespace L2
open PySem PySem.Spec PyProof.Rows

/-! ### room -/
structure Room (k : Nat) (A : Around) : Prop where
  hd : A.handled = none
  dp : A.depth + 3 * k + 5 < recursionLimit
  un : A.units + 16 * k + 200 < cLine
theorem Room.mono {j k : Nat} {A : Around} (r : Room k A) (h : j ≤ k) : Room j A := ⟨r.hd, by have := r.dp; omega, by have := r.un; omega⟩
theorem Room.deeper {k : Nat} {A : Around} (r : Room (k + 1) A) (env : Env) : Room k (A.deeper env) :=
  ⟨r.hd, by have := r.dp; show A.depth + 1 + 3 * k + 5 < _; omega, by have := r.un; show A.units + 3 + 16 * k + 200 < _; omega⟩
theorem make_depth {A : Around} {C : Addr} {us : List Value} {kw : List (Str × Value)} : (A.under (.builtin "type.__call__" ⟨.ref C :: us, kw⟩)).depth = A.depth + 1 := by
  first | rfl | simp [Around.under, Code.weight, Code.isCreation, Code.isGuard, Code.isCaller, Code.frames, Code.isFrame, guardIds]
theorem make_units {A : Around} {C : Addr} {us : List Value} {kw : List (Str × Value)} : (A.under (.builtin "type.__call__" ⟨.ref C :: us, kw⟩)).units = A.units + 1 := by
  first | rfl | simp [Around.under, Code.cUnits, Code.frames, Code.isFrame]
theorem Room.make {k : Nat} {A : Around} (r : Room (k + 1) A) (C : Addr) (us : List Value) (kw : List (Str × Value)) : Room k (A.under (.builtin "type.__call__" ⟨.ref C :: us, kw⟩)) :=
  ⟨r.hd, by have := r.dp; rw [make_depth]; omega, by have := r.un; rw [make_units]; omega⟩
theorem Room.depth {k : Nat} {A : Around} (r : Room k A) : A.depth < recursionLimit := by have := r.dp; omega
theorem Room.units {k : Nat} {A : Around} (r : Room k A) : A.units + 64 < cLine := by have := r.un; omega
/-! ### argument lists and displays -/
def tNil : TA := fun _ H Q => Q [] H
def tCons (ta : TE) (tr : TA) : TA := fun σ H Q => ta σ H fun x H1 => tr σ H1 fun xs H2 => Q (x :: xs) H2
section
variable {X : Cx} {e : Expr} {es : List Expr} {te : TE} {t : TA} {pos : Pos}
theorem pa_nil : PA X [] tNil := fun _ _ _ _ H Q I h => Calls.spliced_nil ⟨[], H, I, .nil, h⟩
theorem pa_cons (ha : PE X e te) (hr : PA X es t) (hs : starEach (e :: es) X.env = (false, eval e X.env) :: starEach es X.env := by rfl) : PA X (e :: es) (tCons te t) := by
  intro pos pins s σ H Q I h
  rw [hs]
  show wpAny _ _ (spliced ((false, eval e X.env) :: backTo pos (starEach es X.env))) _ _ s
  refine Calls.spliced_cons (thn (ha pins s σ H _ I h) fun u s1 ⟨x, H1, I1, r1, q1⟩ => ?_)
  exact thn (hr pos pins s1 σ H1 _ I1 q1) fun us s2 ⟨xs, H2, I2, r2, q2⟩ => ⟨x :: xs, H2, I2, .cons r1 r2, q2⟩

/-- a tuple, a list of written items -/
def tTup (t : TA) : TE := fun σ H Q => t σ H fun xs H1 => xs.length ≤ sizeLine ∧ ∀ p, H1 p = none → Q (.ref p) (upd H1 p (.tup xs))
def tLst (t : TA) : TE := fun σ H Q => t σ H fun xs H1 => xs.length ≤ sizeLine ∧ ∀ p, H1 p = none → Q (.ref p) (upd H1 p (.lst xs))
theorem pe_tup {x1} (h : PA X es t) : PE X (.Tuple es x1 pos) (tTup t) := by
  intro pins s σ H Q I hq
  refine wpAny_Tuple_spliced (thn (h pos pins s σ H _ I hq) fun us s1 ⟨xs, H1, I1, r, z, q⟩ => ⟨by rw [← r.length]; exact z, ?_⟩)
  have hf : H1 s1.heap.objs.size = none := I1.hok.fresh (Nat.le_refl _)
  refine ⟨.ref s1.heap.objs.size, upd H1 s1.heap.objs.size (.tup xs), I1.laid (t' := s1.toks) (fun b u e => Heap.get?_push_of_some _ e) (Nat.le_refl _) ?_, rfl, q _ hf⟩
  exact ⟨z, us, r, ⟨_, Heap.get?_push_size _ rfl, rfl, _, rfl⟩⟩
theorem pe_lst (h : PA X es t) : PE X (.List es pos) (tLst t) := by
  intro pins s σ H Q I hq
  refine wpAny_List_spliced (thn (h pos pins s σ H _ I hq) fun us s1 ⟨xs, H1, I1, r, z, q⟩ => ⟨by rw [← r.length]; exact z, ?_⟩)
  have hf : H1 s1.heap.objs.size = none := I1.hok.fresh (Nat.le_refl _)
  refine ⟨.ref s1.heap.objs.size, upd H1 s1.heap.objs.size (.lst xs), I1.laid (t' := s1.toks) (fun b u e => Heap.get?_push_of_some _ e) (Nat.le_refl _) ?_, rfl, q _ hf⟩
  exact ⟨z, us, 0, r, Heap.get?_push_size _ rfl⟩
end

/-! ### what a def promises -/
/-- a def's promise: the bound arguments in the parameters' order, the heap, the wanted end, the wanted exception -/
abbrev Sp := List V → Hp → VK → XK → Prop
/-- how an exception lies behind a call (file 08 gives it): the callers' frames, abstract heap and state ahead of the call, the wish, the exception, the state -/
abbrev CXT := List Env → Hp → Shared → XK → Value → Shared → Prop

/-- the state at a call -/
structure Env0 (P : Program) (w : World) (K : PySem.W.Frag) (mg : Str → Option Value) (base : Heap) (A : Around) (outer : List Env) (s : Shared) (H : Hp) : Prop where
  frames : A.frames = some outer
  mod : Mod K mg base
  bs : ∀ b o, base.get? b = some o → s.heap.get? b = some o ∧ H b = none
  bsz : base.objs.size ≤ s.heap.objs.size
  funs : s.heap.FunFrames base outer
  frf : ∀ b ∈ frs outer, H b = none
  hok : HOk P w H s.heap
  bare : AllBare s.gens
/-- a call's end -/
def CE (outer : List Env) (P : Program) (w : World) (H : Hp) (s : Shared) (Q : VK) (u : Value) (s' : Shared) : Prop :=
  ∃ v H', s'.os = s.os ∧ AllBare s'.gens ∧ Un (frs outer) [] H H' s.heap s'.heap ∧ HOk P w H' s'.heap ∧ RelV v u ∧ Q v H'
def CR (CX : CXT) (outer : List Env) (P : Program) (w : World) (H : Hp) (s : Shared) (Q : VK) (E : XK) (r : Result) (s' : Shared) : Prop :=
  match r with
  | .ok (.ret u) => CE outer P w H s Q u s'
  | .ok _ => False
  | .error e => CX outer H s E e s'
structure FnOk (P : Program) (w : World) (K : PySem.W.Frag) (mg : Str → Option Value) (base : Heap) (CX : CXT) (k : Nat) (f : Addr) (fd : FuncData) (ps : List Str) (sp : Sp) : Prop where
  len : ∀ vs H Q E, sp vs H Q E → vs.length = ps.length
  run : ∀ (A : Around) (outer : List Env) (s : Shared) (H : Hp) (args : Args) (us : List Value) (vs : List V) (Q : VK) (E : XK), Room k A → Env0 P w K mg base A outer s H → BindsTo s fd args (ps.zip us) → Vals vs us → sp vs H Q E →
    codeAny (model P w) A (.call (.ref f) args) (CR CX outer P w H s Q E) s
theorem Env0.make {P : Program} {w : World} {K : PySem.W.Frag} {mg : Str → Option Value} {base : Heap} {A : Around} {outer : List Env} {s : Shared} {H : Hp} (e : Env0 P w K mg base A outer s H) (C : Addr) (us : List Value) (kw : List (Str × Value)) :
    Env0 P w K mg base (A.under (.builtin "type.__call__" ⟨.ref C :: us, kw⟩)) outer s H := ⟨by first | exact e.frames | (simpa [Around.under, Code.envs, Code.isFrame, pushEnvs] using e.frames), e.mod, e.bs, e.bsz, e.funs, e.frf, e.hok, e.bare⟩
section
variable {X : Cx} {pins : List (Addr × Obj)} {σ : St} {H : Hp} {s s' : Shared}
/-- from a body: what a callee wants -/
theorem Inv.env0 (I : Inv X pins σ H s) : Env0 X.prog X.w X.K X.mg X.base X.A X.stack s H :=
  ⟨I.ok.frames, I.ok.mod, I.bs, Nat.le_trans I.ok.bsz I.sz, I.stack, I.stkFree, I.hok, I.bare⟩
/-- behind a call -/
theorem Inv.after {Q : VK} {u : Value} (I : Inv X pins σ H s) (h : CE X.stack X.prog X.w H s Q u s') : EP X pins σ Q u s' := by
  obtain ⟨v, H', os, bare, un, hok, r, q⟩ := h
  obtain ⟨hh, g, d, t, os'⟩ := s'
  obtain rfl : os' = s.os := os
  exact ⟨v, H', I.call (h' := hh) (g' := g) (d' := d) (t' := t) (ch := []) un hok bare (fun b z => absurd z (by simp)), r, q⟩
end

/-! ### calls -/
/-- f(..): the written arguments, then the defaults dvs; E: what is wanted of an exception -/
def tCall (sp : Sp) (dvs : List V) (E : XK) (t : TA) : TE := fun σ H Q => t σ H fun vs H1 => sp (vs ++ dvs) H1 Q E
/-- o.m(..) of an instance of the class at C -/
def tMeth (C : Addr) (m : Str) (sp : Sp) (dvs : List V) (E : XK) (ta : TE) (t : TA) : TE := fun σ H Q => ta σ H fun x H1 => ∃ a dx fs, x = .ref a ∧ H1 a = some (.ins C dx fs) ∧ fs.lookup m = none ∧
  t σ H1 fun vs H2 => sp (x :: (vs ++ dvs)) H2 Q E
/-- C(..): a new instance and its dict, then __init__ -/
def tMake (C : Addr) (sp : Sp) (dvs : List V) (E : XK) (t : TA) : TE := fun σ H Q => t σ H fun vs H1 => ∀ x dx, H1 x = none → H1 dx = none → dx ≠ x →
  sp (.ref x :: (vs ++ dvs)) (upd (upd H1 dx (.own x)) x (.ins C dx [])) (fun v H2 => v = .non ∧ Q (.ref x) H2) E

/-- how the parameters are bound: us the positional arguments, kw the keywords' values by name, ds the defaults that fill up -/
def Binds (K : PySem.W.Frag) (fd : FuncData) (ps : List Str) (ds : List Value) : Prop :=
  ∀ (s : Shared) (us : List Value), K.In s.heap → (us ++ ds).length = ps.length → BindsTo s fd ⟨us, []⟩ (ps.zip (us ++ ds))
/-- every parameter is given -/
theorem Binds.all {K : PySem.W.Frag} {fd : FuncData} {ps : List Str} (h : ∀ us : List Value, us.length = ps.length → bindArgs fd ⟨us, []⟩ = pure (ps.zip us)) : Binds K fd ps [] := fun s us _ hl => by
  rw [List.append_nil] at hl ⊢
  exact .of_eq (h us hl)

/-- an exception of a callee reaches what this body wants of exceptions -/
def Passes (CX : CXT) (X : Cx) (E : XK) : Prop := ∀ (pins : List (Addr × Obj)) (σ : St) (H : Hp) (s : Shared) (e : Value) (s' : Shared), Inv X pins σ H s → CX X.stack H s E e s' → X.xe e s'

section
variable {X : Cx} {CX : CXT} {k : Nat} {f C : Addr} {fd : FuncData} {ps : List Str} {sp : Sp} {dvs : List V} {ds : List Value} {E : XK} {x m : Str} {p pos apos : Pos} {e o : Expr} {es : List Expr} {ta : TE} {t : TA}

/-- the callee runs -/
theorem run_fn {pins : List (Addr × Obj)} {σ : St} {H : Hp} {s : Shared} {Q : VK} {us : List Value} {vs : List V} (F : FnOk X.prog X.w X.K X.mg X.base CX k f fd ps sp) (hr : Room k X.A) (hb : Binds X.K fd ps ds) (hd : Vals dvs ds) (hx : Passes CX X E)
    (I : Inv X pins σ H s) (r : Vals vs us) (h : sp (vs ++ dvs) H Q E) : wpAny (model X.prog X.w) X.A (call (.ref f) us) (EP X pins σ Q) X.xe s := by
  have r2 : Vals (vs ++ dvs) (us ++ ds) := r.append hd
  have hl : (us ++ ds).length = ps.length := by rw [← r2.length]; exact F.len _ _ _ _ h
  refine wpAny_call (codeAny_mono (F.run X.A X.stack s H ⟨us, []⟩ (us ++ ds) (vs ++ dvs) Q E hr I.env0 (hb s us I.kIn hl) r2 h) fun r s' hq => ?_)
  cases r with
  | error e => exact hx pins σ H s e s' I hq
  | ok fl =>
    cases fl with
    | ret u => exact I.after hq
    | next => exact False.elim hq
    | brk => exact False.elim hq
    | cont => exact False.elim hq

theorem pe_call (F : FnOk X.prog X.w X.K X.mg X.base CX k f fd ps sp) (hr : Room k X.A) (hg : Gl X x) (hm : X.mg x = some (.ref f)) (hk : PySem.W.keepIn X.K (.ref f) = true) (hb : Binds X.K fd ps ds) (hd : Vals dvs ds) (hx : Passes CX X E)
    (ha : PA X (e :: es) t) (hdb : (x == ("__debug__" : Str)) = false := by decide) (he : starEach (e :: es) X.env = (false, eval e X.env) :: starEach es X.env := by rfl) (hpl : (backTo pos (starEach es X.env)).any (·.1) = false := by rfl) :
    PE X (.Call (.Name x p) (e :: es) [] pos) (tCall sp dvs E t) := by
  intro pins s σ H Q I h
  refine wpAny_Call_Name_kw (ld_glob I hg hm ?_ hdb)
  refine PySem.W.callWith_K (h₀ := X.base) I.ok.mod.kin hk (thn (ha pos pins s σ H _ I h) fun us s1 ⟨vs, H1, I1, r, q⟩ => ⟨I1.kIn, ?_⟩) he hpl
  exact run_fn F hr hb hd hx I1 r q
/-- o.m(e, ..) -/
theorem pe_meth {pl : Sem Bool} (he : PE X o ta) (c : Cls X.K C) (hm : Meth X.K C m f) (F : FnOk X.prog X.w X.K X.mg X.base CX k f fd ps sp) (hr : Room k X.A) (hb : Binds X.K fd ps ds) (hd : Vals dvs ds) (hx : Passes CX X E) (ha : PA X (e :: es) t)
    (hst : starEach (e :: es) X.env = (false, eval e X.env) :: starEach es X.env := by rfl) (hpl : (backTo pos (starEach es X.env)).any (·.1) = false := by rfl)
    (ht : eval (.Call (.Attribute o m apos) (e :: es) [] pos) X.env = (do
      let ov ← eval o X.env
      standAt apos.atName
      let (f, first) ← holding [ov] (getMethod ov m pl)
      callWith pos f first (backTo pos (starEach (e :: es) X.env)) (backToKw pos (keywordEach [] X.env))) := by rfl) :
    PE X (.Call (.Attribute o m apos) (e :: es) [] pos) (tMeth C m sp dvs E ta t) := by
  intro pins s σ H Q I h
  refine PySem.W.methodCall_KW (pl := pl) (thn (he pins s σ H _ I h) fun u s1 ⟨x, H1, I1, rx, a, dx, fs, ex, ea, l, q⟩ => ?_) ht
  subst ex
  obtain rfl : u = Value.ref a := rx
  refine getmeth_ok I1 ea c hm l ?_
  refine PySem.W.callWith_K (first := [.ref a]) (h₀ := X.base) I.ok.mod.kin hm.kp (thn (ha pos pins s1 σ H1 _ I1 q) fun us s2 ⟨vs, H2, I2, r, q2⟩ => ⟨I2.kIn, ?_⟩) hst hpl
  exact run_fn (us := .ref a :: us) (vs := .ref a :: vs) F hr hb hd hx I2 (.cons rfl r) q2
/-- o.m() -/
theorem pe_meth0 {pl : Sem Bool} (he : PE X o ta) (c : Cls X.K C) (hm : Meth X.K C m f) (F : FnOk X.prog X.w X.K X.mg X.base CX k f fd ps sp) (hr : Room k X.A) (hb : Binds X.K fd ps ds) (hd : Vals dvs ds) (hx : Passes CX X E)
    (ht : eval (.Call (.Attribute o m apos) [] [] pos) X.env = (do
      let ov ← eval o X.env
      standAt apos.atName
      let (f, first) ← holding [ov] (getMethod ov m pl)
      callWith pos f first (backTo pos (starEach [] X.env)) (backToKw pos (keywordEach [] X.env))) := by rfl) :
    PE X (.Call (.Attribute o m apos) [] [] pos) (tMeth C m sp dvs E ta tNil) := by
  intro pins s σ H Q I h
  refine PySem.W.methodCall_KW (pl := pl) (thn (he pins s σ H _ I h) fun u s1 ⟨x, H1, I1, rx, a, dx, fs, ex, ea, l, q⟩ => ?_) ht
  subst ex
  obtain rfl : u = Value.ref a := rx
  refine getmeth_ok I1 ea c hm l ?_
  exact PySem.W.callWith_K0 (first := [.ref a]) I1.kIn hm.kp (run_fn (us := [.ref a]) (vs := [.ref a]) F hr hb hd hx I1 (.cons rfl .nil) q)

/-- what a class must have to be made -/
structure Mk (K : PySem.W.Frag) (C f : Addr) : Prop where
  makes : PySem.W.makesIn K C = true
  init : PySem.W.findIn K (.ref C) "__init__" = some (some (.ref f))
  fn : PySem.W.isFn K (.ref f) = true
  kp : PySem.W.keepIn K (.ref C) = true

theorem run_make {pins : List (Addr × Obj)} {σ : St} {H : Hp} {s : Shared} {Q : VK} {us : List Value} {vs : List V} (M : Mk X.K C f) (F : FnOk X.prog X.w X.K X.mg X.base CX k f fd ps sp) (hr : Room (k + 1) X.A) (hb : Binds X.K fd ps ds) (hd : Vals dvs ds)
    (hx : Passes CX X E) (I : Inv X pins σ H s) (r : Vals vs us)
    (h : ∀ x dx, H x = none → H dx = none → dx ≠ x → sp (.ref x :: (vs ++ dvs)) (upd (upd H dx (.own x)) x (.ins C dx [])) (fun v H2 => v = .non ∧ Q (.ref x) H2) E) :
    wpAny (model X.prog X.w) X.A (call (.ref C) us) (EP X pins σ Q) X.xe s := by
  have hq := h (s.heap.objs.size + 1) s.heap.objs.size (I.hok.fresh (Nat.le_succ _)) (I.hok.fresh (Nat.le_refl _)) (Nat.ne_of_lt (Nat.lt_succ_self _))
  have I2 := Inv.made (C := C) I
  have r2 : Vals (V.ref (s.heap.objs.size + 1) :: (vs ++ dvs)) (Value.ref (s.heap.objs.size + 1) :: (us ++ ds)) := .cons rfl (r.append hd)
  have hl : (Value.ref (s.heap.objs.size + 1) :: us ++ ds).length = ps.length := by
    have e := r2.length
    rw [F.len _ _ _ _ hq] at e
    exact e.symm
  refine wpAny_call (make_map (f := f) I.kIn M.makes M.init (beq_iff_eq.mp M.fn) (codeAny_mono (F.run _ X.stack _ _ ⟨Value.ref (s.heap.objs.size + 1) :: us, []⟩ (Value.ref (s.heap.objs.size + 1) :: (us ++ ds)) _ _ E (hr.make C us [])
    (I2.env0.make C us []) (hb _ (Value.ref (s.heap.objs.size + 1) :: us) I2.kIn hl) r2 hq) fun r s' hq' => ?_))
  cases r with
  | error e => exact hx pins σ _ _ e s' I2 hq'
  | ok fl =>
    cases fl with
    | ret u =>
      obtain ⟨v, H', I3, rv, ev, q3⟩ := I2.after hq'
      subst ev
      exact ⟨rv, ⟨V.ref (s.heap.objs.size + 1), H', I3, rfl, q3⟩⟩
    | next => exact False.elim hq'
    | brk => exact False.elim hq'
    | cont => exact False.elim hq'
theorem pe_make (M : Mk X.K C f) (F : FnOk X.prog X.w X.K X.mg X.base CX k f fd ps sp) (hr : Room (k + 1) X.A) (hg : Gl X x) (hm : X.mg x = some (.ref C)) (hb : Binds X.K fd ps ds) (hd : Vals dvs ds) (hx : Passes CX X E)
    (ha : PA X (e :: es) t) (hdb : (x == ("__debug__" : Str)) = false := by decide) (he : starEach (e :: es) X.env = (false, eval e X.env) :: starEach es X.env := by rfl) (hpl : (backTo pos (starEach es X.env)).any (·.1) = false := by rfl) :
    PE X (.Call (.Name x p) (e :: es) [] pos) (tMake C sp dvs E t) := by
  intro pins s σ H Q I h
  refine wpAny_Call_Name_kw (ld_glob I hg hm ?_ hdb)
  refine PySem.W.callWith_K (h₀ := X.base) I.ok.mod.kin M.kp (thn (ha pos pins s σ H _ I h) fun us s1 ⟨vs, H1, I1, r, q⟩ => ⟨I1.kIn, ?_⟩) he hpl
  exact run_make M F hr hb hd hx I1 r q
end

/-! ### keywords -/
/-- the values of the keywords, from the left -/
def PK (X : Cx) (kws : List Keyword) (t : TA) : Prop :=
  ∀ (pos : Pos) (pins : List (Addr × Obj)) (s : Shared) (σ : St) (H : Hp) (Q : List V → Hp → Prop), Inv X pins σ H s → t σ H Q → wpAny (model X.prog X.w) X.A (evalAll ((backToKw pos (keywordEach kws X.env)).map (·.2))) (AP X pins σ Q) X.xe s
section
variable {X : Cx} {CX : CXT} {k : Nat} {f C : Addr} {fd : FuncData} {ps ks : List Str} {sp : Sp} {E : XK} {x m : Str} {p pos apos kpos : Pos} {e o : Expr} {es : List Expr} {kws : List Keyword} {te ta : TE} {t tk : TA} {nm : Option Str}
theorem pk_nil : PK X [] tNil := fun _ _ _ _ H Q I h => wpAny_evalAll_nil ⟨[], H, I, .nil, h⟩
theorem pk_cons (ha : PE X e te) (hr : PK X kws t) : PK X (⟨nm, e, kpos⟩ :: kws) (tCons te t) := by
  intro pos pins s σ H Q I h
  show wpAny _ _ (evalAll ((do let v ← eval e X.env; standAt pos; pure v) :: (backToKw pos (keywordEach kws X.env)).map (·.2))) _ _ s
  refine wpAny_evalAll_cons (wpAny_bind (thn (ha pins s σ H _ I h) fun u s1 ⟨x, H1, I1, r1, q1⟩ => wpAny_bind (wpAny_standAt (wpAny_pure ?_))))
  exact thn (hr pos pins s1 σ H1 _ I1 q1) fun us s2 ⟨xs, H2, I2, r2, q2⟩ => ⟨x :: xs, H2, I2, .cons r1 r2, q2⟩

variable {g : List Value → List Value → List Value} {gV : List V → List V → List V}
end

/-! ### a def's body keeps its promise -/
/-- names: the parameters first -/
structure FnScope (N P : List Str) (sc : Scope) : Prop where
  kind : sc.kind = .function
  co : sc.isCoroutine = false
  gen : sc.isGenerator = false
  nd : N.Nodup
  pre : N.take P.length = P
  par : ∀ x ∈ P, sc.names.lookup x = some .local ∨ sc.names.lookup x = some .cell
  nofree : ∀ y ∈ sc.names, y.2 ≠ .free

theorem bindL_out {kindOf : Str → Option NameKind} {x : Str} : ∀ {binds : List (Str × Value)} {m : Str → Option Value}, (∀ v, (x, v) ∉ binds) → bindL kindOf binds m x = m x
  | [], _, _ => rfl
  | (n, v) :: r, m, h => by
    unfold bindL
    rw [bindL_out fun w hw => h w (List.mem_cons_of_mem _ hw)]
    split
    · have : x ≠ n := by rintro rfl; exact h v List.mem_cons_self
      simp [this]
    · rfl
theorem bindC_out {kindOf : Str → Option NameKind} {x : Str} : ∀ {binds : List (Str × Value)} {m : Str → Option Value}, (∀ v, (x, v) ∉ binds) → bindC kindOf binds m x = m x
  | [], _, _ => rfl
  | (n, v) :: r, m, h => by
    unfold bindC
    rw [bindC_out fun w hw => h w (List.mem_cons_of_mem _ hw)]
    split
    · rfl
    · have : x ≠ n := by rintro rfl; exact h v List.mem_cons_self
      simp [this]
theorem bindL_get {kindOf : Str → Option NameKind} {x : Str} {v : Value} : ∀ {P : List Str} {vs : List Value} {i : Nat} {m : Str → Option Value}, P.Nodup → P[i]? = some x → vs[i]? = some v → kindOf x = some .local →
    bindL kindOf (P.zip vs) m x = some v
  | [], _, _, _, _, h, _, _ => by simp at h
  | _ :: _, [], _, _, _, _, h, _ => by simp at h
  | p :: P, w :: vs, 0, m, nd, h1, h2, hk => by
    simp at h1 h2; subst h1; subst h2
    show bindL kindOf ((p, w) :: P.zip vs) m p = _
    unfold bindL
    rw [bindL_out fun v hv => (List.nodup_cons.mp nd).1 (List.of_mem_zip hv).1, if_pos hk]
    simp
  | p :: P, w :: vs, i + 1, m, nd, h1, h2, hk => by
    show bindL kindOf ((p, w) :: P.zip vs) m x = _
    unfold bindL
    exact bindL_get (i := i) (List.nodup_cons.mp nd).2 (by simpa using h1) (by simpa using h2) hk
theorem bindC_get {kindOf : Str → Option NameKind} {x : Str} {v : Value} : ∀ {P : List Str} {vs : List Value} {i : Nat} {m : Str → Option Value}, P.Nodup → P[i]? = some x → vs[i]? = some v → kindOf x ≠ some .local →
    bindC kindOf (P.zip vs) m x = some v
  | [], _, _, _, _, h, _, _ => by simp at h
  | _ :: _, [], _, _, _, _, h, _ => by simp at h
  | p :: P, w :: vs, 0, m, nd, h1, h2, hk => by
    simp at h1 h2; subst h1; subst h2
    show bindC kindOf ((p, w) :: P.zip vs) m p = _
    unfold bindC
    rw [bindC_out fun v hv => (List.nodup_cons.mp nd).1 (List.of_mem_zip hv).1, if_neg hk]
    simp
  | p :: P, w :: vs, i + 1, m, nd, h1, h2, hk => by
    show bindC kindOf ((p, w) :: P.zip vs) m x = _
    unfold bindC
    exact bindC_get (i := i) (List.nodup_cons.mp nd).2 (by simpa using h1) (by simpa using h2) hk

/-- the names' values at the entry -/
def start (N : List Str) (vs : List V) : St := vs.map some ++ List.replicate (N.length - vs.length) none

/-- the context of a def's body, at its entry; an exception leaves the frame, then lies as CX says -/
def cxOf (CX : CXT) (P : Program) (w : World) (K : PySem.W.Frag) (mg : Str → Option Value) (base : Heap) (N : List Str) (qual : Str) (scope : Scope) (f : Addr) (cd : Value) (A : Around) (outer : List Env) (s : Shared) (H : Hp) (E : XK) : Cx where
  prog := P
  w := w
  K := K
  mg := mg
  base := base
  A := A.deeper (envOfC qual scope s.heap.objs.size f cd)
  N := N
  s₀ := s
  H₀ := H
  env := envOfC qual scope s.heap.objs.size f cd
  outer := outer
  stack := envOfC qual scope s.heap.objs.size f cd :: outer
  ex := []
  calm := true
  fn := fun _ => true
  pn := []
  xe := fun e s' => wpAny (model P w) (A.deeper (envOfC qual scope s.heap.objs.size f cd)) (leaving (envOfC qual scope s.heap.objs.size f cd) e) (fun _ s'' => CX outer H s E e s'') (fun e' s'' => CX outer H s E e' s'') s'

theorem cell_has {sc : Scope} {n : Nat} {x : Str} (h : sc.names.lookup x = some .cell) : ∃ c, (cellsFrom n sc.names []).lookup x = some c := by
  have q := PySem.W.cellsFrom_some sc.names n [] (.inl h)
  exact Option.isSome_iff_exists.mp q

theorem inv_start {CX : CXT} {P : Program} {w : World} {K : PySem.W.Frag} {mg : Str → Option Value} {base : Heap} {N ps : List Str} {qual : Str} {scope : Scope} {f : Addr} {cd : Value} {A : Around} {outer : List Env} {s s1 : Shared} {H : Hp} {E : XK} {us : List Value} {vs : List V}
    (S : FnScope N ps scope) (hd : A.handled = none) (e0 : Env0 P w K mg base A outer s H) (hl : vs.length = ps.length) (r : Vals vs us)
    (x : InCallC s s.heap.objs.size (bindL (envOfC qual scope s.heap.objs.size f cd).kindOf (ps.zip us) fun _ => none) (cellsFrom (s.heap.objs.size + 1) scope.names []) (bindC (envOfC qual scope s.heap.objs.size f cd).kindOf (ps.zip us) fun _ => none) s1) :
    Inv (cxOf CX P w K mg base N qual scope f cd A outer s H E) [] (start N vs) H s1 := by
  have hpl : ps.length ≤ N.length := by have := congrArg List.length S.pre; rw [List.length_take] at this; omega
  obtain ⟨h1, tk, rfl, hk⟩ := x.done
  have noA : ∀ b : Addr, b ∉ (cxOf CX P w K mg base N qual scope f cd A outer s H E).ex := fun b z => absurd (show b ∈ ([] : List Addr) from z) (by simp)
  refine ⟨⟨e0.mod, S.kind, rfl, rfl, Nat.le_refl _, fun y z c h1 h2 => ?_, fun y hy => ?_, fun y c _ h => ?_, fun _ => hd, Around.frames_deeper e0.frames, .inr ⟨rfl, rfl⟩, fun b z => absurd z (noA b), e0.bs, e0.bsz, fun b _ _ => noA b, fun b z => absurd z (noA b), e0.funs, e0.frf⟩,
    rfl, e0.bare, Un.kept hk, ⟨_, x.toInCall.ns, fun i y v h1 h2 h3 => ?_⟩, fun y c h => ⟨_, x.cell y c h⟩, e0.hok.fresh (Nat.le_refl _), fun y c h => ?_, fun p hp => absurd (show p ∈ ([] : List (Addr × Obj)) from hp) (by simp), e0.hok.kept hk, ?_⟩
  · exact name_of_addr x.apart (PySem.mem_of_lookup h1) (PySem.mem_of_lookup h2)
  · have hy : scope.names.lookup y = some .cell ∨ scope.names.lookup y = some .free := hy
    rcases hy with hy | hy
    · exact cell_has hy
    · exact absurd rfl (S.nofree _ (PySem.mem_of_lookup hy))
  · exact Nat.le_of_lt (x.above y c (PySem.mem_of_lookup h))
  · have hi : i < vs.length := by
      unfold start at h2
      by_cases hi : i < vs.length
      · exact hi
      · rw [List.getElem?_append_right (by simpa using hi)] at h2
        rw [List.getElem?_replicate] at h2
        split at h2 <;> cases h2
    have ha : vs[i]? = some v := by
      unfold start at h2
      rw [List.getElem?_append_left (by simpa using hi), List.getElem?_map] at h2
      cases e : vs[i]? with
      | none => rw [e] at h2; cases h2
      | some a => rw [e] at h2; cases h2; rfl
    obtain ⟨u, hu, rv⟩ := r.get ha
    have hp : ps[i]? = some y := by
      rw [← S.pre, List.getElem?_take_of_lt (by omega)]; exact h1
    have ndP : ps.Nodup := by rw [← S.pre]; exact S.nd.sublist (List.take_sublist _ _)
    refine ⟨u, rv, ?_⟩
    rcases S.par y (List.mem_of_getElem? hp) with k | k
    · exact .inl ⟨k, bindL_get ndP hp hu k⟩
    · obtain ⟨c, e⟩ := cell_has (n := s.heap.objs.size + 1) k
      refine .inr ⟨.inl k, c, e, ?_⟩
      have q := x.cell y c e
      rw [bindC_get ndP hp hu (by show scope.names.lookup y ≠ _; rw [k]; decide)] at q
      exact q
  · exact e0.hok.fresh (Nat.le_of_lt (x.above y c (PySem.mem_of_lookup h)))
  · unfold start
    show _ = N.length
    rw [List.length_append, List.length_map, List.length_replicate]
    omega

/-- THE RULE: a def (or a method) of the text, by its body. The body's reading t is chosen for each entry; it is run at the parameters' values -/
theorem fn_of {CX : CXT} {P : Program} {w : World} {K : PySem.W.Frag} {mg : Str → Option Value} {base : Heap} {k : Nat} {f : Addr} {name qual : Str} {params : Arguments} {body : List Stmt} {scope : Scope} {dV kV doc pm cdv ct oc : Value} {an od : Option Addr}
    {osl : Array (Option Value)} {N ps : List Str} {sp : Sp} (lk : K.lookup f = some ⟨oc, od, .func (PySem.W.fnOf name qual params body scope dV kV doc pm an cdv ct), osl⟩) (hcd : PySem.W.codeIn K cdv qual = true) (S : FnScope N ps scope)
    (len : ∀ vs H Q E, sp vs H Q E → vs.length = ps.length)
    (hbody : ∀ (A : Around) (outer : List Env) (s : Shared) (H : Hp) (vs : List V) (Q : VK) (E : XK), Room k (A.deeper (envOfC qual scope s.heap.objs.size f cdv)) → sp vs H Q E →
      ∃ t, PSs (cxOf CX P w K mg base N qual scope f cdv A outer s H E) body t ∧ t { nx := fun _ H' => Q .non H', rt := Q } (start N vs) H) :
    FnOk P w K mg base CX (k + 1) f (PySem.W.fnOf name qual params body scope dV kV doc pm an cdv ct) ps sp := by
  refine ⟨len, fun A outer s H args us vs Q E hr e0 hb r hsp => ?_⟩
  have hl := len _ _ _ _ hsp
  have KX : K.In s.heap := e0.mod.kin.keeps fun b o e => (e0.bs b o e).1
  have lim : s.heap.NoLimit := e0.mod.nolimit.keeps fun b o e => (e0.bs b o e).1
  have hkind : ∀ y ∈ ps.zip us, scope.names.lookup y.1 = some .local ∨ (scope.names.lookup y.1 = some .cell ∧ ((cellsFrom (s.heap.objs.size + 1) scope.names []).lookup y.1).isSome = true) := fun ⟨n, v⟩ hy => by
    rcases S.par n (List.of_mem_zip hy).1 with q | q
    · exact .inl q
    · exact .inr ⟨q, PySem.W.cellsFrom_some _ _ _ (.inl q)⟩
  refine codeAny_call_function hr.depth (KX _ _ lk) rfl S.co S.gen rfl (PySem.W.codeRec_of KX hcd) (hb _ _ _ _ ?_)
  refine wpAny_newFunctionEnv_cells S.kind hkind fun env he s1 x => ?_
  subst he
  refine ⟨lim.keeps x.toInCall.keep, codeAny_func ?_⟩
  obtain ⟨t, ht, hq⟩ := hbody A outer s H vs Q E (hr.deeper _) hsp
  have I : Inv (cxOf CX P w K mg base N qual scope f cdv A outer s H E) [] (start N vs) H s1 := inv_start S hr.hd e0 hl r x
  refine wpAny_mono (ht [] s1 (start N vs) H _ I hq) (fun fl s' hs => ?_) fun e s' hs => hs
  have fin : ∀ {σ' : St} {H' : Hp} {v : V} {u : Value}, Inv (cxOf CX P w K mg base N qual scope f cdv A outer s H E) [] σ' H' s' → RelV v u → Q v H' → CE outer P w H s Q u s' :=
    fun {σ' H' v u} J rv q => ⟨v, H', J.os, J.bare, J.base, J.hok, rv, q⟩
  cases fl with
  | ret u =>
    obtain ⟨v, σ', H', J, rv, q⟩ := hs
    exact fin J rv q
  | next =>
    obtain ⟨σ', H', J, q⟩ := hs
    exact fin (v := V.non) (u := Value.none) J rfl q
  | brk =>
    obtain ⟨_, _, _, q⟩ := hs
    exact False.elim q
  | cont =>
    obtain ⟨_, _, _, q⟩ := hs
    exact False.elim q
end L2

namespace L2
open PySem PySem.Spec PyProof.Rows
section
variable {X : Cx} {x : Str} {p pos : Pos} {e : Expr} {es : List Expr} {t : TA} {id T : String} {r : List V → Hp → VK → Prop}

def tCB (r : List V → Hp → VK → Prop) (t : TA) : TE := fun σ H Q => t σ H fun vs H1 => r vs H1 Q
/-- f(e, ..), f a built-in function -/
theorem pe_callB (hc : CallR X (.builtin id) r) (hg : Gl X x) (hm : X.mg x = none) (hv : bootBuiltins x = some (.builtin id)) (ha : PA X (e :: es) t) (hn : x ≠ "__name__" := by decide) (hdb : (x == ("__debug__" : Str)) = false := by decide)
    (he : starEach (e :: es) X.env = (false, eval e X.env) :: starEach es X.env := by rfl) (hpl : (backTo pos (starEach es X.env)).any (·.1) = false := by rfl) : PE X (.Call (.Name x p) (e :: es) [] pos) (tCB r t) := by
  intro pins s σ H Q I h
  refine wpAny_Call_Name_kw (ld_blt I hg hm hv ?_ hn hdb)
  exact PyProof.Rows.callWith_builtin1 (thn (ha pos pins s σ H _ I h) fun us s1 ⟨vs, H1, I1, r1, q1⟩ => hc pins s1 σ H1 vs us Q I1 r1 q1) he hpl
/-- T(e, ..), T a built-in type -/
theorem pe_callTy (hc : CallR X (.type T) r) (hg : Gl X x) (hm : X.mg x = none) (hv : bootBuiltins x = some (.type T)) (ha : PA X (e :: es) t) (hn : x ≠ "__name__" := by decide) (hdb : (x == ("__debug__" : Str)) = false := by decide)
    (he : starEach (e :: es) X.env = (false, eval e X.env) :: starEach es X.env := by rfl) (hpl : (backTo pos (starEach es X.env)).any (·.1) = false := by rfl) : PE X (.Call (.Name x p) (e :: es) [] pos) (tCB r t) := by
  intro pins s σ H Q I h
  refine wpAny_Call_Name_kw (ld_blt I hg hm hv ?_ hn hdb)
  exact PyProof.Rows.callWith_type1 (thn (ha pos pins s σ H _ I h) fun us s1 ⟨vs, H1, I1, r1, q1⟩ => hc pins s1 σ H1 vs us Q I1 r1 q1) he hpl
end
end L2

namespace HT
open PySem PyProof.Rows

section
open PySem.SeqAt
open PySem.AutoSeq1 (wpAny_loadPart')
open PySem.MeetsSeq PySem.MeetsSeq2 PySem.MeetsSeq3

end

section
variable {prog : Program} {w : World} {A : Around} {E : Value → Shared → Prop} {s : Shared}

/-- t + u, t not empty -/
theorem cat_tup {t b : Addr} {vs ws : List Value} {Q : Value → Shared → Prop} (ht : IsTup s.heap t vs.toArray) (hb : IsTup s.heap b ws.toArray) (hv : vs ≠ [])
    (h1 : ws = [] → Q (.ref t) s) (h2 : ws ≠ [] → Q (.ref s.heap.objs.size) { s with heap := s.heap.push { cls := .type "tuple", data := .seq (vs ++ ws).toArray } })
    (hsz : vs.length + ws.length ≤ sizeLine) : wpAny (model prog w) A (binaryOp .Add (.ref t) (.ref b)) Q E s := by
  obtain ⟨⟨cls, dd, data, sl⟩, ho, hc, n, hd⟩ := id ht
  obtain ⟨⟨cls2, dd2, data2, sl2⟩, ho2, hc2, n2, hd2⟩ := id hb
  simp only at hc hd hc2 hd2
  subst hc hd hc2 hd2
  have e : vs.toArray ++ ws.toArray = (vs ++ ws).toArray := by simp
  by_cases hw : ws = []
  · exact concat_meets ⟨_, ho, rfl⟩ ⟨_, ho2, rfl⟩ noFill_tuple_add seq_tuple_add PySem.F.slot_tuple_add PySem.F.entry_tuple_add (PySem.F.args_tuple_add_2 _ _)
      (tuple_addW1 t b vs.toArray ws.toArray n n2 dd dd2 sl sl2 (by simpa using hv) (by simp [hw])) ⟨ho, ho2, h1 hw⟩
  · refine concat_meets ⟨_, ho, rfl⟩ ⟨_, ho2, rfl⟩ noFill_tuple_add seq_tuple_add PySem.F.slot_tuple_add PySem.F.entry_tuple_add (PySem.F.args_tuple_add_2 _ _)
      (tuple_addW2 t b vs.toArray ws.toArray n n2 dd dd2 sl sl2 (by simpa using hv) (by simpa using hw) (by rw [List.size_toArray, List.size_toArray]; exact hsz)) ⟨ho, ho2, ?_⟩
    rw [e]
    exact h2 hw

/-! ### t[a:b], not the whole -/
/-- a slice's bound as a place among n (d where it is left out) -/
def sIx (n d : Nat) : Option Int → Nat
  | none => d
  | some v => if v < 0 then (v + (n : Int)).toNat else min v.toNat n
theorem sIx_nat (n d k : Nat) : sIx n d (some (k : Int)) = min k n := by
  show (if (k : Int) < 0 then ((k : Int) + (n : Int)).toNat else min (k : Int).toNat n) = min k n
  rw [if_neg (by omega), Int.toNat_natCast]
theorem sIx_le (n d : Nat) (hd : d ≤ n) (o : Option Int) : sIx n d o ≤ n := by
  cases o with
  | none => exact hd
  | some v =>
    show (if v < 0 then (v + (n : Int)).toNat else min v.toNat n) ≤ n
    by_cases hv : v < 0
    · rw [if_pos hv]; omega
    · rw [if_neg hv]; exact Nat.min_le_right _ _
theorem clip_eq (v : Int) (n d : Nat) : (if v < 0 then max (v + (n : Int)) 0 else min v (n : Int)) = ((sIx n d (some v) : Nat) : Int) := by
  show (if v < 0 then max (v + (n : Int)) 0 else min v (n : Int)) = (((if v < 0 then (v + (n : Int)).toNat else min v.toNat n) : Nat) : Int)
  by_cases hv : v < 0
  · simp only [if_pos hv]; omega
  · simp only [if_neg hv]; omega
theorem adjust_gen (lo hi : Option Int) (n : Nat) : Builtin.Slice.sliceAdjust lo hi 1 (n : Int) = (((sIx n 0 lo : Nat) : Int), ((sIx n n hi : Nat) : Int)) := by
  have h1 : ¬ ((1 : Int) < 0) := by omega
  unfold Builtin.Slice.sliceAdjust
  simp only [h1, if_false]
  refine Prod.ext ?_ ?_
  · cases lo with
    | none => rfl
    | some v => exact clip_eq v n 0
  · cases hi with
    | none => rfl
    | some v => exact clip_eq v n n
theorem places_gen (i j : Nat) : Builtin.Slice.slicePlaces (i : Int) (j : Int) 1 = j - i := by
  unfold Builtin.Slice.slicePlaces
  have h1 : (1 : Int) > 0 := by omega
  simp only [h1, if_true, Int.ediv_one]
  split <;> omega
theorem slicePart_ {v : Value} {o : Option Int} {Q : Option Int → Shared → Prop} (p : IsPart v o) (h : Q o s) : wpAny (model prog w) A (Builtin.Slice.slicePartIndex v) Q E s := by
  cases p with
  | none => exact slicePart_none h
  | int i t => exact slicePart_int h
theorem sliceApplied_gen {sl : Addr} {vl vu : Value} {lo hi : Option Int} {n : Nat} {Q : Int × Int × Nat → Shared → Prop} (hs : s.heap.IsSliceOf sl vl vu .none) (pl : IsPart vl lo) (pu : IsPart vu hi)
    (h : Q (((sIx n 0 lo : Nat) : Int), 1, sIx n n hi - sIx n 0 lo) s) : wpAny (model prog w) A (Builtin.Slice.sliceApplied (.ref sl) (pure (n : Int))) Q E s := by
  obtain ⟨os, hos, hcs, hds⟩ := id hs
  unfold Builtin.Slice.sliceApplied Builtin.Slice.sliceFields
  refine wpAny_bind (wpAny_bind (wpAny_field hos hds (x := vl) rfl (wpAny_bind (wpAny_field hos hds (x := vu) rfl (wpAny_bind (wpAny_field hos hds (x := .none) rfl (wpAny_pure ?_)))))))
  refine wpAny_bind (slicePart_none ?_)
  show wpAny _ _ (if ((1 : Int) == 0) = true then _ else _) _ _ s
  rw [if_neg (by decide)]
  refine wpAny_bind (slicePart_ pl (wpAny_bind (slicePart_ pu (wpAny_bind (wpAny_pure ?_)))))
  show wpAny _ _ (match Builtin.Slice.sliceAdjust lo hi 1 (n : Int) with | (lo, hi) => pure (lo, (1 : Int), Builtin.Slice.slicePlaces lo hi 1)) _ _ s
  rw [adjust_gen lo hi n]
  show wpAny _ _ (pure (((sIx n 0 lo : Nat) : Int), (1 : Int), Builtin.Slice.slicePlaces ((sIx n 0 lo : Nat) : Int) ((sIx n n hi : Nat) : Int) 1)) _ _ s
  rw [places_gen]
  exact wpAny_pure h
theorem pick_gen (xs : Array Value) (i k : Nat) : ((List.range k).filterMap fun (m : Nat) => xs[((i : Int) + (m : Int) * 1).toNat]?).toArray = ((xs.toList.drop i).take k).toArray := by
  have e : (fun (m : Nat) => xs[((i : Int) + (m : Int) * 1).toNat]?) = fun m => xs[i + m]? := by
    funext m
    have : ((i : Int) + (m : Int) * 1).toNat = i + m := by omega
    rw [this]
  rw [e]
  have := pick_run xs i k
  rw [List.filterMap_map] at this
  have e2 : ((fun x => xs[x]?) ∘ fun x => i + x) = fun m => xs[i + m]? := rfl
  rw [e2] at this
  rw [this]

theorem getItem_tuple_cut {t sl : Addr} {items : Array Value} {vl vu : Value} {lo hi : Option Int} {Q : Value → Shared → Prop} (ht : IsTup s.heap t items) (hs : s.heap.IsSliceOf sl vl vu .none) (pl : IsPart vl lo) (pu : IsPart vu hi)
    (hw : ¬ (sIx items.size 0 lo = 0 ∧ sIx items.size items.size hi = items.size))
    (h : Q (.ref s.heap.objs.size) { s with heap := s.heap.push { cls := .type "tuple", data := .seq ((items.toList.drop (sIx items.size 0 lo)).take (sIx items.size items.size hi - sIx items.size 0 lo)).toArray } })
    (hsz : items.size ≤ sizeLine) : wpAny (model prog w) A (getItem (.ref t) (.ref sl)) Q E s := by
  have htake : sizeOk (.seq ((items.toList.drop (sIx items.size 0 lo)).take (sIx items.size items.size hi - sIx items.size 0 lo)).toArray) := by
    show ((items.toList.drop (sIx items.size 0 lo)).take (sIx items.size items.size hi - sIx items.size 0 lo)).toArray.size ≤ sizeLine
    rw [List.size_toArray, List.length_take, List.length_drop, Array.length_toList]
    omega
  have hj : sIx items.size items.size hi ≤ items.size := sIx_le _ _ (Nat.le_refl _) hi
  obtain ⟨os, hos, hcs, hds⟩ := id hs
  have hTs : s.TypeIs (.ref sl) "slice" := ⟨os, hos, hcs⟩
  unfold getItem
  try with_reducible refine wpAny_holding ?_
  first | refine wpAny_bind (wpAny_pure ?_) | skip
  refine wpAny_bind (wpAny_sequenceKey ht.typeIs (by decide) ?_)
  refine wpAny_bind (wpAny_callSpecial?_slot (name := Str.ofString "__getitem__") ht.typeIs PyProof.Rows.slot_tuple_getitem
    (wpAny_call_entry PyProof.Rows.slot_tuple_getitem ht.typeIs entry_tuple_getitem ?_ (args_tuple_getitem _ _)))
  show wpAny _ _ (Builtin.Tuple.tupleItemsOf (.ref t) >>= _) _ _ s
  refine wpAny_bind (tupleItemsOf_ ht ?_)
  refine wpAny_bind (wpAny_typeOf hTs ?_)
  rw [if_pos (by decide)]
  refine wpAny_bind (sliceApplied_gen hs pl pu ?_)
  have hno : ¬ ((((sIx items.size 0 lo : Nat) : Int) == 0 && (1 : Int) == 1 && (sIx items.size items.size hi - sIx items.size 0 lo) == items.size) = true) := by
    intro q
    rw [Bool.and_eq_true, Bool.and_eq_true] at q
    have q1 : ((sIx items.size 0 lo : Nat) : Int) = 0 := eq_of_beq q.1.1
    have q2 : sIx items.size items.size hi - sIx items.size 0 lo = items.size := eq_of_beq q.2
    exact hw ⟨by omega, by omega⟩
  show wpAny _ _ (if (((sIx items.size 0 lo : Nat) : Int) == 0 && (1 : Int) == 1 && (sIx items.size items.size hi - sIx items.size 0 lo) == items.size) = true then _ else _) _ _ s
  rw [if_neg hno, pick_gen]
  first
    | exact wpAny_bind (m := Builtin.Tuple.tupleExact _) (wpAny_newObj_type (wpAny_pure ⟨_, rfl, wpAny_pure h⟩) htake)
    | exact wpAny_bind (m := Builtin.Tuple.tupleExact _) (wpAny_newObj_type (wpAny_bind (wpAny_pure (wpAny_pure ⟨_, rfl, wpAny_pure h⟩))) htake)
    | exact wpAny_bind (wpAny_bind (m := Builtin.Tuple.tupleExact _) (wpAny_newObj_type (wpAny_pure (wpAny_pure ⟨_, rfl, wpAny_pure h⟩)) htake))
    | exact wpAny_bind (wpAny_bind (m := Builtin.Tuple.tupleExact _) (wpAny_newObj_type (wpAny_pure ⟨_, rfl, wpAny_pure h⟩) htake))
end
end HT

namespace L2
open PySem PySem.Spec PyProof.Rows

/-! ### the parts of a slice -/
abbrev TO := St → Hp → (Option Int → Hp → Prop) → Prop
/-- a slice's part (left out, or an int) -/
def PO (X : Cx) (e : Option Expr) (t : TO) : Prop :=
  ∀ (pins : List (Addr × Obj)) (s : Shared) (σ : St) (H : Hp) (Q : Option Int → Hp → Prop), Inv X pins σ H s → t σ H Q →
    wpAny (model X.prog X.w) X.A (evalPart e X.env) (fun u s' => ∃ o H', Inv X pins σ H' s' ∧ IsPart u o ∧ Q o H') X.xe s
def tNoPart : TO := fun _ H Q => Q none H
def tPart (t : TE) : TO := fun σ H Q => t σ H fun x H1 => ∃ i, x = .int i ∧ Q (some i) H1

theorem intsAre_of {ns : List Int} : ∀ {us : List Value}, Vals (ns.map V.int) us → IntsAre us ns := by
  induction ns with
  | nil => intro us r; rw [List.map_nil] at r; cases r; exact .nil
  | cons n ns ih =>
    intro us r
    rw [List.map_cons] at r
    cases r with
    | cons r1 r2 =>
      obtain ⟨t, e⟩ := r1
      subst e
      exact .cons n t (ih r2)

section
variable {X : Cx} {e : Expr} {te : TE} {lo hi : Option Expr} {tl th : TO} {pos p2 : Pos}

theorem po_none : PO X none tNoPart := by
  intro pins s σ H Q I h
  rw [evalPart_none]
  exact wpAny_pure ⟨none, H, I, .none, h⟩
theorem po_some (h : PE X e te) : PO X (some e) (tPart te) := by
  intro pins s σ H Q I hw
  rw [evalPart_some]
  refine thn (h pins s σ H _ I hw) fun u s1 ⟨x, H1, I1, r1, q1⟩ => ?_
  obtain ⟨i, rfl, q⟩ := q1
  obtain ⟨t, rfl⟩ := r1
  exact ⟨some i, H1, I1, .int i t, q⟩

/-- what a slice of a value is, by values: the slice object stands at sl -/
def SlR (X : Cx) (r : V → Option Int → Option Int → Hp → VK → Prop) : Prop :=
  ∀ (pins : List (Addr × Obj)) (s : Shared) (σ : St) (H : Hp) (x : V) (v vl vu : Value) (lo hi : Option Int) (sl : Addr) (Q : VK), Inv X pins σ H s → RelV x v → s.heap.IsSliceOf sl vl vu .none → IsPart vl lo → IsPart vu hi → r x lo hi H Q →
    ∃ T id, typeLookup (.type T) "__getitem__" = pure (some (.builtin id)) ∧ s.TypeIs v T ∧ wpAny (model X.prog X.w) X.A (getItem v (.ref sl)) (EP X pins σ Q) X.xe s
def tSl (r : V → Option Int → Option Int → Hp → VK → Prop) (te : TE) (tl th : TO) : TE := fun σ H Q => te σ H fun x H1 => tl σ H1 fun l H2 => th σ H2 fun u H3 => r x l u H3 Q
/-- a[lo:hi], any a -/
theorem pe_slice {r : V → Option Int → Option Int → Hp → VK → Prop} (hr : SlR X r) (he : PE X e te) (hl : PO X lo tl) (hu : PO X hi th) : PE X (.Subscript e (.Slice lo hi none p2) pos) (tSl r te tl th) := by
  intro pins s σ H Q I h
  refine Subscript_ (thn (he pins s σ H _ I h) fun v s1 ⟨x, H1, I1, r1, q1⟩ => ?_)
  refine wpAny_Slice (thn (hl pins s1 σ H1 _ I1 q1) fun vl s2 ⟨l, H2, I2, pl, q2⟩ => thn (hu pins s2 σ H2 _ I2 q2) fun vu s3 ⟨u, H3, I3, pu, q3⟩ => ?_)
  rw [evalPart_none]
  refine wpAny_pure ?_
  have I4 : Inv X pins σ H3 { s3 with heap := s3.heap.push { cls := .type "slice", data := .fields #[vl, vu, .none] } } := I3.kept (t' := s3.toks) fun b ob q => Heap.get?_push_of_some _ q
  obtain ⟨T, id, hT, ht, hg⟩ := hr pins { s3 with heap := s3.heap.push { cls := .type "slice", data := .fields #[vl, vu, .none] } } σ H3 x v vl vu l u s3.heap.objs.size Q I4 r1 (Heap.IsSliceOf.new ..) pl pu q3
  show wpAny (model X.prog X.w) X.A (subscriptTail e (.Slice lo hi none p2) v (.ref s3.heap.objs.size)) (EP X pins σ Q) X.xe { s3 with heap := s3.heap.push { cls := .type "slice", data := .fields #[vl, vu, .none] } }
  exact tail_any (ops := [.ref s3.heap.objs.size, v]) ht hT hg (by with_unfolding_all rfl)

/-- the items of xs[lo:hi] -/
def cutV (xs : List V) (lo hi : Option Int) : List V := (xs.drop (HT.sIx xs.length 0 lo)).take (HT.sIx xs.length xs.length hi - HT.sIx xs.length 0 lo)
theorem cutV_length (xs : List V) (lo hi : Option Int) : (cutV xs lo hi).length ≤ xs.length := by
  unfold cutV
  rw [List.length_take, List.length_drop]
  omega
/-- t[lo:hi], not the whole of it (the whole would be t itself) -/
def rSlT (K : PySem.W.Frag) : V → Option Int → Option Int → Hp → VK → Prop := fun x lo hi H Q => ∃ a xs, x = .ref a ∧ SqT K H a xs ∧
  ¬ (HT.sIx xs.length 0 lo = 0 ∧ HT.sIx xs.length xs.length hi = xs.length) ∧ ∀ p, H p = none → Q (.ref p) (upd H p (.tup (cutV xs lo hi)))
theorem sl_tup : SlR X (rSlT X.K) := by
  intro pins s σ H x v vl vu lo hi sl Q I rx hs pl pu h
  obtain ⟨a, xs, rfl, hx, hw, q⟩ := h
  cases rx
  obtain ⟨its, r, ht, hz⟩ := I.tuple hx
  have hlen : its.toArray.size = xs.length := by rw [List.size_toArray]; exact r.length.symm
  refine ⟨"tuple", _, PyProof.Rows.slot_tuple_getitem.lookup, ht.typeIs, ?_⟩
  refine HT.getItem_tuple_cut ht hs pl pu (by rw [hlen]; exact hw) ?_ (by rw [hlen]; exact hz)
  rw [hlen]
  refine ⟨.ref s.heap.objs.size, _, I.laid (t' := s.toks) (o := .tup (cutV xs lo hi)) (fun b ob q => Heap.get?_push_of_some _ q) (Nat.le_refl _) ?_, rfl, q _ (I.hok.fresh (Nat.le_refl _))⟩
  exact ⟨Nat.le_trans (cutV_length xs lo hi) hz, _, (r.drop (HT.sIx xs.length 0 lo)).take (HT.sIx xs.length xs.length hi - HT.sIx xs.length 0 lo), IsTup.new _ _⟩

/-! ### t < u, t + u -/
/-- t + u, t not empty: u empty gives t itself -/
def rCatT (K : PySem.W.Frag) : R2 := fun x y H Q => ∃ a b xs ys, x = .ref a ∧ y = .ref b ∧ SqT K H a xs ∧ SqT K H b ys ∧ xs ≠ [] ∧ xs.length + ys.length ≤ sizeLine ∧
  (ys = [] → Q (.ref a) H) ∧ (ys ≠ [] → ∀ p, H p = none → Q (.ref p) (upd H p (.tup (xs ++ ys))))
theorem Vals.nil_iff {xs : List V} {us : List Value} (r : Vals xs us) : us = [] ↔ xs = [] := by
  cases r with
  | nil => simp
  | cons _ _ => simp
theorem op_catT : OpR X (binaryOp .Add) (rCatT X.K) := by
  intro pins s σ H x y v u Q I rx ry h
  obtain ⟨a, b, xs, ys, rfl, rfl, ha, hb, hx, hz, q1, q2⟩ := h
  cases rx
  cases ry
  obtain ⟨its, r1, p1, _⟩ := I.tuple ha
  obtain ⟨its2, r2, p2, _⟩ := I.tuple hb
  refine HT.cat_tup p1 p2 (fun z => hx (r1.nil_iff.mp z)) (fun z => ⟨.ref a, H, I, rfl, q1 (r2.nil_iff.mp z)⟩) (fun z => ?_) (by rw [← r1.length, ← r2.length]; exact hz)
  refine ⟨.ref s.heap.objs.size, _, I.laid (t' := s.toks) (o := .tup (xs ++ ys)) (fun b ob q => Heap.get?_push_of_some _ q) (Nat.le_refl _) ?_, rfl, q2 (fun w => z (r2.nil_iff.mpr w)) _ (I.hok.fresh (Nat.le_refl _))⟩
  exact ⟨by rw [List.length_append]; exact hz, _, r1.append r2, IsTup.new _ _⟩
end
end L2

namespace L2
open PySem PySem.Spec PyProof.Rows

/-! ### places -/
/-- the place that an index of any sign means -/
def ixN (n : Nat) (i : Int) : Option Nat := if 0 ≤ i then (if i < n then some i.toNat else none) else if -(n : Int) ≤ i then some (i + n).toNat else none
def atI {α : Type} (xs : List α) (i : Int) : Option α := (ixN xs.length i).bind fun j => xs[j]?
theorem ixN_seq {n : Nat} {i : Int} {j : Nat} (h : ixN n i = some j) : seqIndex? i n = some j ∧ j < n ∧ -(n : Int) ≤ i ∧ i < n := by
  unfold ixN at h
  by_cases h0 : 0 ≤ i
  · rw [if_pos h0] at h
    by_cases h1 : i < n
    · rw [if_pos h1] at h
      have e : i.toNat = j := Option.some.inj h
      exact ⟨by rw [seqIndex_of h0 h1, e], by omega, by omega, h1⟩
    · rw [if_neg h1] at h; cases h
  · rw [if_neg h0] at h
    by_cases h1 : -(n : Int) ≤ i
    · rw [if_pos h1] at h
      have e : (i + n).toNat = j := Option.some.inj h
      exact ⟨by rw [seqIndex_neg (by omega) h1, e], by omega, h1, by omega⟩
    · rw [if_neg h1] at h; cases h
theorem atI_get {α : Type} {xs : List α} {i : Int} {v : α} (h : atI xs i = some v) : ∃ j, seqIndex? i xs.length = some j ∧ xs[j]? = some v ∧ j < xs.length ∧ -(xs.length : Int) ≤ i ∧ i < xs.length := by
  unfold atI at h
  cases e : ixN xs.length i with
  | none => rw [e] at h; cases h
  | some j =>
    rw [e] at h
    obtain ⟨h1, h2, h3, h4⟩ := ixN_seq e
    exact ⟨j, h1, h, h2, h3, h4⟩
theorem atI_nat {α : Type} {xs : List α} {j : Nat} {v : α} (h : xs[j]? = some v) : atI xs (j : Int) = some v := by
  have hj : j < xs.length := (List.getElem?_eq_some_iff.mp h).1
  have e : ixN xs.length (j : Int) = some j := by
    unfold ixN
    rw [if_pos (by omega), if_pos (by omega)]; simp
  unfold atI; rw [e]; exact h
theorem atI_last {α : Type} (xs : List α) (v : α) : atI (xs ++ [v]) (-1) = some v := by
  have hl : (xs ++ [v]).length = xs.length + 1 := by simp
  have e : ixN (xs ++ [v]).length (-1) = some xs.length := by
    unfold ixN
    rw [hl, if_neg (by decide), if_pos (by omega)]
    congr 1
    omega
  unfold atI
  rw [e]
  show (xs ++ [v])[xs.length]? = some v
  simp

/-! ### what may be subscripted -/
/-- what stands as an index of a plain subscript -/
def PlainIx (b : Expr) : Prop := ∀ o i, subscripted b false o i = operate [o, i] (getItem o i)
/-- a subscript by values -/
def IxR (X : Cx) (r : R2) : Prop :=
  ∀ (value slice : Expr) (pins : List (Addr × Obj)) (s : Shared) (σ : St) (H : Hp) (x y : V) (v u : Value) (Q : VK), Inv X pins σ H s → RelV x v → RelV y u → r x y H Q →
    subscripted slice false v u = operate [v, u] (getItem v u) → wpAny (model X.prog X.w) X.A (subscriptTail value slice v u) (EP X pins σ Q) X.xe s
/-- a call of a builtin's method by values: the receiver, the arguments -/
def MtR (X : Cx) (id : String) (r : V → List V → Hp → VK → Prop) : Prop :=
  ∀ (pins : List (Addr × Obj)) (s : Shared) (σ : St) (H : Hp) (x : V) (xs : List V) (v : Value) (us : List Value) (Q : VK), Inv X pins σ H s → RelV x v → Vals xs us → r x xs H Q →
    wpAny (model X.prog X.w) X.A (call (.builtin id) (v :: us)) (EP X pins σ Q) X.xe s
section
variable {X : Cx} {a b : Expr} {ta tb : TE} {pos : Pos}
/-- a[b] -/
theorem pe_ix {r : R2} (hr : IxR X r) (ha : PE X a ta) (hb : PE X b tb) (hs : PlainIx b) : PE X (.Subscript a b pos) (tOp r ta tb) := by
  intro pins s σ H Q I h
  exact Subscript_ (binT ha hb I h fun v u s2 x y H2 I2 rx ry q => hr a b pins s2 σ H2 x y v u Q I2 rx ry q (hs _ _))

def rIxL (K : PySem.W.Frag) : R2 := fun x y H Q => ∃ p xs i v, x = .ref p ∧ y = .int i ∧ SqL K H p xs ∧ atI xs i = some v ∧ Q v H
def rIxT (K : PySem.W.Frag) : R2 := fun x y H Q => ∃ p xs i v, x = .ref p ∧ y = .int i ∧ SqT K H p xs ∧ atI xs i = some v ∧ Q v H
theorem ix_list : IxR X (rIxL X.K) := by
  intro value slice pins s σ H x y v u Q I rx ry h hs
  obtain ⟨p, xs, i, z, rfl, rfl, hq, he, q⟩ := h
  cases rx
  obtain ⟨t, rfl⟩ := ry
  obtain ⟨its, r, pl, hz⟩ := I.list hq
  obtain ⟨j, h1, h2, h3, h4, h5⟩ := atI_get he
  obtain ⟨w, ew, rw'⟩ := r.get h2
  have hl := r.length
  have hn := line63
  have fin : EP X pins σ Q w s := ⟨z, H, I, rw', q⟩
  by_cases h0 : 0 ≤ i
  · have hj : i.toNat = j := by
      rw [seqIndex_of h0 h5] at h1
      exact Option.some.inj h1
    exact item_listR pl.isList h0 (by omega) (by rw [hj]; simpa using ew) fin hs
  · have hj : (i + (its.toArray.size : Int)).toNat = j := by
      rw [seqIndex_neg (by omega) h4] at h1
      rw [List.size_toArray, ← hl]
      exact Option.some.inj h1
    exact subscriptTail_builtinR (x := w) pl.isList.typeIs slot_list_getitem.lookup
      (wpAny_getItem_list_neg (Q := fun r s' => r = w ∧ EP X pins σ Q r s') pl.isList (by omega) (by rw [List.size_toArray] <;> omega) (by omega) (by rw [hj]; simpa using ew) ⟨rfl, fin⟩) hs
theorem ix_tup : IxR X (rIxT X.K) := by
  intro value slice pins s σ H x y v u Q I rx ry h hs
  obtain ⟨p, xs, i, z, rfl, rfl, hq, he, q⟩ := h
  cases rx
  obtain ⟨t, rfl⟩ := ry
  obtain ⟨its, r, pl, hz⟩ := I.tuple hq
  obtain ⟨j, h1, h2, h3, h4, h5⟩ := atI_get he
  obtain ⟨w, ew, rw'⟩ := r.get h2
  have hl := r.length
  have hn := line63
  have fin : EP X pins σ Q w s := ⟨z, H, I, rw', q⟩
  exact subscriptTail_builtinR (x := w) pl.typeIs slot_tuple_getitem.lookup
    (getItem_tuple (j := j) (Q := fun r s' => r = w ∧ EP X pins σ Q r s') pl (by omega) (by omega) (by rw [List.size_toArray, ← hl]; exact h1) (by simpa using ew) ⟨rfl, fin⟩) hs
/-! ### xs[i] = v, any sign -/
/-- the list's object behind a store -/
theorem mapSeq_set (its : List Value) (n j : Nat) (u : Value) : Obj.mapSeq (·.setIfInBounds j u) { cls := .type "list", data := .seq its.toArray n } = { cls := .type "list", data := .seq (its.set j u).toArray n } := by
  simp [Obj.mapSeq]
theorem Inv.lst {pins : List (Addr × Obj)} {σ : St} {H : Hp} {s : Shared} {p : Addr} {xs : List V} (I : Inv X pins σ H s) (h : H p = some (.lst xs)) :
    ∃ (its : List Value) (n : Nat), Vals xs its ∧ s.heap.get? p = some { cls := .type "list", data := .seq its.toArray n } ∧ xs.length ≤ sizeLine := by
  obtain ⟨z, its, n, r, e⟩ := I.hok p _ h
  exact ⟨its, n, r, e, z⟩
/-- the list at p is written by an update of its object -/
theorem Inv.lstUpd {pins : List (Addr × Obj)} {σ : St} {H : Hp} {s : Shared} {p : Addr} {xs ys : List V} {its its' : List Value} {n n' : Nat} {f : Obj → Obj} (I : Inv X pins σ H s) (h : H p = some (.lst xs))
    (ho : s.heap.get? p = some { cls := .type "list", data := .seq its.toArray n }) (hf : f { cls := .type "list", data := .seq its.toArray n } = { cls := .type "list", data := .seq its'.toArray n' }) (r : Vals ys its') (hz : ys.length ≤ sizeLine) (t : Nat) :
    Inv X pins σ (upd H p (.lst ys)) { s with heap := s.heap.update p f, toks := t } := by
  have e : (s.heap.update p f).get? p = some { cls := .type "list", data := .seq its'.toArray n' } := by
    rw [Heap.get?_update_self f ho (by rw [hf] <;> rfl), hf]
  refine I.write (x := p) (e := p) (by rw [h]; trivial) (.inl rfl) (fun b u hb q => (Heap.get?_update_other _ _ (Ne.symm hb)).trans q) ⟨_, e⟩ ?_
  exact ⟨hz, its', n', r, e⟩
def rSetL : V → V → V → Hp → (Hp → Prop) → Prop := fun o i v H Q => ∃ p xs k j, o = .ref p ∧ i = .int k ∧ H p = some (.lst xs) ∧ ixN xs.length k = some j ∧ Q (upd H p (.lst (xs.set j v)))
theorem set_list : PSet X rSetL := by
  intro pins s σ H o i v ov iv u Q I ro ri rv h
  obtain ⟨p, xs, k, j, rfl, rfl, hp, hj, q⟩ := h
  cases ro
  obtain ⟨t, rfl⟩ := ri
  obtain ⟨its, n, r, ho, hz⟩ := I.lst hp
  obtain ⟨h1, h2, h3, h4⟩ := ixN_seq hj
  have hl := r.length
  have hn := line63
  have I' : Inv X pins σ (upd H p (.lst (xs.set j v))) { s with heap := s.heap.update p (Obj.mapSeq (·.setIfInBounds j u)) } :=
    I.lstUpd hp ho (mapSeq_set its n j u) (r.set rv j) (by rw [List.length_set]; exact hz) s.toks
  by_cases h0 : 0 ≤ k
  · have hk : k.toNat = j := by
      rw [seqIndex_of h0 h4] at h1
      exact Option.some.inj h1
    exact PySem.W.ki_setAt ho h0 (by omega) (by rw [List.size_toArray, ← hl]; exact h4) (by rw [hk]; exact ⟨_, I', q⟩)
  · have hk : (k + (its.toArray.size : Int)).toNat = j := by
      rw [seqIndex_neg (by omega) h3] at h1
      rw [List.size_toArray, ← hl]
      exact Option.some.inj h1
    exact PySem.W.ki_setBack ho (by omega) (by rw [List.size_toArray, ← hl]; exact h3) (by omega) (by rw [hk]; exact ⟨_, I', q⟩)

/-! ### slices -/
theorem slice_bounds (lo hi : Option Int) (n : Nat) : (sliceBounds lo hi none n).1 = ((HT.sIx n 0 lo : Nat) : Int) ∧ (sliceBounds lo hi none n).2.1 = ((HT.sIx n n hi : Nat) : Int) ∧ (sliceBounds lo hi none n).2.2 = 1 := by
  refine ⟨?_, ?_, rfl⟩
  · cases lo with
    | none => simp [sliceBounds, HT.sIx]
    | some i =>
      simp only [sliceBounds, HT.sIx, Option.getD_none, show (1 : Int) > 0 by decide, if_true]
      by_cases h : i < 0
      · simp only [h, if_true] <;> omega
      · simp only [h, if_false] <;> omega
  · cases hi with
    | none => simp [sliceBounds, HT.sIx]
    | some i =>
      simp only [sliceBounds, HT.sIx, Option.getD_none, show (1 : Int) > 0 by decide, if_true]
      by_cases h : i < 0
      · simp only [h, if_true] <;> omega
      · simp only [h, if_false] <;> omega
theorem slicePick_cut (its : List Value) (lo hi : Option Int) : slicePick its.toArray lo hi none = ((its.drop (HT.sIx its.length 0 lo)).take (HT.sIx its.length its.length hi - HT.sIx its.length 0 lo)).toArray := by
  obtain ⟨h1, h2, h3⟩ := slice_bounds lo hi its.toArray.size
  unfold slicePick
  rw [h1, h2, h3]
  simp only [sliceRange_one, pick_run, List.size_toArray] <;> rfl
/-- xs[lo:hi] of a list: a new list -/
def rSlL (K : PySem.W.Frag) : V → Option Int → Option Int → Hp → VK → Prop := fun x lo hi H Q => ∃ a xs, x = .ref a ∧ SqL K H a xs ∧ ∀ p, H p = none → Q (.ref p) (upd H p (.lst (cutV xs lo hi)))
theorem sl_list : SlR X (rSlL X.K) := by
  intro pins s σ H x v vl vu lo hi sl Q I rx hs pl pu h
  obtain ⟨a, xs, rfl, hx, q⟩ := h
  cases rx
  obtain ⟨its, r, ht, hz⟩ := I.list hx
  have hlen := r.length
  refine ⟨"list", _, slot_list_getitem.lookup, ht.isList.typeIs, ?_⟩
  refine wpAny_getItem_list_slice ht.isList hs pl pu .none (by simp) ?_ (by rw [List.size_toArray] <;> omega)
  rw [slicePick_cut, ← hlen]
  refine ⟨.ref s.heap.objs.size, _, I.laid (t' := s.toks) (o := .lst (cutV xs lo hi)) (fun b ob q => Heap.get?_push_of_some _ q) (Nat.le_refl _) ?_, rfl, q _ (I.hok.fresh (Nat.le_refl _))⟩
  exact ⟨Nat.le_trans (cutV_length xs lo hi) hz, _, 0, (r.drop (HT.sIx xs.length 0 lo)).take (HT.sIx xs.length xs.length hi - HT.sIx xs.length 0 lo), Heap.get?_push_size _ rfl⟩

/-! ### in, not in: flat items -/
/-! ### len, list(x), tuple(x) of any list or tuple that is read -/
theorem call_len_seq : CallR X (.builtin "len") (fun xs H Q => ∃ p ys, xs = [.ref p] ∧ (SqL X.K H p ys ∨ SqT X.K H p ys) ∧ Q (.int ys.length) H) := by
  intro pins s σ H xs us Q I r h
  obtain ⟨p, ys, rfl, hq, q⟩ := h
  obtain ⟨u, rfl, rx⟩ := vals1 r
  cases rx
  have hn := line63
  rcases hq with hq | hq
  · obtain ⟨its, r', pl, hz⟩ := I.list hq
    have hlen := r'.length
    exact Calls.call_len_list pl.isList (by simp only [List.size_toArray] <;> omega) ⟨.int ys.length, H, I.tok _, ⟨s.toks + 1, by rw [List.size_toArray, hlen]⟩, q⟩
  · obtain ⟨its, r', pl, hz⟩ := I.tuple hq
    have hlen := r'.length
    exact len_tuple pl (by simp only [List.size_toArray] <;> omega) ⟨.int ys.length, H, I.tok _, ⟨s.toks + 1, by rw [List.size_toArray, hlen]⟩, q⟩
theorem call_list_of : CallR X (.type "list") (fun xs H Q => ∃ p ys, xs = [.ref p] ∧ (SqL X.K H p ys ∨ SqT X.K H p ys) ∧ ∀ l, H l = none → Q (.ref l) (upd H l (.lst ys))) := by
  intro pins s σ H xs us Q I r h
  obtain ⟨p, ys, rfl, hq, q⟩ := h
  obtain ⟨u, rfl, rx⟩ := vals1 r
  cases rx
  have fin : ∀ (its : List Value), Vals ys its → ys.length ≤ sizeLine → ∀ (h' : Heap) (c' : Nat), (∀ b o', s.heap.get? b = some o' → h'.get? b = some o') →
      h'.get? s.heap.objs.size = some { cls := .type "list", dict := none, data := .seq its.toArray c', slots := #[] } → EP X pins σ Q (.ref s.heap.objs.size) { s with heap := h' } := fun its r' hz h' c' kp e =>
    ⟨.ref s.heap.objs.size, _, I.laid (t' := s.toks) kp (Nat.le_refl _) (show ObjOk X.prog X.w _ h' _ (.lst ys) from ⟨hz, its, c', r', e⟩), rfl, q _ (I.hok.fresh (Nat.le_refl _))⟩
  rcases hq with hq | hq
  · obtain ⟨its, r', pl, hz⟩ := I.list hq
    have hlen := r'.length
    obtain ⟨o, ho, hc, n, hd⟩ := pl.isList
    exact call_list_seq p (.inl rfl) ho hc hd (fun h' c' kp e => fin its r' hz h' c' kp e) (by simp only [List.size_toArray] <;> omega)
  · obtain ⟨its, r', pl, hz⟩ := I.tuple hq
    have hlen := r'.length
    obtain ⟨o, ho, hc, n, hd⟩ := pl
    exact call_list_seq p (.inr rfl) ho hc hd (fun h' c' kp e => fin its r' hz h' c' kp e) (by simp only [List.size_toArray] <;> omega)
theorem call_tuple_of : CallR X (.type "tuple") (fun xs H Q => ∃ p ys, xs = [.ref p] ∧ ((SqL X.K H p ys ∧ ∀ l, H l = none → Q (.ref l) (upd H l (.tup ys))) ∨ (SqT X.K H p ys ∧ Q (.ref p) H))) := by
  intro pins s σ H xs us Q I r h
  obtain ⟨p, ys, rfl, h⟩ := h
  obtain ⟨u, rfl, rx⟩ := vals1 r
  cases rx
  rcases h with ⟨hq, q⟩ | ⟨hq, q⟩
  · obtain ⟨its, r', pl, hz⟩ := I.list hq
    have hlen := r'.length
    refine call_tuple_list pl.isList (fun h' kp => ?_) (by simp only [List.size_toArray] <;> omega)
    have I1 : Inv X pins σ H { s with heap := h' } := I.kept (t' := s.toks) kp
    have I2 : Inv X pins σ (upd H h'.objs.size (.tup ys)) { s with heap := h'.push { cls := .type "tuple", data := .seq its.toArray } } :=
      I1.laid (t' := s.toks) (fun b o e => Heap.get?_push_of_some _ e) (Nat.le_refl _) (show ObjOk X.prog X.w _ _ _ (.tup ys) from ⟨hz, its, r', IsTup.new _ _⟩)
    exact ⟨.ref h'.objs.size, _, I2, rfl, q _ (I1.hok.fresh (Nat.le_refl _))⟩
  · obtain ⟨its, r', pl, hz⟩ := I.tuple hq
    exact call_tuple_same pl ⟨.ref p, H, I, rfl, q⟩

/-! ### the call of a builtin's method: o.m(..) -/
/-- the value is of that builtin type -/
def tyV (K : PySem.W.Frag) (T : String) (x : V) (H : Hp) : Prop := match x with
  | .str _ => T = "str"
  | .int _ => T = "int"
  | .ref p => (T = "list" ∧ ∃ xs, SqL K H p xs) ∨ (T = "tuple" ∧ ∃ o, K.lookup p = some o ∧ o.cls = .type "tuple" ∧ o.dict = none) ∨
      (T = "dict" ∧ ((∃ kvs, H p = some (.dK kvs)) ∨ ∃ kvs, H p = some (.dT kvs))) ∨ (T = "set" ∧ ∃ S n, H p = some (.set S n))
  | _ => False
theorem tyV_is {pins : List (Addr × Obj)} {σ : St} {H : Hp} {s : Shared} {T : String} {x : V} {v : Value} (I : Inv X pins σ H s) (r : RelV x v) (ty : tyV X.K T x H) :
    s.TypeIs v T ∧ ∀ a, v = .ref a → ∃ ob, s.heap.get? a = some ob ∧ ob.dict = none := by
  cases x with
  | str z =>
    obtain ⟨t, rfl⟩ := r
    cases (show T = "str" from ty)
    exact ⟨typeIs_str s z t, fun _ e => nomatch e⟩
  | int i =>
    obtain ⟨t, rfl⟩ := r
    cases (show T = "int" from ty)
    exact ⟨typeIs_int s i t, fun _ e => nomatch e⟩
  | ref p =>
    cases r
    rcases ty with ⟨rfl, xs, hq⟩ | ⟨rfl, o, hk, hc, hd⟩ | ⟨rfl, hk⟩ | ⟨rfl, S, n, hk⟩
    · obtain ⟨its, _, pl, _⟩ := I.list hq
      refine ⟨pl.isList.typeIs, fun a e => ?_⟩
      cases e
      obtain ⟨o, n, e, c, hd, _⟩ := pl
      exact ⟨o, e, hd⟩
    · refine ⟨⟨o, I.kIn p o hk, hc⟩, fun a e => ?_⟩
      cases e
      exact ⟨o, I.kIn _ o hk, hd⟩
    · have z : ∃ o, s.heap.get? p = some o ∧ o.ExactDict := by
        rcases hk with ⟨kvs, hk⟩ | ⟨kvs, hk⟩
        · obtain ⟨_, _, _, _, o, _, _, e, ex, _⟩ := I.hok p _ hk
          exact ⟨o, e, ex⟩
        · obtain ⟨_, _, _, _, o, _, _, e, ex, _⟩ := I.hok p _ hk
          exact ⟨o, e, ex⟩
      obtain ⟨o, e, ex⟩ := z
      refine ⟨⟨o, e, ex.1⟩, fun a e2 => ?_⟩
      cases e2
      exact ⟨o, e, ex.2.1⟩
    · obtain ⟨o, _, _, _, e, ex, _⟩ := I.hok p _ hk
      refine ⟨⟨o, e, ex.1⟩, fun a e2 => ?_⟩
      cases e2
      exact ⟨o, e, ex.2.1⟩
  | _ => exact False.elim ty
def tBM0 (K : PySem.W.Frag) (T : String) (r : V → List V → Hp → VK → Prop) (to : TE) : TE := fun σ H Q => to σ H fun x H1 => tyV K T x H1 ∧ r x [] H1 Q
def tBM (K : PySem.W.Frag) (T : String) (r : V → List V → Hp → VK → Prop) (to : TE) (t : TA) : TE := fun σ H Q => to σ H fun x H1 => tyV K T x H1 ∧ t σ H1 fun xs H2 => r x xs H2 Q
variable {o e : Expr} {es : List Expr} {to : TE} {t : TA} {name : Str} {apos cpos : Pos} {T id : String} {r : V → List V → Hp → VK → Prop}
theorem pe_bm0 (pa : PlainAttrs T) (slot : Slot T name id) (hty : typeOf (.builtin id) = pure (.type "method_descriptor")) (hm : MtR X id r) (ho : PE X o to)
    (hbase : attributeBase o name X.env (eval o X.env) = eval o X.env := by rfl) (hline : (apos.endLine == cpos.line) = true := by rfl) : PE X (.Call (.Attribute o name apos) [] [] cpos) (tBM0 X.K T r to) := by
  intro pins s σ H Q I h
  refine wpAny_Call_method0_late hbase hline (thn (ho pins s σ H _ I h) fun v s1 ⟨x, H1, I1, r1, ty, q1⟩ => ?_)
  obtain ⟨h1, h2⟩ := tyV_is I1 r1 ty
  exact ⟨T, id, pa, slot, hty, h1, h2, Calls.callWith_builtin rfl (PySem.evalArgs_none (hm pins s1 σ H1 x [] v [] Q I1 r1 .nil q1))⟩
theorem pe_bm (pa : PlainAttrs T) (slot : Slot T name id) (hty : typeOf (.builtin id) = pure (.type "method_descriptor")) (hm : MtR X id r) (ho : PE X o to) (ha : PA X (e :: es) t)
    (hbase : attributeBase o name X.env (eval o X.env) = eval o X.env := by rfl)
    (hfew : ((backTo cpos (starEach (e :: es) X.env)).all (fun x => !x.1) && (backToKw cpos (keywordEach [] X.env)).all (fun x => x.1.isSome)
      && decide ((e :: es).length + ([] : List Keyword).length + (if ([] : List Keyword).isEmpty then 0 else 1) < 30)) = true := by rfl)
    (hline : (apos.endLine == cpos.line) = true := by rfl) (hs : starEach (e :: es) X.env = (false, eval e X.env) :: starEach es X.env := by rfl) (hplain : (backTo cpos (starEach es X.env)).any (·.1) = false := by rfl) :
    PE X (.Call (.Attribute o name apos) (e :: es) [] cpos) (tBM X.K T r to t) := by
  intro pins s σ H Q I h
  refine wpAny_Call_method_late hbase hfew hline rfl (thn (ho pins s σ H _ I h) fun v s1 ⟨x, H1, I1, r1, ty, q1⟩ => ?_)
  obtain ⟨h1, h2⟩ := tyV_is I1 r1 ty
  refine ⟨T, id, pa, slot, hty, h1, h2, ?_⟩
  have hA := ha cpos pins s1 σ H1 _ I1 q1
  rw [hs] at hA ⊢
  refine Calls.callWith_builtin (by show (false || (backTo cpos (starEach es X.env)).any (·.1)) = false; rw [hplain] <;> rfl) (Calls.evalArgs_plain ?_)
  exact thn hA fun us s2 ⟨vs, H2, I2, r2, q2⟩ => hm pins s2 σ H2 x vs v us Q I2 r1 r2 q2
/- xs.append(e), list.index on a module's tuple .. are MtR facts of 06m -/
end
end L2

namespace L2
open PySem PySem.Spec PyProof.Rows

def MtM (X : Cx) (id : String) (r : V → List V → Hp → VK → Prop) : Prop :=
  ∀ (pins : List (Addr × Obj)) (s : Shared) (σ : St) (H : Hp) (x : V) (xs : List V) (v : Value) (us : List Value) (Q : VK), Inv X pins σ H s → RelV x v → Vals xs us → r x xs H Q →
    wpAny (model X.prog X.w) X.A (call (.builtin id) (v :: us)) (EP X pins σ Q) X.xe s

/-! ### lists of values -/
theorem Vals.one : ∀ {x : V} {us : List Value}, Vals [x] us → ∃ u, us = [u] ∧ RelV x u
  | _, _, .cons r .nil => ⟨_, rfl, r⟩
theorem Vals.zero : ∀ {us : List Value}, Vals [] us → us = []
  | _, .nil => rfl
theorem Vals.dropLast {xs : List V} {us : List Value} (h : Vals xs us) : Vals xs.dropLast us.dropLast := by
  induction h with
  | nil => exact .nil
  | cons r t ih =>
    cases t with
    | nil => exact .nil
    | cons q t' => exact .cons r ih
theorem erase_last {α : Type} (l : List α) : l.eraseIdx (l.length - 1) = l.dropLast := by
  induction l with
  | nil => rfl
  | cons a r ih =>
    cases r with
    | nil => rfl
    | cons b r =>
      have e : (a :: b :: r).length - 1 = ((b :: r).length - 1) + 1 := by
        have h1 : (a :: b :: r).length = r.length + 2 := rfl
        have h2 : (b :: r).length = r.length + 1 := rfl
        omega
      rw [e, List.eraseIdx_cons_succ, ih]
      all_goals rfl
section
variable {X : Cx} {pins : List (Addr × Obj)} {σ : St} {H : Hp} {s : Shared} {l b : Addr} {xs ys zs : List V}

/-! ### the two steps: a tracked list is rewritten, a new list is laid -/
theorem Inv.lset {its its' : List Value} {n : Nat} {f : Array Value → Array Value} {t' : Nat} (I : Inv X pins σ H s) (hH : H l = some (.lst xs))
    (e : s.heap.get? l = some { cls := .type "list", data := .seq its.toArray n }) (hf : f its.toArray = its'.toArray) (hv : Vals ys its') (hz : ys.length ≤ sizeLine) :
    Inv X pins σ (upd H l (.lst ys)) { s with heap := s.heap.update l (Obj.mapSeq f), toks := t' } := by
  have q := PySem.IsL.update e f
  rw [hf] at q
  refine I.write (x := l) (e := l) (by rw [hH]; exact trivial) (.inl rfl) (fun b' u hb hu => (Heap.get?_update_other s.heap (Obj.mapSeq f) (Ne.symm hb)).trans hu) ⟨_, q⟩ ?_
  exact ⟨hz, its', _, hv, q⟩
theorem Inv.fresh (I : Inv X pins σ H s) : H s.heap.objs.size = none := I.hok.fresh (Nat.le_refl _)
theorem Inv.lstM (I : Inv X pins σ H s) (hH : H l = some (.lst xs)) : xs.length ≤ sizeLine ∧ ∃ (its : List Value) (n : Nat), Vals xs its ∧ xs.length = its.length ∧ s.heap.get? l = some { cls := .type "list", data := .seq its.toArray n } := by
  obtain ⟨z, its, n, r, e⟩ := I.hok l _ hH
  exact ⟨z, its, n, r, r.length, e⟩

theorem notLongL {n : Nat} (h : n ≤ sizeLine) : Builtin.List.listTooLong n = false := by
  unfold Builtin.List.listTooLong
  exact decide_eq_false (by omega)
end

section
variable {X : Cx}

/-! ### methods -/
def rAppend : V → List V → Hp → VK → Prop := fun x vs H Q => ∃ l xs y, x = .ref l ∧ vs = [y] ∧ H l = some (.lst xs) ∧ xs.length < sizeLine ∧ Q .non (upd H l (.lst (xs ++ [y])))
theorem mt_append : MtM X "list.append" rAppend := by
  intro pins s σ H x vs v us Q I rx rv h
  obtain ⟨l, xs, y, rfl, rfl, hH, hz, q⟩ := h
  cases rx
  obtain ⟨u, rfl, ru⟩ := rv.one
  obtain ⟨z, its, n, r, hl, e⟩ := I.lstM hH
  refine call_meets F.slot_list_append ⟨_, e, rfl⟩ F.entry_list_append (F.args_list_append_2 _ _) (PySem.list_append l its.toArray n u (by rw [List.size_toArray]; omega)) ⟨e, ?_⟩
  refine ⟨.non, _, I.lset (its' := its ++ [u]) hH e (by simp) (r.append (.cons ru .nil)) ?_, rfl, q⟩
  rw [List.length_append, List.length_singleton]
  omega

def rPop : V → List V → Hp → VK → Prop := fun x vs H Q => ∃ l xs y, x = .ref l ∧ vs = [] ∧ H l = some (.lst xs) ∧ xs[xs.length - 1]? = some y ∧ Q y (upd H l (.lst xs.dropLast))
theorem mt_pop : MtM X "list.pop" rPop := by
  intro pins s σ H x vs v us Q I rx rv h
  obtain ⟨l, xs, y, rfl, rfl, hH, hy, q⟩ := h
  cases rx
  have hus := rv.zero
  subst hus
  obtain ⟨z, its, n, r, hl, e⟩ := I.lstM hH
  obtain ⟨u, hu, ru⟩ := r.get hy
  have hy' : its.toArray[its.toArray.size - 1]? = some u := by
    show its.toArray[its.length - 1]? = some u
    rw [← Array.getElem?_toList, ← hl]
    exact hu
  refine call_meets F.slot_list_pop ⟨_, e, rfl⟩ F.entry_list_pop (F.args_list_pop_1 _) (MeetsSeq.list_pop_last l its.toArray n u hy' (by rw [List.size_toArray]; omega)) ⟨e, ?_⟩
  refine ⟨y, _, I.lset (its' := its.dropLast) hH e ?_ r.dropLast ?_, ru, q⟩
  · show its.toArray.eraseIdxIfInBounds (its.toArray.size - 1) = its.dropLast.toArray
    rw [List.size_toArray, List.eraseIdxIfInBounds_toArray, erase_last]
  · rw [List.length_dropLast]
    omega

/-! ### list + list, list += list, list * int -/
/-! ### del xs[i] -/
end

/-! ### xs[a:b] = ys -/
section
variable {prog : Program} {w : World} {A : Around} {E : Value → Shared → Prop} {s : Shared}
end

section
variable {X : Cx}
end
end L2

namespace Att
open PySem PySem.W PySem.Calls PyProof.Rows

/-! ### the script -/
theorem ints_of_wellAll {P : Params} {h : Heap} : ∀ (ns : List Int) (vs : List Value), WellAll P h vs (ns.map WData.int) → IntsAre vs ns := by
  intro ns
  induction ns with
  | nil =>
    intro vs w
    rw [List.map_nil] at w
    cases w
    exact .nil
  | cons n ns ih =>
    intro vs w
    rw [List.map_cons] at w
    cases w with
    | cons a b =>
      cases a
      exact .cons _ _ (ih _ b)

theorem script_of {l : OpenLaw} {n : Nat} (hn : l.most = some n) {P : Params} {h : Heap} {args : List WData} {vals : List Value}
    (hpre : l.row.toRowW.claim.pre args = true) (hwl : WellAll P h vals args) :
    ∃ a vs ns, vals = [Value.ref a] ∧ args = [WData.list (ns.map WData.int)] ∧ h.get? a = some { cls := .type "list", data := .seq vs.toArray } ∧ IntsAre vs ns ∧ ns.length ≤ n := by
  have hsh : WShape.hasAll [] args [.list .int] = true := (pre_splitW hpre).1
  have hc : l.pre.holds [] { args := args } = true := (pre_splitW hpre).2
  obtain ⟨d, r, rfl, h1, h2⟩ := hasAllW_cons hsh
  obtain rfl := hasAllW_nil h2
  obtain ⟨xs, rfl, h3⟩ := hasW_list h1
  obtain ⟨ns, rfl⟩ := items_int h3
  have hlen : ns.length ≤ n := by
    unfold OpenLaw.pre at hc
    have h4 : (WTm.not (.lt (.lit (.int (n : Int))) (.len (.arg 0)))).holds [] { args := [.list (ns.map .int)] } = true := by
      have h4 := (holds_andW hc).1
      rw [hn] at h4
      exact h4
    have h5 := condW_of h4 (w_not (w_lt w_lit (w_len_list (w_arg rfl))))
    rw [List.length_map] at h5
    refine Nat.le_of_not_lt fun q => ?_
    have q' : (n : Int) < ((ns.length : Nat) : Int) := by omega
    first
      | (rw [decide_eq_true q'] at h5; exact absurd h5 (by decide))
      | (simp at h5; omega)
  cases hwl with
  | cons w1 w2 =>
    cases w2
    cases w1 with
    | list ho hall => exact ⟨_, _, ns, rfl, rfl, ho, ints_of_wellAll ns _ hall, hlen⟩

theorem post_true (l : OpenLaw) (args : List WData) : l.row.toRowW.claim.post args (.bool true) args = true :=
  postW_of (r := l.row.toRowW) (X := (true == true))
    (show WShape.has [] (.bool true) .bool = true by first | rfl | decide | simp [WShape.has, WShape.arms, WShape.armsAll])
    (show (WTm.eq .res (.lit (.bool true))).value [] { args := args, res := some (.bool true), after := args } = some (.bool (true == true)) from w_eq_bool (w_res rfl) w_lit) rfl

/-! ### the attachment: holds_open's last premise (the goal 'hc' behind k_head) from a wpAny of the law's body -/
/-- the same from a codeAny of the CALL (for a layer whose function contracts speak of calls) -/
theorem attach_call {l : OpenLaw} {n : Nat} {q : Program} {loose : List Str} {XP : (Str → Option Value) → Heap → Prop} {YP : World → Heap → Prop} {d : DefRec}
    (hn : l.most = some n) (hdf : d.params.defaults = [])
    (call : ∀ (w : World) (s₀ s₁ : Shared) (mg mb : Str → Option Value) (fa : Addr) (o : Obj) (pm cd doc : Value) (a : Addr) (vs : List Value) (ns : List Int),
      Ground q loose [] XP w s₀ mg mb s₁.heap → YP w s₁.heap →
      s₁.heap.get? fa = some o → o.data = .func (docDef d.name d.params d.body d.scope pm cd doc) → s₁.heap.CodeRec cd d.name → mg d.name = some (.ref fa) →
      s₁.heap.get? a = some { cls := .type "list", data := .seq vs.toArray } → IntsAre vs ns → ns.length ≤ n → s₁.gens = #[] →
      codeAny (model l.prog w) callerA (.call (.ref fa) ⟨[.ref a], []⟩) (fun r s' => r = .ok (.ret (.bool true)) ∧ OldK s₁.heap s'.heap ∧ s'.os = s₁.os ∧ AllBare s'.gens) s₁) :
    WalkO q loose XP YP l.row.toRowW d [] (fun f vs => PySem.call f vs) := by
  intro w s₀ s₁ mg mb G Y fa o pm cd doc dV kV ho hd hcd hD hmg hg args vals as hpre hlay hrd hwl hlo
  obtain rfl : dV = .none := Dflts.none hD hdf
  obtain rfl : kV = .none := Dflts.noKw hD
  obtain ⟨a, vs, ns, rfl, rfl, hobj, hints, hlen⟩ := script_of hn hpre hwl
  refine enter_call (codeAny_mono (call w s₀ s₁ mg mb fa o pm cd doc a vs ns G Y ho (fd_plain hd) hcd hmg hobj hints hlen hg) fun r s' hq => ?_)
  obtain ⟨rfl, h2, h3, h4⟩ := hq
  exact ⟨.inl ⟨.bool true, .bool true, [], rfl, fun _ => rfl, .bool true, post_true l _, fun _ => ⟨List.Pairwise.nil, fun _ hm => (nomatch hm)⟩⟩, h2, h3, h4⟩

/-! ### rules over ANY heap (no ledger) from facts about the written part K: the library's own take a ledger (News) for what they write -/
section
variable {prog : Program} {w : World} {A : Around} {E : Value → Shared → Prop} {s : Shared} {K : Frag}

/-! the whole heap as the ledger: makes every rule that writes through a ledger a rule over any heap -/
end
end Att

namespace L2
open PySem PySem.Spec PyProof.Rows

theorem vals_ints : ∀ {vs : List Value} {ns : List Int}, IntsAre vs ns → Vals (ns.map V.int) vs
  | _, _, .nil => .nil
  | _, _, .cons n t h => .cons ⟨t, rfl⟩ (vals_ints h)

/-- nothing is tracked but the script, known to the object (or it is an object of the module) -/
def Only (H : Hp) : Prop := ∀ b, H b = none ∨ ∃ o xs, H b = some (.frz o (.lst xs))

/-- THE HEAD: the law's promise, at the heap behind the top. F, the promise of the law's def, may use that base is part of the heap (so K.In base, base.Ns mainGlobals mg stand in Mod) -/
theorem law_call {P : Program} {w : World} {K : PySem.W.Frag} {mg mb : Str → Option Value} {CX : CXT} {k : Nat} {fa a : Addr} {fd : FuncData} {x : Str} {sp : Sp} {s₁ : Shared} {vs : List Value} {ns : List Int}
    (KX : K.In s₁.heap) (hns : s₁.heap.Ns mainGlobals mg) (hb : s₁.heap.Ns builtinsNs mb) (hbb : ∀ x : Str, x ≠ "__name__" → mb x = bootBuiltins x) (hlim : s₁.heap.NoLimit) (hg : s₁.gens = #[])
    (ha : s₁.heap.get? a = some { cls := .type "list", data := .seq vs.toArray }) (hi : IntsAre vs ns) (hl : ns.length ≤ sizeLine) (hr : Room k callerA)
    (F : ∀ base : Heap, K.In base → base.Ns mainGlobals mg → FnOk P w K mg base CX k fa fd [x] sp) (hbind : ∀ (s : Shared) (u : Value), BindsTo s fd ⟨[u], []⟩ [(x, u)])
    (hsp : ∀ H : Hp, Only H → SqL K H a (ns.map V.int) → sp [.ref a] H (fun v _ => v = .bl true) fun _ _ _ => False)
    (hCX : ∀ H e s', CX [] H s₁ (fun _ _ _ => False) e s' → False) :
    codeAny (model P w) callerA (.call (.ref fa) ⟨[.ref a], []⟩) (fun r s' => r = .ok (.ret (.bool true)) ∧ OldK s₁.heap s'.heap ∧ s'.os = s₁.os ∧ AllBare s'.gens) s₁ := by
  have rv := vals_ints hi
  have lenV := hi.length
  -- from an abstract heap in which nothing but the script may be tracked
  have core : ∀ H : Hp, Only H → SqL K H a (ns.map V.int) → HOk P w H s₁.heap → (∀ b, H b ≠ none → b = a) → (H a ≠ none → K.lookup a = none) →
      codeAny (model P w) callerA (.call (.ref fa) ⟨[.ref a], []⟩) (fun r s' => r = .ok (.ret (.bool true)) ∧ OldK s₁.heap s'.heap ∧ s'.os = s₁.os ∧ AllBare s'.gens) s₁ := by
    intro H hO hS hok hA hK
    have base_of : ∀ {b : Addr} {o : Obj}, s₁.heap.get? b = some o → H b = none → (hidT s₁.heap H).get? b = some o := fun e n => hidT_get e n
    have noA : ∀ {b : Addr} {o : Obj} {es : Array DictEntry} {ep : Nat}, s₁.heap.get? b = some o → o.data = .dict es ep → H b = none := fun {b o es ep} e d => by
      cases q : H b with
      | none => rfl
      | some u =>
        have e' : b = a := hA b (by rw [q]; simp)
        subst e'
        rw [ha] at e; cases e
        have d' : Data.seq vs.toArray _ = Data.dict es ep := d
        cases d'
    have nsK : ∀ {b : Addr} {m : Str → Option Value}, s₁.heap.Ns b m → (hidT s₁.heap H).Ns b m := fun {b m} ⟨o, es, ep, e, d, r⟩ => ⟨o, es, ep, base_of e (noA e d), d, r⟩
    have hKb : K.In (hidT s₁.heap H) := fun b o e => base_of (KX b o e) (by
      cases q : H b with
      | none => rfl
      | some u =>
        have e' : b = a := hA b (by rw [q]; simp)
        subst e'
        rw [hK (by rw [q]; simp)] at e; cases e)
    have hM : Mod K mg (hidT s₁.heap H) := ⟨hKb, nsK hns, ⟨mb, nsK hb, hbb⟩, let ⟨mc, h1, h2⟩ := hlim; ⟨mc, nsK h1, h2⟩⟩
    have e0 : Env0 P w K mg (hidT s₁.heap H) callerA [] s₁ H := ⟨rfl, hM, fun b o e => of_hidT e, Nat.le_of_eq (hidT_size _ _), trivial, fun b hb => absurd (show b ∈ ([] : List Addr) from hb) (by simp), hok, .of_eq hg⟩
    refine codeAny_mono ((F _ hKb (nsK hns)).run callerA [] s₁ H ⟨[.ref a], []⟩ [.ref a] [.ref a] _ _ hr e0 (hbind s₁ (.ref a)) (.cons rfl .nil) (hsp H hO hS)) fun r s' h => ?_
    cases r with
    | error e => exact (hCX H e s' h).elim
    | ok fl =>
      cases fl with
      | next => exact False.elim h
      | brk => exact False.elim h
      | cont => exact False.elim h
      | ret u =>
        obtain ⟨v, H', os, bare, un, hok', r', q⟩ := h
        have q' : v = .bl true := q
        subst q'
        obtain rfl : u = Value.bool true := r'
        refine ⟨rfl, OldK.of_keep fun b o e => ?_, os, bare⟩
        cases q : H b with
        | none => exact un.keep b o e q (by intro z; exact absurd (show b ∈ ([] : List Addr) from z) (by simp)) (by simp)
        | some u =>
          rcases hO b with z | ⟨ob, xs, z⟩
          · rw [q] at z; cases z
          · have z2 := un.frzs b ob _ z
            obtain ⟨e1, _⟩ := hok b _ z
            obtain ⟨e2, _⟩ := hok' b _ z2
            rw [e] at e1; cases e1
            exact e2
  cases hk : K.lookup a with
  | some o =>
    -- the script is one of the module's own objects
    have e := KX a o hk
    rw [ha] at e
    cases e
    refine core (fun _ => none) (fun _ => .inl rfl) (.inr ⟨_, vs.toArray, _, hk, rfl, rfl, rfl, by rw [List.size_toArray, lenV]; exact hl, by simpa using rv⟩) (fun b u z => by have z' : (none : Option HO) = some u := z; cases z') (fun b z => absurd rfl z) fun z => absurd rfl z
  | none =>
    refine core (fun b => if b = a then some (.frz { cls := .type "list", data := .seq vs.toArray } (.lst (ns.map V.int))) else none) (fun b => ?_) (.inl (.inr ⟨{ cls := .type "list", data := .seq vs.toArray }, if_pos rfl⟩)) (fun b u z => ?_) (fun b z => ?_) fun _ => hk
    · by_cases hb : b = a
      · exact .inr ⟨_, _, if_pos hb⟩
      · exact .inl (if_neg hb)
    · by_cases hb : b = a
      · have z' := (if_pos hb).symm.trans z
        cases z'
        subst hb
        exact ⟨ha, by rw [List.length_map]; exact hl, vs, _, rv, ha⟩
      · have z' := (if_neg hb).symm.trans z
        cases z'
    · by_cases hb : b = a
      · exact hb
      · exact absurd (if_neg hb) z
end L2

namespace L2
open PySem PySem.Spec PyProof.Rows

abbrev KOf {K : PySem.W.Frag} {h : Heap} (_ : K.In h) : PySem.W.Frag := K

/-- the goal that k_head leaves (case hc), from the law's promise. F gives the function object fd (K's own) once, then the promise over every base -/
theorem walk_of {l : PySem.W.OpenLaw} {n k : Nat} {q : Program} {loose : List Str} {XP : (Str → Option Value) → Heap → Prop} {YP : World → Heap → Prop} {d : DefRec} {K : Params → PySem.W.Frag} {CX : World → CXT} {sp : World → Sp} {x : Str}
    (hn : l.most = some n) (hn2 : n ≤ sizeLine) (hdf : d.params.defaults = []) (hr : Room k callerA)
    (hY : ∀ (w : World) (h : Heap), YP w h → (K w.params).In h)
    (F : ∀ (w : World) (mg : Str → Option Value) (fa : Addr) (h : Heap), (K w.params).In h → h.Ns mainGlobals mg → mg d.name = some (.ref fa) →
      ∃ fd : FuncData, (∀ (s : Shared) (u : Value), BindsTo s fd ⟨[u], []⟩ [(x, u)]) ∧
        ∀ base : Heap, (K w.params).In base → base.Ns mainGlobals mg → FnOk l.prog w (K w.params) mg base (CX w) k fa fd [x] (sp w))
    (hsp : ∀ (w : World) (H : Hp) (a : Addr) (ns : List Int), ns.length ≤ n → Only H → SqL (K w.params) H a (ns.map V.int) → sp w [.ref a] H (fun v _ => v = .bl true) fun _ _ _ => False)
    (hCX : ∀ (w : World) (H : Hp) (s : Shared) (e : Value) (s' : Shared), CX w [] H s (fun _ _ _ => False) e s' → False) :
    PySem.W.WalkO q loose XP YP l.row.toRowW d [] (fun f vs => PySem.call f vs) := by
  refine Att.attach_call hn hdf fun w s₀ s₁ mg mb fa o pm cd doc a vs ns G Y ho hd hcd hmg hobj hints hlen hg => ?_
  have KX := hY w _ Y
  obtain ⟨fd, hb, hF⟩ := F w mg fa _ KX G.T.g hmg
  exact law_call KX G.T.g G.T.b G.T.builtins G.T.nolimit hg hobj hints (Nat.le_trans hlen hn2) hr hF hb (fun H hO hS => hsp w H a ns hlen hO hS) fun H e s' => hCX w H s₁ e s'
end L2

/- THE LAST THEOREM (shape; LID, My.* are yours):
   My.Adr: a structure of the addresses that your layer names (classes, functions); My.Txt K t: a structure (Prop) of the equations over K;
   My.txt_mk : {K} {implicit addresses ..} (e1 : nsIn K mainGlobals "law" = some (some (.ref f))) (e2 : K.lookup f = some ⟨oc, od, .func (fnOf "law" "law" params body scope dV kV doc pm an cdv ct), sl⟩) (e3 : codeIn K cdv "law" = true) .. : ∃ t, My.Txt K t

set_option maxRecDepth 100000 in
set_option maxHeartbeats 0 in
theorem PySem.Challenge.cw_LID_holds : PySem.Challenge.rw_LID.Holds := by
  w_on; o_law; k_head; (case hw => w_witness2)
  k_fill
  refine L2.walk_of (l := PySem.Challenge.rw_LID) (n := 63) (k := 40) (x := "script") (CX := fun w => ..) (sp := fun _ => My.sp_law) rfl (by decide) rfl ⟨rfl, by decide, by decide⟩ (fun w h Y => PySem.W.kIn_of Y) ?F ?S ?C
  case F =>
    intro w mg fa h KX G hmg
    have T : ∃ t, My.Txt (L2.KOf KX) t := by
      dsimp only [L2.KOf]                          -- K must stand as «<heap const> w.params» for k_is
      refine' My.txt_mk ?e1 ?e2 ?e3 ..
      (case e1 => PySem.W.k_is)                    -- in the order: a name -> its address -> its object -> its parts
      (case e2 => PySem.W.k_is)
      ..
    obtain ⟨t, T⟩ := T
    have e0 := hmg.symm.trans (PySem.W.mg_of KX G T.law)
    cases e0                                       -- fa is the law's own address
    exact ⟨_, fun s u => .of_eq rfl, fun base kb nb => My.law_fn T kb nb⟩     -- if «.of_eq rfl» comes too early: refine' ⟨_, ?b, fun base kb nb => My.law_fn T kb nb⟩; exact fun s u => .of_eq rfl
  case S => exact fun w H a ns hl hO hS => ..
  case C => exact ..
(the tactic k_is has no namespace: write k_is) -/

/-! SHORT WORDS over the layer: a def of the text, its body, what a loop and a test want. -/
namespace L2
open PySem PySem.Spec PyProof.Rows

/-! ### the text by places -/
/-- the j-th statement of a class's body -/
def inClass (s : Stmt) (j : Nat) : Stmt := match s with
  | .ClassDef _ _ _ body _ _ _ _ _ _ _ => body.getD j (.Pass ⟨0, 0, 0, 0⟩)
  | _ => .Pass ⟨0, 0, 0, 0⟩
def defArgs (s : Stmt) : Arguments := match s with
  | .FunctionDef _ a _ _ _ _ _ _ _ _ => a
  | _ => { posonlyargs := [], args := [], vararg := none, kwonlyargs := [], kw_defaults := [], kwarg := none, defaults := [] }
def defBody (s : Stmt) : List Stmt := match s with
  | .FunctionDef _ _ b _ _ _ _ _ _ _ => b
  | _ => []
def defScope (s : Stmt) : Scope := match s with
  | .FunctionDef _ _ _ _ _ _ sc _ _ _ => sc
  | _ => { kind := .function, names := [], isGenerator := false, isCoroutine := false }

/-! ### no exception leaves a def -/
abbrev CX0 : CXT := fun _ _ _ _ _ _ => False
abbrev E0 : XK := fun _ _ _ => False
theorem pass0 {X : Cx} : Passes CX0 X E0 := fun _ _ _ _ _ _ _ h => h.elim

/-! ### a def (or method) of the text as it stands behind the top -/
structure Fun (K : PySem.W.Frag) (x qual : Str) (st : Stmt) (f : Addr) (fd : FuncData) : Prop where
  ex : ∃ (oc : Value) (od : Option Addr) (kV doc pm : Value) (an : Option Addr) (cdv ct : Value) (osl : Array (Option Value)),
    fd = PySem.W.fnOf x qual (defArgs st) (defBody st) (defScope st) .none kV doc pm an cdv ct ∧ K.lookup f = some ⟨oc, od, .func fd, osl⟩ ∧ PySem.W.codeIn K cdv qual = true
  kp : PySem.W.keepIn K (.ref f) = true
section
variable {P : Program} {w : World} {K : PySem.W.Frag} {mg : Str → Option Value} {base : Heap}
/-- THE RULE for a def: its body as a term of rules, and the reading of that term -/
theorem Fun.ok {x qual : Str} {st : Stmt} {f : Addr} {fd : FuncData} {N ps : List Str} {k : Nat} {sp : Sp} (F : Fun K x qual st f fd) (S : FnScope N ps (defScope st)) (len : ∀ vs H Q E, sp vs H Q E → vs.length = ps.length)
    (hbody : ∀ (cdv : Value) (A : Around) (outer : List Env) (s : Shared) (H : Hp) (vs : List V) (Q : VK) (E : XK), Room k (A.deeper (envOfC qual (defScope st) s.heap.objs.size f cdv)) → sp vs H Q E →
      ∃ t, PSs (cxOf CX0 P w K mg base N qual (defScope st) f cdv A outer s H E).nox (defBody st) t ∧ t { nx := fun _ H' => Q .non H', rt := Q } (start N vs) H) : FnOk P w K mg base CX0 (k + 1) f fd ps sp := by
  obtain ⟨oc, od, kV, doc, pm, an, cdv, ct, osl, rfl, lk, hcd⟩ := F.ex
  refine fn_of lk hcd S len fun A outer s H vs Q E hr hsp => ?_
  obtain ⟨t, h, q⟩ := hbody cdv A outer s H vs Q E hr hsp
  exact ⟨t, h.nox, q⟩
/-- how its arguments bind (no defaults): h is «fun _ _ _ _ _ _ us hl => match us, hl with | [_, _], _ => rfl», one _ a parameter -/
theorem Fun.binds {x qual : Str} {st : Stmt} {f : Addr} {fd : FuncData} {ps : List Str} (F : Fun K x qual st f fd)
    (h : ∀ (kV doc pm : Value) (an : Option Addr) (cdv ct : Value) (us : List Value), us.length = ps.length → bindArgs (PySem.W.fnOf x qual (defArgs st) (defBody st) (defScope st) .none kV doc pm an cdv ct) ⟨us, []⟩ = pure (ps.zip us)) : Binds K fd ps [] := by
  obtain ⟨oc, od, kV, doc, pm, an, cdv, ct, osl, rfl, lk, hcd⟩ := F.ex
  exact .all (h kV doc pm an cdv ct)
theorem fun_mk {x qual : Str} {st : Stmt} {f : Addr} {oc : Value} {od an : Option Addr} {osl : Array (Option Value)} {kV doc pm cdv ct : Value} (l : K.lookup f = some ⟨oc, od, .func (PySem.W.fnOf x qual (defArgs st) (defBody st) (defScope st) .none kV doc pm an cdv ct), osl⟩)
    (c : PySem.W.codeIn K cdv qual = true) (k : PySem.W.keepIn K (.ref f) = true) : Fun K x qual st f (PySem.W.fnOf x qual (defArgs st) (defBody st) (defScope st) .none kV doc pm an cdv ct) := ⟨⟨oc, od, kV, doc, pm, an, cdv, ct, osl, rfl, l, c⟩, k⟩
end
/-! ### expressions in short: the name that stands in the i-th slot -/
section
variable {X : Cx}
theorem pv (i : Nat) {x : Str} {pos : Pos} (hN : X.N[i]? = some x := by rfl) (hv : Vis X.env.scope x := by first | exact Or.inl rfl | exact Or.inr (Or.inl rfl) | exact Or.inr (Or.inr rfl)) (hd : (x == ("__debug__" : Str)) = false := by decide)
    (hcd : (x == ("__classdict__" : Str)) = false := by decide) : PE X (.Name x pos) (tVar i) := pe_var hN hv hd hcd
end

/-! ### tests -/
theorem iteF {A B : Prop} (h : B) : if false = true then A else B := by
  rw [if_neg Bool.false_ne_true]
  exact h
theorem iteT {A B : Prop} (h : A) : if true = true then A else B := by
  rw [if_pos rfl]
  exact h
theorem ite2 {c A B : Prop} [Decidable c] (h1 : c → A) (h2 : ¬ c → B) : if c then A else B := by
  by_cases h : c
  · rw [if_pos h]
    exact h1 h
  · rw [if_neg h]
    exact h2 h
/-! ### heaps -/
/-- all that was tracked is as it was -/
def Same (H H' : Hp) : Prop := ∀ b o, H b = some o → H' b = some o
theorem Same.refl (H : Hp) : Same H H := fun _ _ h => h
theorem Same.trans {H H1 H2 : Hp} (a : Same H H1) (b : Same H1 H2) : Same H H2 := fun c o h => b c o (a c o h)
theorem Same.free {H H' : Hp} (e : Same H H') {l : Addr} (h : H' l = Option.none) : H l = Option.none := by
  cases q : H l with
  | none => rfl
  | some o =>
    rw [e l o q] at h
    cases h
theorem Same.seq {K : PySem.W.Frag} {H H' : Hp} {a : Addr} {xs : List V} (e : Same H H') (h : SqL K H a xs) : SqL K H' a xs := by
  rcases h with (h | ⟨o, h⟩) | h
  · exact .inl (.inl (e _ _ h))
  · exact .inl (.inr ⟨o, e _ _ h⟩)
  · exact .inr h

end L2

set_option maxHeartbeats 4000000
/-! EvExc: refusals of own classes by hand: raise, a callee's refusal that passes, try with one except clause that names, isinstance of a refusal. Over the hand layer (namespace L2), which stands ahead of it. -/
namespace L2
open PySem PySem.Spec PyProof.Rows

section
variable {X : Cx} {pins : List (Addr × Obj)} {σ : St} {H H' : Hp} {s s' : Shared}
theorem Inv.nopins (I : Inv X pins σ H s) : Inv X [] σ H s := I.pins_of fun p hp => nomatch hp
end

section
variable {P : Program} {w : World} {K : PySem.W.Frag} {mg : Str → Option Value} {base : Heap} {N : List Str} {qual : Str} {scope : Scope} {f : Addr} {cd : Value} {A : Around} {outer : List Env} {s : Shared} {H : Hp} {E : XK}
end
/-! ### raise -/
end L2
/-! EvTry: isinstance of a refusal, except clauses, defs called within an except suite. Behind EvExc. -/
namespace PySem.W
open PySem PySem.Calls PyProof.Rows Builtin Builtin.ObjectAttr Builtin.Getset_descriptor
section
variable {prog : Program} {w : World} {A : Around} {E : Value → Shared → Prop} {s : Shared} {K : Frag} {x C D : Addr} {ox : Obj}
end
end PySem.W

namespace L2
open PySem PySem.Spec PyProof.Rows
/-! ### isinstance by values -/
/-- isinstance(x, c), c one class -/
theorem call_isinst {X : Cx} : CallR X (.builtin "isinstance") (fun xs H Q => ∃ x c t b, xs = [x, c] ∧ TyOf X.K H x t ∧ (∀ u, RelV c u → PySem.W.kitOne X.K t u = some b) ∧ Q (.bl b) H) := by
  intro pins s σ H xs us Q I r h
  obtain ⟨x, c, t, b, rfl, ty, k, q⟩ := h
  obtain ⟨u, w', rfl, r1, r2⟩ := vals2 r
  exact isinst_ok I r1 ty (k _ r2) fun tk => ⟨.bl b, H, I.tok tk, rfl, q⟩
/-! ### try, one clause with a name -/
section
variable {X : Cx} {pins : List (Addr × Obj)} {σ : St} {H : Hp} {s : Shared}
/-- an object that was not tracked is -/
theorem Inv.track {a : Addr} {o : HO} (I : Inv X pins σ H s) (hn : H a = none) (h0 : X.s₀.heap.get? a = none) (hL : a ≠ X.env.locals) (hc : ∀ x c, X.env.cells.lookup x = some c → c ≠ a) (hp : ∀ p ∈ X.pn ++ pins, p.1 ≠ a)
    (new : ObjOk X.prog X.w (upd H a o) s.heap a o) : Inv X pins σ (upd H a o) s := by
  have ne : ∀ b u, H b = some u → b ≠ a := fun b u e => ne_of_none e hn
  refine ⟨I.ok, I.os, I.bare, ⟨I.base.keep, I.base.slot, fun b ob e n hx => ?_, I.base.there, fun b xs e => ?_, fun b ob u e => ?_, fun b ps e => ?_⟩, I.loc, I.cell, ?_, fun x c e => ?_, fun p hp' => ?_, fun b u e => ?_, I.len⟩
  · rw [upd_ne (fun z => by rw [z, h0] at e; cases e)]
    exact I.base.free b ob e n hx
  · have q := I.base.tups b xs e
    rw [upd_ne (ne b _ q)]; exact q
  · have q := I.base.frzs b ob u e
    rw [upd_ne (ne b _ q)]; exact q
  · obtain ⟨m, q⟩ := I.base.tbls b ps e
    exact ⟨m, by rw [upd_ne (ne b _ q)]; exact q⟩
  · rw [upd_ne (Ne.symm hL)]; exact I.free
  · rw [upd_ne (hc x c e)]; exact I.freeC x c e
  · obtain ⟨e, n, r⟩ := I.pin p hp'
    exact ⟨e, by rw [upd_ne (hp p hp')]; exact n, r⟩
  · by_cases hb : b = a
    · subst hb; rw [upd_same] at e; cases e; exact new
    · rw [upd_ne hb] at e
      exact (I.hok b u e).stay (fun _ _ _ q => q) (fun c q => by rw [upd_ne (ne c _ q)]; exact q) fun c xs q => by rw [upd_ne (ne c _ q)]; exact q
end
/-! ### a def that is called within an except suite -/
end L2

namespace L2
open PySem PySem.Spec PyProof.Rows
end L2
/-! EvStr: f-strings with ints, a while whose test need not be monotone. Behind EvTry. -/
namespace L2
open PySem PySem.Spec PyProof.Rows
/-! ### while -/
def WTurn (Pv : St → Hp → Prop) (mu : St → Hp → Nat) (m : Nat) (tb : TS) (D : Ends) (σ : St) (H1 : Hp) : Prop :=
  ∃ N : St → Hp → Prop, (∀ σ' H', N σ' H' → ∃ m', m' < m ∧ m' = mu σ' H' ∧ Pv σ' H') ∧ tb { D with nx := N, ct := N, bk := D.nx } σ H1
theorem WTurn.of {Pv : St → Hp → Prop} {mu : St → Hp → Nat} {m : Nat} {tb : TS} {D : Ends} {σ : St} {H1 : Hp}
    (h : tb { D with nx := fun σ' H' => Pv σ' H' ∧ mu σ' H' < m, ct := fun σ' H' => Pv σ' H' ∧ mu σ' H' < m, bk := D.nx } σ H1) : WTurn Pv mu m tb D σ H1 :=
  ⟨_, fun σ' H' ⟨p, l⟩ => ⟨_, l, rfl, p⟩, h⟩
theorem while_w {c : TT} {tb : TS} {D : Ends} {σ : St} {H : Hp} (Pv : St → Hp → Prop) (mu : St → Hp → Nat) (h0 : Pv σ H)
    (hs : ∀ m σ H, Pv σ H → m = mu σ H → c σ H fun b H1 => if b = true then WTurn Pv mu m tb D σ H1 else D.nx σ H1) : tWhile c tb D σ H := by
  refine ⟨fun m σ H => m = mu σ H ∧ Pv σ H, ⟨_, rfl, h0⟩, ?_⟩
  rintro m σ H ⟨e, p⟩
  exact hs m σ H p e
/-! ### tests that are known -/
theorem ifT {c A B : Prop} [Decidable c] (h : c) (k : A) : if decide c = true then A else B := by
  rw [if_pos (decide_eq_true h)]
  exact k
theorem ifF {c A B : Prop} [Decidable c] (h : ¬ c) (k : B) : if decide c = true then A else B := by
  rw [if_neg (fun z => h (of_decide_eq_true z))]
  exact k
theorem blT {Q : VK} {H : Hp} {c : Prop} [Decidable c] (h : c) (k : Q (.bl true) H) : Q (.bl (decide c)) H := by
  rw [decide_eq_true h]
  exact k
/-! ### f-strings -/
end L2
/-! EvComp: a list comprehension with one for and at most one if, by hand. Behind EvStr. -/
namespace L2
open PySem PySem.Spec PyProof.Rows
/-! ### the closure -/
theorem cellOf_some {env : Env} {x : Str} {c : Addr} (h : env.cells.lookup x = some c) : cellOf env x = pure c := by
  unfold cellOf
  rw [h]
theorem closure_go {env : Env} : ∀ (names : List (Str × NameKind)) (cs : List (Str × Addr)), (∀ x, (x, NameKind.free) ∈ names → ∃ c, env.cells.lookup x = some c) →
    (∀ x c, cs.lookup x = some c → env.cells.lookup x = some c) →
    ∃ cl : List (Str × Addr), (forIn names cs fun (y : Str × NameKind) (r : List (Str × Addr)) => if (y.2 == .free) = true then (do let c ← cellOf env y.1; pure (ForInStep.yield ((y.1, c) :: r)) : Sem _) else pure (ForInStep.yield r)) = pure cl ∧
      (∀ x c, cl.lookup x = some c → env.cells.lookup x = some c) ∧ (∀ x, ((x, NameKind.free) ∈ names ∨ ∃ c, cs.lookup x = some c) → ∃ c, cl.lookup x = some c)
  | [], cs, _, h2 => ⟨cs, rfl, h2, fun x hx => hx.elim (fun z => nomatch z) id⟩
  | (y, k) :: names, cs, h1, h2 => by
    by_cases hk : k = .free
    · subst hk
      obtain ⟨c, hc⟩ := h1 y (List.mem_cons_self ..)
      obtain ⟨cl, e, a, b⟩ := closure_go names ((y, c) :: cs) (fun x hx => h1 x (List.mem_cons_of_mem _ hx)) (fun x c' hx => by
        rw [List.lookup_cons] at hx
        split at hx
        · rename_i hb
          have hb' : x = y := by simpa using hb
          cases hx
          rw [hb']
          exact hc
        · exact h2 x c' hx)
      refine ⟨cl, ?_, a, fun x hx => b x ?_⟩
      · rw [List.forIn_cons]
        simp only [beq_self_eq_true, if_true, cellOf_some hc]
        exact e
      · rcases hx with hx | ⟨c', hx⟩
        · rcases List.mem_cons.mp hx with z | z
          · cases z
            exact .inr ⟨c, by simp⟩
          · exact .inl z
        · by_cases hb : (x == y) = true
          · exact .inr ⟨c, by rw [List.lookup_cons, hb]⟩
          · exact .inr ⟨c', by rw [List.lookup_cons, Bool.not_eq_true _ |>.mp hb]; exact hx⟩
    · obtain ⟨cl, e, a, b⟩ := closure_go names cs (fun x hx => h1 x (List.mem_cons_of_mem _ hx)) h2
      have hb : (k == NameKind.free) = false := by simpa using hk
      refine ⟨cl, ?_, a, fun x hx => b x ?_⟩
      · rw [List.forIn_cons]
        simp only [hb, Bool.false_eq_true, if_false]
        exact e
      · rcases hx with hx | hx
        · rcases List.mem_cons.mp hx with z | z
          · cases z
            exact absurd rfl hk
          · exact .inl z
        · exact .inr hx
theorem closure_of {scope : Scope} {env : Env} (h : ∀ x, (x, NameKind.free) ∈ scope.names → ∃ c, env.cells.lookup x = some c) :
    ∃ cl, closureFor scope env = pure cl ∧ (∀ x c, cl.lookup x = some c → env.cells.lookup x = some c) ∧ ∀ x, (x, NameKind.free) ∈ scope.names → ∃ c, cl.lookup x = some c := by
  obtain ⟨cl, e, a, b⟩ := closure_go scope.names [] h (fun x c hx => nomatch hx)
  refine ⟨cl, ?_, a, fun x hx => b x (.inl hx)⟩
  refine Eq.trans (b := (forIn scope.names [] fun (y : Str × NameKind) (r : List (Str × Addr)) => if (y.2 == .free) = true then (do let c ← cellOf env y.1; pure (ForInStep.yield ((y.1, c) :: r)) : Sem _) else pure (ForInStep.yield r)) >>= fun r => pure r) rfl ?_
  rw [e]
  rfl
/-! ### the loop -/
section
variable {prog : Program} {w : World} {A : Around} {R : Result → Shared → Prop} {s : Shared}
theorem compLoop_any {elt target iter : Expr} {ifs : List Expr} {scope : Scope} {pos : Pos} {it acc : Value} {env : Env} (I : Nat → Shared → Prop)
    (turn : ∀ n s, I n s → wpAny (model prog w) A (pyNext it) (fun r s1 => match r with
      | none => R (.ok .next) s1
      | some v => wpAny (model prog w) A (letOwnedTupleGo target it v) (fun _ s1' => wpAny (model prog w) A (assign target env v) (fun _ s2 =>
          wpAny (model prog w) A (forIn ifs true fun c r => if r = true then do let ok ← isTrue c env (eval c env); pure (ForInStep.yield ok) else pure (ForInStep.yield r)) (fun ok s3 =>
            if ok = true then wpAny (model prog w) A (eval elt env) (fun x s4 =>
              wpAny (model prog w) A (call (.builtin "list.append") [acc, x]) (fun _ s5 => ∃ m, m < n ∧ I m s5) (fun _ _ => False) s4) (fun _ _ => False) s3
            else ∃ m, m < n ∧ I m s3) (fun _ _ => False) s2) (fun _ _ => False) s1') (fun _ _ => False) s1) (fun _ _ => False) s)
    (n : Nat) (h : I n s) : codeAny (model prog w) A (.compLoop (.ListComp elt [⟨target, iter, ifs, 0⟩] scope pos) 0 it acc env) R s := by
  refine codeAny_loop rfl I (fun n s hI => ?_) n h
  show wpAny _ A ((compTurn (.ListComp elt [⟨target, iter, ifs, 0⟩] scope pos) 0 it acc env).onRaise (fun x => do noteFrame x env; theTreesLotGoes x)) _ _ s
  refine wpAny_noted ?_
  rw [compTurn_list]
  refine wpAny_bind (wpAny_standAt (wpAny_bind (wpAny_mono (turn n s hI) (fun r s1 h1 => ?_) fun _ _ h' => h'.elim)))
  cases r with
  | none => exact wpAny_pure h1
  | some v =>
    refine wpAny_bind (wpAny_mono h1 (fun _ s1' h1' => ?_) fun _ _ h' => h'.elim)
    refine wpAny_bind (wpAny_mono h1' (fun _ s2 h2 => wpAny_bind (wpAny_mono h2 (fun ok s3 h3 => ?_) fun _ _ h' => h'.elim)) fun _ _ h' => h'.elim)
    cases ok with
    | false => exact wpAny_pure ⟨rfl, h3⟩
    | true =>
      exact wpAny_bind (wpAny_bind (wpAny_mono h3 (fun x s4 h4 => wpAny_bind (wpAny_mono h4 (fun _ s5 h5 => wpAny_pure (wpAny_pure ⟨rfl, h5⟩)) fun _ _ h' => h'.elim)) fun _ _ h' => h'.elim))
end
/-! ### the block's context -/
def cxC (X : Cx) (s : Shared) (H : Hp) (scope : Scope) (cl : List (Str × Addr)) (C : Addr) (N : List Str) (fp : List Addr) : Cx where
  prog := X.prog
  w := X.w
  K := X.K
  mg := X.mg
  base := X.base
  A := X.A
  N := N
  s₀ := s
  H₀ := H
  env := compEnvC scope cl C X.env
  outer := X.stack
  stack := X.stack
  ex := fp
  fn := fun x => scope.names.lookup x == some NameKind.cell
  calm := X.calm
  pn := []
  xe := fun _ _ => False
/-- slot i of the block is the outer slot, or the block's own -/
def seen (σ : St) (src : List (Option Nat)) : St := src.map fun o => match o with | some j => (σ[j]?).join | none => none
structure CompScope (X : Cx) (scope : Scope) (N : List Str) (src : List (Option Nat)) : Prop where
  kind : scope.kind = .function
  cells : ∀ y ∈ scope.names, y.2 = .cell → scope.names.lookup y.1 = some .cell
  own : ∀ y ∈ scope.names, y.2 = .local → scope.names.lookup y.1 = some .local
  has : ∀ x, (x, NameKind.free) ∈ scope.names → X.env.kindOf x = some .cell ∨ X.env.kindOf x = some .free
  len : src.length = N.length
  src : ∀ (i j : Nat) (x : Str), src[i]? = some (some j) → N[i]? = some x → X.N[j]? = some x ∧ (x, NameKind.free) ∈ scope.names ∧ scope.names.lookup x = some .free
theorem lookup_relabel_free {env : Env} : ∀ {names : List (Str × NameKind)} {x : Str}, names.lookup x = some .free →
    (names.map fun (n, k) => if (k == NameKind.free && env.scope.kind == .function && env.kindOf n == some .cell) then (n, NameKind.cell) else (n, k)).lookup x = some .cell ∨
    (names.map fun (n, k) => if (k == NameKind.free && env.scope.kind == .function && env.kindOf n == some .cell) then (n, NameKind.cell) else (n, k)).lookup x = some .free
  | [], _, h => by simp at h
  | (n, k) :: r, x, h => by
    have ih := @lookup_relabel_free env r x
    show List.lookup x ((if (k == NameKind.free && env.scope.kind == .function && env.kindOf n == some .cell) = true then (n, NameKind.cell) else (n, k)) :: _) = _ ∨ List.lookup x ((if (k == NameKind.free && env.scope.kind == .function && env.kindOf n == some .cell) = true then (n, NameKind.cell) else (n, k)) :: _) = _
    cases hx : x == n with
    | true =>
      simp only [List.lookup_cons, hx] at h
      cases h
      by_cases hc : (NameKind.free == NameKind.free && env.scope.kind == .function && env.kindOf n == some .cell) = true
      · rw [if_pos hc]; left; simp only [List.lookup_cons, hx]
      · rw [if_neg hc]; right; simp only [List.lookup_cons, hx]
    | false =>
      simp only [List.lookup_cons, hx] at h
      by_cases hc : (k == NameKind.free && env.scope.kind == .function && env.kindOf n == some .cell) = true
      · rw [if_pos hc]; simp only [List.lookup_cons, hx]; exact ih h
      · rw [if_neg hc]; simp only [List.lookup_cons, hx]; exact ih h
/-- a cell or a free name of the block was free in it -/
theorem relabel_cell {env : Env} : ∀ {names : List (Str × NameKind)} {x : Str},
    ((names.map fun (n, k) => if (k == NameKind.free && env.scope.kind == .function && env.kindOf n == some .cell) then (n, NameKind.cell) else (n, k)).lookup x = some .cell ∨
    (names.map fun (n, k) => if (k == NameKind.free && env.scope.kind == .function && env.kindOf n == some .cell) then (n, NameKind.cell) else (n, k)).lookup x = some .free) → (x, NameKind.free) ∈ names ∨ (x, NameKind.cell) ∈ names
  | [], _, h => by simp at h
  | (n, k) :: r, x, h => by
    have ih := @relabel_cell env r x
    change List.lookup x ((if (k == NameKind.free && env.scope.kind == .function && env.kindOf n == some .cell) = true then (n, NameKind.cell) else (n, k)) :: _) = _ ∨ List.lookup x ((if (k == NameKind.free && env.scope.kind == .function && env.kindOf n == some .cell) = true then (n, NameKind.cell) else (n, k)) :: _) = _ at h
    cases hx : x == n with
    | true =>
      have e : x = n := by simpa using hx
      by_cases hc : (k == NameKind.free && env.scope.kind == .function && env.kindOf n == some .cell) = true
      · have hk : k = .free := by
          simp only [Bool.and_eq_true, beq_iff_eq] at hc
          exact hc.1.1
        rw [e, hk]; exact .inl (List.mem_cons_self ..)
      · rw [if_neg hc] at h
        simp only [List.lookup_cons, hx, Option.some.injEq] at h
        rcases h with h | h
        · rw [e, h]; exact .inr (List.mem_cons_self ..)
        · rw [e, h]; exact .inl (List.mem_cons_self ..)
    | false =>
      by_cases hc : (k == NameKind.free && env.scope.kind == .function && env.kindOf n == some .cell) = true
      · rw [if_pos hc] at h; simp only [List.lookup_cons, hx] at h; exact (ih h).imp (List.mem_cons_of_mem _) (List.mem_cons_of_mem _)
      · rw [if_neg hc] at h; simp only [List.lookup_cons, hx] at h; exact (ih h).imp (List.mem_cons_of_mem _) (List.mem_cons_of_mem _)
def Weak (σ σ2 : St) : Prop := σ2.length = σ.length ∧ ∀ (i : Nat) (v : V), σ[i]? = some (some v) → σ2[i]? = some (some v)
theorem Weak.refl (σ : St) : Weak σ σ := ⟨rfl, fun _ _ h => h⟩
theorem Weak.set {σ : St} {i : Nat} {o : Option V} (h : ∀ v, σ[i]? ≠ some (some v)) : Weak σ (σ.set i o) := ⟨by simp, fun j v e => by
  have : i ≠ j := fun z => h v (z ▸ e)
  rw [List.getElem?_set_ne this]
  exact e⟩
/-- the tests -/
def PIf (X : Cx) (ifs : List Expr) (t : TT) : Prop := ∀ (pins : List (Addr × Obj)) (s : Shared) (σ : St) (H : Hp) (Q : Bool → Hp → Prop), Inv X pins σ H s → t σ H Q →
  wpAny (model X.prog X.w) X.A (forIn ifs true fun c r => if r = true then do let ok ← isTrue c X.env (eval c X.env); pure (ForInStep.yield ok) else pure (ForInStep.yield r)) (TP X pins σ Q) X.xe s
def tYes : TT := fun _ H Q => Q true H
theorem pif_nil {X : Cx} : PIf X [] tYes := fun _ _ _ H _ I h => wpAny_tests_nil ⟨H, I, h⟩
theorem pif_one {X : Cx} {c : Expr} {t : TT} (h : PT X c t) : PIf X [c] t := fun pins s σ H Q I q => wpAny_tests_one (h pins s σ H Q I q)
def tComp (src : List (Option Nat)) (wi : TI) (g : TG) (tc : TT) (te : TE) : TE := fun σ H Q => wi σ H fun J H1 => ∃ W : Nat → Nat → List V → Hp → Prop, (∃ m, W 0 m [] H1) ∧ ∀ i m ys H2, W i m ys H2 →
  (J.stop i H2 ∧ ys.length ≤ sizeLine ∧ ∀ p, H2 p = none → Q (.ref p) (upd H2 p (.lst ys))) ∨
  (J.go i H2 ∧ ∀ x H3, J.yld i H2 x H3 → g x (seen σ src) H3 fun σ2 H4 => Weak (seen σ src) σ2 ∧ tc σ2 H4 fun b H5 =>
    if b = true then te σ2 H5 fun y H6 => ys.length < sizeLine ∧ ∃ m', m' < m ∧ W (i + 1) m' (ys ++ [y]) H6 else ∃ m', m' < m ∧ W (i + 1) m' ys H5)
theorem cellsFrom_app : ∀ (names : List (Str × NameKind)) (n : Nat) (acc : List (Str × Addr)), cellsFrom n names acc = cellsFrom n names [] ++ acc
  | [], _, acc => rfl
  | (x, k) :: r, n, acc => by
    unfold cellsFrom
    split
    · rw [cellsFrom_app r (n + 1) ((x, n) :: acc), cellsFrom_app r (n + 1) [(x, n)], List.append_assoc]
      rfl
    · exact cellsFrom_app r n acc
theorem cellsFrom_mem : ∀ (names : List (Str × NameKind)) (n : Nat) (acc : List (Str × Addr)) (x : Str) (c : Addr), (x, c) ∈ cellsFrom n names acc → (x, c) ∈ acc ∨ (x, NameKind.cell) ∈ names
  | [], _, _, _, _, h => .inl h
  | (y, k) :: r, n, acc, x, c, h => by
    unfold cellsFrom at h
    split at h
    · rename_i hk
      have hk' : k = .cell := by simpa using hk
      rcases cellsFrom_mem r _ _ x c h with z | z
      · rcases List.mem_cons.mp z with z | z
        · cases z
          exact .inr (hk' ▸ List.mem_cons_self ..)
        · exact .inl z
      · exact .inr (List.mem_cons_of_mem _ z)
    · rcases cellsFrom_mem r _ _ x c h with z | z
      · exact .inl z
      · exact .inr (List.mem_cons_of_mem _ z)
theorem new_around {M : Model} {A : Around} {E : Value → Shared → Prop} {s : Shared} {scope : Scope} {globals : Addr} {cl : List (Str × Addr)} {qual : Str} {env : Env} {Q : Env → Shared → Prop}
    (h : ∀ h', h'.Ns s.heap.objs.size (fun _ => none) → (∀ b o, s.heap.get? b = some o → h'.get? b = some o) → CellsOk h' (s.heap.objs.size + 1) (cellsFrom (s.heap.objs.size + 1) scope.names []) →
      Q { scope, locals := s.heap.objs.size, globals, cells := cellsFrom (s.heap.objs.size + 1) scope.names [] ++ cl, qual, func := none, code := env.code, frame := env.frame, builtins := env.builtins } { s with heap := h' }) :
    wpAny M A (newFunctionEnv scope globals cl [] qual none .none (some env)) Q E s := by
  simp only [newFunctionEnv, Option.isSome_some, if_true]
  refine wpAny_bind (wpAny_alloc ?_)
  refine wpAny_bind (wpAny_layCells _ (fun name kind cells => by cases hkc : kind == NameKind.cell <;> simp [hkc]) _ _ _ _ ?_)
  have ok := cellsFrom_ok scope.names (s.heap.push { cls := .type "dict", data := .dict #[] }) (s.heap.objs.size + 1) [] ⟨fun _ _ hm => (nomatch hm), List.Pairwise.nil⟩ (by rw [Heap.size_push]; exact Nat.le_refl _)
  rw [Heap.size_push] at ok
  rw [show ({ s with heap := s.heap.push { cls := .type "dict", data := .dict #[] } } : Shared).heap.objs.size = s.heap.objs.size + 1 from Heap.size_push .., cellsFrom_app]
  rw [List.forIn_nil]
  exact wpAny_bind (wpAny_pure (wpAny_pure (h _ ((Heap.Ns.new s.heap (.type "dict")).keeps (pushCells_keeps _ _)) (fun b o e => pushCells_keeps _ _ b o (Heap.get?_push_of_some _ e)) ok)))
/-- a comprehension, whatever is done with its list -/
theorem comp_core {X : Cx} {elt tg iter : Expr} {ifs : List Expr} {scope : Scope} {pos pos2 : Pos} {N : List Str} {src : List (Option Nat)} {wi : TI} {g : TG} {tc : TT} {te : TE} {use : Option (Value → Sem Unit)} {Post : Value → Shared → Prop} {pins : List (Addr × Obj)} {s : Shared} {σ : St} {H : Hp} {Q : VK}
    (hc : X.calm = true) (S : CompScope X scope N src) (hi : PI X tg iter wi)
    (hg : ∀ s H cl C fp, PG (cxC X s H scope cl C N fp) tg g) (hf : ∀ s H cl C fp, PIf (cxC X s H scope cl C N fp) ifs tc) (he : ∀ s H cl C fp, PE (cxC X s H scope cl C N fp) elt te)
    (hs : ∀ x, foldedSetIterable iter X.env x = pure x) (I : Inv X pins σ H s) (h : tComp src wi g tc te σ H Q)
    (fin : ∀ (C a : Addr) (H1 : Hp) (s' : Shared), (∀ h', Heap.SameBut C s'.heap h' → Inv X pins σ H1 { s' with heap := h' }) → FpOk X pins H1 C → (∃ m, s'.heap.Ns C m) → Q (.ref a) H1 → compPost (model X.prog X.w) X.A X.xe use Post (.ref a) C (.ok .next) s') :
    wpAny (model X.prog X.w) X.A (comprehension (.ListComp elt [⟨tg, iter, ifs, 0⟩] scope pos) scope X.env pos2 (newList []) false (eval iter X.env) use) Post X.xe s := by
  obtain ⟨cl, hcl, cl1, cl2⟩ := closure_of (scope := scope) (env := X.env) (fun x hx => I.ok.has x (S.has x hx))
  refine wpAny_comprehension_free (use := use) rfl hs hcl S.kind S.own (thn (hi pins s σ H _ I h) fun v s1 h1 => thn h1 fun itv s2 h2 => ?_)
  obtain ⟨it, fp, tn, J, H2, rfl, I2, T, st2, f2, W, ⟨m0, w0⟩, turn⟩ := h2
  refine wpAny_newObj_type (new_around fun h3 hns hsb cok => ?_)
  dsimp only at hns hsb cok ⊢
  generalize hHd : s2.heap.push { cls := .type "list", dict := none, data := .seq ([] : List Value).toArray } = Hd at hns hsb cok ⊢
  have hCs : Hd.objs.size = s2.heap.objs.size + 1 := by rw [← hHd, Heap.size_push]
  have hDC : s2.heap.objs.size ≠ Hd.objs.size := by rw [hCs]; exact Nat.ne_of_lt (Nat.lt_succ_self _)
  have below : ∀ b, b < s2.heap.objs.size → b ≠ Hd.objs.size ∧ b ≠ s2.heap.objs.size := fun b hb => ⟨by rw [hCs]; exact Nat.ne_of_lt (Nat.lt_succ_of_lt hb), Nat.ne_of_lt hb⟩
  have old : ∀ b o, s2.heap.get? b = some o → h3.get? b = some o := fun b o e => hsb b o (hHd ▸ Heap.get?_push_of_some _ e)
  have hacc : h3.get? s2.heap.objs.size = some { cls := .type "list", dict := none, data := .seq ([] : List Value).toArray } := hsb _ _ (hHd ▸ Heap.get?_push_size _ rfl)
  have fpObj := T.obj 0 _ st2
  have fpLt : ∀ b ∈ fp, b < s2.heap.objs.size := fun b hb => by
    obtain ⟨o, e, _⟩ := fpObj b hb
    exact Heap.lt_size e
  generalize hown : cellsFrom (Hd.objs.size + 1) scope.names [] = own at cok ⊢
  have ownC : ∀ x c, (x, c) ∈ own → scope.names.lookup x = some .cell := fun x c hm => by
    rw [← hown] at hm
    rcases cellsFrom_mem _ _ _ _ _ hm with z | z
    · exact nomatch z
    · exact S.cells _ z rfl
  have two : ∀ x c, (own ++ cl).lookup x = some c → (cl.lookup x = some c ∧ c < s2.heap.objs.size) ∨ ((x, c) ∈ own ∧ h3.IsCell c none ∧ Hd.objs.size < c) := fun x c e => by
    rw [List.lookup_append] at e
    cases ho : own.lookup x with
    | none =>
      rw [ho, Option.none_or] at e
      obtain ⟨v, q⟩ := I2.cell x c (cl1 x c e)
      exact .inl ⟨e, q.lt⟩
    | some c' =>
      rw [ho, Option.some_or] at e
      cases e
      have hm := mem_of_lookup ho
      exact .inr ⟨hm, (cok.empty x c hm).1, (cok.empty x c hm).2⟩
  have cellNe : ∀ x c, (own ++ cl).lookup x = some c → c ≠ s2.heap.objs.size ∧ ∀ b ∈ fp, c ≠ b := fun x c e => by
    rcases two x c e with ⟨e, lt⟩ | ⟨_, _, lt⟩
    · exact ⟨Nat.ne_of_lt lt, fun b hb => (f2 b hb).2.2.2.2.1 x c (cl1 x c e)⟩
    · rw [hCs] at lt
      exact ⟨Nat.ne_of_gt (Nat.lt_trans (Nat.lt_succ_self _) lt), fun b hb => Nat.ne_of_gt (Nat.lt_trans (fpLt b hb) (Nat.lt_trans (Nat.lt_succ_self _) lt))⟩
  have fresh : ∀ a, s2.heap.objs.size ≤ a → s2.heap.get? a = none := fun a ha => by
    cases e : s2.heap.get? a with
    | none => rfl
    | some o' => exact absurd (Heap.lt_size e) (Nat.not_lt.mpr ha)
  -- the context
  have okY : (cxC X s2 H2 scope (own ++ cl) Hd.objs.size N fp).Ok := by
    refine ⟨I2.ok.mod, S.kind, I2.ok.glob, I2.ok.blt, ?_, ?_, ?_, ?_, fun hcc => I2.ok.hd hcc, I2.ok.frames, .inl rfl, fun b hb => ⟨(below b (fpLt b hb)).1, fun x c e => (cellNe x c e).2 b hb⟩,
      I2.bs, Nat.le_trans I2.ok.bsz I2.sz, fun b o e hb => ?_, fun b hb z => (List.mem_cons.mp (I2.stkSub b z)).elim (f2 b hb).2.1 (f2 b hb).2.2.1, I2.stack, I2.stkFree⟩
    · show s2.heap.objs.size ≤ Hd.objs.size
      rw [hCs]; exact Nat.le_succ _
    · intro x y c e1 e2
      rcases two x c e1 with ⟨e1, l1⟩ | ⟨m1, _, l1⟩ <;> rcases two y c e2 with ⟨e2, l2⟩ | ⟨m2, _, l2⟩
      · exact I2.ok.inj x y c (cl1 x c e1) (cl1 y c e2)
      · rw [hCs] at l2; exact absurd (Nat.lt_trans l1 (Nat.lt_trans (Nat.lt_succ_self _) l2)) (Nat.lt_irrefl _)
      · rw [hCs] at l1; exact absurd (Nat.lt_trans l2 (Nat.lt_trans (Nat.lt_succ_self _) l1)) (Nat.lt_irrefl _)
      · exact name_of_addr cok.apart m1 m2
    · intro x hx
      show ∃ c, (own ++ cl).lookup x = some c
      rw [List.lookup_append]
      cases ho : own.lookup x with
      | some c => exact ⟨c, rfl⟩
      | none =>
        rw [Option.none_or]
        rcases relabel_cell hx with z | z
        · exact cl2 x z
        · have := PySem.W.cellsFrom_some scope.names (Hd.objs.size + 1) [] (.inl (S.cells _ z rfl))
          rw [hown, ho] at this
          cases this
    · intro x c hf e
      have hf' : scope.names.lookup x = some .cell := by simpa [cxC] using hf
      have := PySem.W.cellsFrom_some scope.names (Hd.objs.size + 1) [] (.inl hf')
      rw [hown] at this
      obtain ⟨c', ho⟩ := Option.isSome_iff_exists.mp this
      have e' : (own ++ cl).lookup x = some c := e
      rw [List.lookup_append, ho, Option.some_or] at e'
      cases e'
      have := (cok.empty x c (mem_of_lookup ho)).2
      show s2.heap.objs.size ≤ c
      rw [hCs] at this
      omega
    · rcases (f2 b hb).2.2.2.1 with z | z
      · exact I2.ok.noex b o e z
      · exact absurd (Nat.lt_of_lt_of_le (Heap.lt_size e) (Nat.le_trans I2.ok.bsz z)) (Nat.lt_irrefl _)
  have IY : Inv (cxC X s2 H2 scope (own ++ cl) Hd.objs.size N fp) [] (seen σ src) H2 { s2 with heap := h3 } := by
    refine ⟨okY, rfl, I2.bare, Un.kept old, ⟨_, hns, fun i x v e1 e2 _ => ?_⟩, fun x c e => ?_, I2.hok.fresh (by show s2.heap.objs.size ≤ Hd.objs.size; rw [hCs]; exact Nat.le_succ _), ?_, fun p hp => (nomatch hp), I2.hok.kept old, ?_⟩
    · unfold seen at e2
      rw [List.getElem?_map] at e2
      cases hsr : src[i]? with
      | none => rw [hsr] at e2; cases e2
      | some oj =>
        rw [hsr] at e2
        cases oj with
        | none => cases e2
        | some j =>
          obtain ⟨hN, hfr, hlk⟩ := S.src i j x hsr e1
          have e3 : σ[j]? = some (some v) := by
            have : (σ[j]?).join = some v := Option.some.inj e2
            cases hj : σ[j]? with
            | none => rw [hj] at this; cases this
            | some o => rw [hj] at this; cases this; rfl
          have hk := S.has x hfr
          have vis : Vis X.env.scope x := by
            rcases hk with z | z
            · exact .inr (.inl z)
            · exact .inr (.inr z)
          obtain ⟨m, hnm, hl⟩ := I2.loc
          obtain ⟨u, r, l⟩ := hl j x v hN e3 vis
          refine ⟨u, r, .inr ⟨lookup_relabel_free hlk, ?_⟩⟩
          rcases l with ⟨l1, _⟩ | ⟨_, c, ec, ic⟩
          · rcases hk with z | z <;> (rw [l1] at z; cases z)
          · obtain ⟨c', ec'⟩ := cl2 x hfr
            have := cl1 x c' ec'
            rw [ec] at this
            cases this
            obtain ⟨o, ho, hd⟩ := ic
            have hno : own.lookup x = none := by
              cases ho : own.lookup x with
              | none => rfl
              | some c2 =>
                have := ownC x c2 (mem_of_lookup ho)
                rw [hlk] at this
                cases this
            exact ⟨c, by show (own ++ cl).lookup x = some c; rw [List.lookup_append, hno, Option.none_or]; exact ec', o, old _ _ ho, hd⟩
    · rcases two x c e with ⟨e, _⟩ | ⟨_, q, _⟩
      · obtain ⟨v, o, ho, hd⟩ := I2.cell x c (cl1 x c e)
        exact ⟨v, o, old _ _ ho, hd⟩
      · exact ⟨none, q⟩
    · intro x c e
      rcases two x c e with ⟨e, _⟩ | ⟨_, _, lt⟩
      · exact I2.freeC x c (cl1 x c e)
      · exact I2.hok.fresh (by rw [hCs] at lt; omega)
    · show (seen σ src).length = N.length
      unfold seen
      rw [List.length_map, S.len]
  have dFs : s2.heap.objs.size ∉ frs X.stack := fun z => by
    obtain ⟨_, o, ho, _⟩ := I2.stack.mem z
    exact absurd (Heap.lt_size ho) (Nat.lt_irrefl _)
  have cFs : Hd.objs.size ∉ frs X.stack := fun z => by
    obtain ⟨_, o, ho, _⟩ := I2.stack.mem z
    have z2 := Heap.lt_size ho
    rw [hCs] at z2
    exact absurd z2 (Nat.not_lt.mpr (Nat.le_succ _))
  have stat : ∀ {H' : Hp} {pn : List (Addr × Obj)}, (∀ b ∈ fp, H' b = none) → (∀ p ∈ pn, p.1 = s2.heap.objs.size) → ∀ b ∈ fp, FpOk (cxC X s2 H2 scope (own ++ cl) Hd.objs.size N fp) pn H' b := fun hn hp b hb =>
    ⟨hn b hb, (below b (fpLt b hb)).1, okY.exfs b hb, .inl hb, fun x c e => (cellNe x c e).2 b hb, fun p q z => (below b (fpLt b hb)).2 (z ▸ hp p q)⟩
  have loop : ∀ sA : Shared, sA = { s2 with heap := h3 } →
      codeAny (model X.prog X.w) X.A (.compLoop (.ListComp elt [⟨tg, iter, ifs, 0⟩] scope pos) 0 (.ref it) (.ref s2.heap.objs.size) (compEnvC scope (own ++ cl) Hd.objs.size X.env))
        (compPost (model X.prog X.w) X.A X.xe use Post (.ref s2.heap.objs.size) Hd.objs.size) sA := by
    rintro sA rfl
    refine compLoop_any (fun n s' => ∃ (i : Nat) (ys : List V) (its : List Value) (k : Nat) (σ3 : St) (H3 : Hp), Inv (cxC X s2 H2 scope (own ++ cl) Hd.objs.size N fp) [] σ3 H3 s' ∧ Weak (seen σ src) σ3 ∧ tn i s'.heap ∧ (∀ b ∈ fp, H3 b = none) ∧ W i n ys H3 ∧
        s'.heap.get? s2.heap.objs.size = some { cls := .type "list", data := .seq its.toArray k } ∧ Vals ys its ∧ H3 s2.heap.objs.size = none) ?_ m0
      ⟨0, [], [], 0, _, H2, IY, Weak.refl _, T.keep 0 _ _ st2 (fun b hb o e => old b o e), fun b hb => (f2 b hb).1, w0, hacc, .nil, I2.fresh⟩
    rintro n s3 ⟨i, ys, its, k, σ3, H3, I3, wk, st3, fr3, w3, hD, rv, nD⟩
    have I4 : Inv (cxC X s2 H2 scope (own ++ cl) Hd.objs.size N fp) [] (seen σ src) H3 s3 := I3.weak wk.1.symm wk.2
    have I5 : Inv (cxC X s2 H2 scope (own ++ cl) Hd.objs.size N fp) [(s2.heap.objs.size, { cls := .type "list", data := .seq its.toArray k })] (seen σ src) H3 s3 := I4.pins_of fun p hp => by
      cases List.mem_singleton.mp hp
      exact ⟨hD, nD, hDC, dFs, fun v z => nomatch z⟩
    have one : ∀ p ∈ [((s2.heap.objs.size, { cls := .type "list", data := .seq its.toArray k }) : Addr × Obj)], p.1 = s2.heap.objs.size := fun p hp => by
      cases List.mem_singleton.mp hp
      rfl
    rcases turn i n ys H3 w3 with ⟨stop, hlen, q⟩ | ⟨go, step⟩
    · refine thn (T.done (cxC X s2 H2 scope (own ++ cl) Hd.objs.size N fp) rfl rfl rfl hc i _ s3 _ H3 _ I5 (stat fr3 one) st3 stop) fun r s4 ⟨hr, I6⟩ => ?_
      subst hr
      have hD4 := (I6.pin _ (List.mem_append_right _ (List.mem_singleton.mpr rfl))).1
      obtain ⟨m, hn4, _⟩ := I6.loc
      refine fin Hd.objs.size s2.heap.objs.size (upd H3 s2.heap.objs.size (.lst ys)) s4 (fun h' hsb' => ?_) (I2.fpOk (by rw [hCs]; exact Nat.le_succ _) (by rw [upd_ne (Ne.symm hDC)]; exact I6.free)) ⟨m, hn4⟩ (q _ nD)
      have kp : ∀ b o, b ≠ Hd.objs.size → s4.heap.get? b = some o → h'.get? b = some o := fun b o hb e => (hsb'.2 b hb).trans e
      have neC : ∀ b o, s2.heap.get? b = some o → b ≠ Hd.objs.size := fun b o e => (below b (Heap.lt_size e)).1
      have un : Un (frs X.stack) fp H2 H3 s2.heap h' := by
        have u0 : Un (frs X.stack) fp H2 H3 s2.heap s4.heap := I6.base
        refine ⟨fun b o e n' hb hx => kp b o (neC b o e) (u0.keep b o e n' hb hx), fun b o e n' hb hx => ?_, u0.free, fun b o e hx => ?_, u0.tups, u0.frzs, u0.tbls⟩
        · obtain ⟨sl, e1⟩ := u0.slot b o e n' hb hx
          exact ⟨sl, kp b _ (neC b o e) e1⟩
        · obtain ⟨o', e1⟩ := u0.there b o e hx
          exact ⟨o', kp b o' (neC b o e) e1⟩
      have nC : H3 Hd.objs.size = none := I6.free
      have hok : HOk X.prog X.w H3 h' := fun a o e => (I6.hok a o e).stay (fun b u hb q' => kp b u (fun z => by
        rcases hb with rfl | hb
        · rw [z, nC] at e; cases e
        · rw [z, nC] at hb; cases hb) q') (fun _ q' => q') fun _ _ q' => q'
      have I7 : Inv X pins σ H3 { s4 with heap := h' } := I2.call' (s' := { s4 with heap := h' }) I6.os un hok I6.bare (fun b hb => ⟨(f2 b hb).2.2.2.1, (f2 b hb).2.1, (f2 b hb).2.2.2.2.1, (f2 b hb).2.2.2.2.2⟩)
      have e0 : X.s₀.heap.get? s2.heap.objs.size = none := by
        cases e : X.s₀.heap.get? s2.heap.objs.size with
        | none => rfl
        | some o => exact absurd (Nat.lt_of_lt_of_le (Heap.lt_size e) I2.sz) (Nat.lt_irrefl _)
      have I8 : Inv X pins σ (upd H3 s2.heap.objs.size (.lst ys)) { s4 with heap := h' } := I7.track nD e0 (fun z => Nat.lt_irrefl _ (z ▸ I2.lt)) (fun x c e z => by
        obtain ⟨v, q'⟩ := I2.cell x c e
        exact Nat.lt_irrefl _ (z ▸ q'.lt)) (fun p hp z => Nat.lt_irrefl _ (z ▸ Heap.lt_size (I2.pin p hp).1)) ⟨hlen, its, k, rv, kp _ _ hDC hD4⟩
      exact I8
    · refine thn (T.item (cxC X s2 H2 scope (own ++ cl) Hd.objs.size N fp) rfl rfl rfl hc i _ s3 _ H3 _ I5 (stat fr3 one) st3 go) fun r s4 ⟨u, hr, h4⟩ => ?_
      subst hr
      refine thn h4 fun _ s5 ⟨x, H5, I6, r5, y5, st5, fr5⟩ => ?_
      have I6' := I6.pinned (stat fr5 one) (T.obj _ _ st5)
      refine thn (hg _ _ _ _ _ _ s5 _ H5 x u _ I6' r5 (step x H5 y5)) fun _ s6 ⟨σ6, H6, I7, wk6, q6⟩ => ?_
      refine thn (hf _ _ _ _ _ _ s6 σ6 H6 _ I7 q6) fun ok s7 ⟨H7, I8, q7⟩ => ?_
      have back : ∀ {σ' : St} {H' : Hp} {s' : Shared}, Inv (cxC X s2 H2 scope (own ++ cl) Hd.objs.size N fp) ([(s2.heap.objs.size, { cls := .type "list", data := .seq its.toArray k })] ++ pinsAt fp s5.heap) σ' H' s' →
          tn (i + 1) s'.heap ∧ (∀ b ∈ fp, H' b = none) ∧ s'.heap.get? s2.heap.objs.size = some { cls := .type "list", data := .seq its.toArray k } ∧ H' s2.heap.objs.size = none := fun {σ' H' s'} J => by
        have jD := J.pin (s2.heap.objs.size, { cls := .type "list", data := .seq its.toArray k }) (by simp)
        refine ⟨T.keep _ _ _ st5 fun b hb o e => (J.pin (b, o) (List.mem_append_right _ (List.mem_append_right _ (mem_pinsAt hb e)))).1, fun b hb => ?_, jD.1, jD.2.1⟩
        obtain ⟨o, e, d⟩ := T.obj _ _ st5 b hb
        exact (J.pin (b, o) (List.mem_append_right _ (List.mem_append_right _ (mem_pinsAt hb e)))).2.1
      cases ok with
      | false =>
        rw [if_neg Bool.false_ne_true] at q7
        rw [if_neg Bool.false_ne_true]
        obtain ⟨m', hm, w'⟩ := q7
        obtain ⟨b1, b2, b3, b4⟩ := back I8
        exact ⟨m', hm, i + 1, ys, its, k, σ6, H7, I8.nopins, wk6, b1, b2, w', b3, rv, b4⟩
      | true =>
        rw [if_pos rfl] at q7
        rw [if_pos rfl]
        refine thn (he _ _ _ _ _ _ s7 σ6 H7 _ I8 q7) fun u2 s8 ⟨y, H8, I9, r9, hlt, m', hm, w'⟩ => ?_
        obtain ⟨b1, b2, b3, b4⟩ := back I9
        have hl := rv.length
        refine call_meets F.slot_list_append ⟨_, b3, rfl⟩ F.entry_list_append (F.args_list_append_2 _ _) (PySem.list_append s2.heap.objs.size its.toArray k u2 (by rw [List.size_toArray]; omega)) ⟨b3, ?_⟩
        have qu := PySem.IsL.update b3 (·.push u2)
        rw [show its.toArray.push u2 = (its ++ [u2]).toArray by simp] at qu
        refine ⟨m', hm, i + 1, ys ++ [y], its ++ [u2], _, σ6, H8, ?_, wk6, ?_, b2, w', qu, rv.append (.cons r9 .nil), b4⟩
        · exact I9.nopins.turned (it := s2.heap.objs.size) (fun b o hb e => (Heap.get?_update_other s8.heap (Obj.mapSeq _) (Ne.symm hb)).trans e) b4 hDC (.inr (Nat.le_refl _)) (fun x c e z => (cellNe x c e).1 z) (fun p hp => nomatch hp)
        · exact T.keep _ _ _ b1 fun b hb o e => (Heap.get?_update_other s8.heap (Obj.mapSeq _) ((below b (fpLt b hb)).2.symm)).trans e
  exact codeAny_compStart_list (loop _ rfl) (T.self _ 0 _ _ _ (T.keep 0 _ _ st2 (fun b hb o e => old b o e)) (loop _ rfl))
theorem pe_comp {X : Cx} {elt tg iter : Expr} {ifs : List Expr} {scope : Scope} {pos : Pos} {N : List Str} {src : List (Option Nat)} {wi : TI} {g : TG} {tc : TT} {te : TE} (hc : X.calm = true) (S : CompScope X scope N src) (hi : PI X tg iter wi)
    (hg : ∀ s H cl C fp, PG (cxC X s H scope cl C N fp) tg g) (hf : ∀ s H cl C fp, PIf (cxC X s H scope cl C N fp) ifs tc) (he : ∀ s H cl C fp, PE (cxC X s H scope cl C N fp) elt te)
    (hs : ∀ x, foldedSetIterable iter X.env x = pure x := by intro _; rfl) : PE X (.ListComp elt [⟨tg, iter, ifs, 0⟩] scope pos) (tComp src wi g tc te) := by
  intro pins s σ H Q I h
  rw [eval_ListComp]
  refine comp_core (use := none) hc S hi hg hf he hs I h fun C a H1 s' key _ ⟨m, hn⟩ q => ⟨m, hn, fun h' sb => ⟨.ref a, H1, key h' sb, rfl, q⟩⟩
/-- x = [.. for ..], x a local name on the same row: stored before the block's names are let go -/
theorem ps_setComp {X : Cx} {elt tg iter : Expr} {ifs : List Expr} {scope : Scope} {pos spos pos' : Pos} {x : Str} {i : Nat} {N : List Str} {src : List (Option Nat)} {wi : TI} {g : TG} {tc : TT} {te : TE} (hc : X.calm = true) (S : CompScope X scope N src) (hi : PI X tg iter wi)
    (hg : ∀ s H cl C fp, PG (cxC X s H scope cl C N fp) tg g) (hf : ∀ s H cl C fp, PIf (cxC X s H scope cl C N fp) ifs tc) (he : ∀ s H cl C fp, PE (cxC X s H scope cl C N fp) elt te) (ht : PG X (.Name x pos') (gName i))
    (hsw : swapsWith (.ListComp elt [⟨tg, iter, ifs, 0⟩] scope pos) (some (.Name x pos')) spos.line X.env = pure true := by rfl)
    (hs : ∀ x, foldedSetIterable iter X.env x = pure x := by intro _; rfl) : PS X (.Assign [.Name x pos'] (.ListComp elt [⟨tg, iter, ifs, 0⟩] scope pos) spos) (tAsg (tComp src wi g tc te) (gName i)) := by
  intro pins s σ H D I h
  rw [exec_Assign_Name_used _ _ _ _ hsw]
  refine wpAny_bind (wpAny_standAt (wpAny_bind ?_))
  rw [arm_evalThenUse_ListComp]
  refine wpAny_bind ?_
  refine comp_core (use := some (assign (.Name x pos') X.env)) hc S hi hg hf he hs I h fun C a H1 s' key fp ⟨m, o, es, ep, ho, hd, hk⟩ q => ?_
  have I1 : Inv X pins σ H1 s' := key s'.heap (Heap.SameBut.refl _ _)
  have I2 := I1.pinned (fp := [C]) (fun b hb => by rw [List.mem_singleton.mp hb]; exact fp) (fun b hb => by rw [List.mem_singleton.mp hb]; exact ⟨o, ho, fun v z => by rw [hd] at z; cases z⟩)
  refine thn (ht _ s' σ H1 (.ref a) (.ref a) _ I2 rfl q) fun _ s5 ⟨σ5, H5, I5, q5⟩ => ?_
  have pC := I5.pin (C, o) (List.mem_append_right _ (List.mem_append_right _ (mem_pinsAt (List.mem_singleton.mpr rfl) ho)))
  obtain ⟨f0, f1, f2, f3, f4, f5⟩ := fp
  refine ⟨m, ⟨o, es, ep, pC.1, hd, hk⟩, fun h' sb => ?_⟩
  exact wpAny_pure (wpAny_pure ⟨σ5, H5, I5.unpinned.turned (it := C) (t' := s5.toks) (fun b o' hb e => (sb.2 b hb).trans e) pC.2.1 f1 f3 f4 f5, q5⟩)
/-! ### a scope that is written -/
def compOkB (osc sc : Scope) (oN N : List Str) (src : List (Option Nat)) : Bool :=
  sc.names.all (fun y => decide (y.2 ≠ .cell) || decide (sc.names.lookup y.1 = some .cell)) && sc.names.all (fun y => decide (y.2 ≠ .local) || decide (sc.names.lookup y.1 = some .local)) &&
  sc.names.all (fun y => decide (y.2 ≠ .free) || decide (osc.names.lookup y.1 = some .cell) || decide (osc.names.lookup y.1 = some .free)) && decide (src.length = N.length) &&
  (List.range src.length).all (fun i => match src[i]?, N[i]? with | some (some j), some x => decide (oN[j]? = some x) && decide ((x, NameKind.free) ∈ sc.names) && decide (sc.names.lookup x = some .free) | _, _ => true)
theorem comp_scope {X : Cx} {scope : Scope} {N : List Str} {src : List (Option Nat)} (osc : Scope) (oN : List Str) (e1 : X.env.scope = osc) (e2 : X.N = oN) (c : compOkB osc scope oN N src = true) (k : scope.kind = .function) : CompScope X scope N src := by
  unfold compOkB at c
  simp only [Bool.and_eq_true, List.all_eq_true, decide_eq_true_eq, Bool.or_eq_true] at c
  obtain ⟨⟨⟨⟨c1, c2⟩, c3⟩, c4⟩, c5⟩ := c
  refine ⟨k, fun y hy e => (c1 y hy).resolve_left fun z => z e, fun y hy e => ?_, fun x hx => ?_, c4, fun i j x h1 h2 => ?_⟩
  · rcases c2 y hy with z | z
    · exact absurd e z
    · exact z
  · show X.env.scope.names.lookup x = _ ∨ X.env.scope.names.lookup x = _
    rw [e1]
    rcases c3 (x, .free) hx with (z | z) | z
    · exact absurd rfl z
    · exact .inl z
    · exact .inr z
  · have hi : i < src.length := (List.getElem?_eq_some_iff.mp h1).1
    have z := c5 i (List.mem_range.mpr hi)
    rw [h1, h2] at z
    simp only [Bool.and_eq_true, decide_eq_true_eq] at z
    rw [e2]
    exact ⟨z.1.1, z.1.2, z.2⟩
end L2
/-! EvMore: data read off the abstract heap and compared, any, all; promises of defs in bundles. Behind EvComp. -/
namespace L2
open PySem PySem.Spec PyProof.Rows
/-! ### data -/
mutual
def IsD (K : PySem.W.Frag) (H : Hp) : PyData → V → Prop
  | .none, v => v = .non
  | .bool b, v => v = .bl b
  | .int i, v => v = .int i
  | .str x, v => v = .str x
  | .list ds, v => ∃ a xs, v = .ref a ∧ SqL K H a xs ∧ IsDs K H ds xs
  | .tuple ds, v => ∃ a xs, v = .ref a ∧ SqT K H a xs ∧ IsDs K H ds xs
  | .dict _, _ => False
def IsDs (K : PySem.W.Frag) (H : Hp) : List PyData → List V → Prop
  | [], xs => xs = []
  | d :: ds, xs => ∃ x r, xs = x :: r ∧ IsD K H d x ∧ IsDs K H ds r
end
theorem isTup_reads {h : Heap} {a : Addr} {its : Array Value} (t : IsTup h a its) : ∃ o n, h.get? a = some o ∧ o.cls = .type "tuple" ∧ o.data = .seq its n := by
  obtain ⟨o, ho, hc, n, hd⟩ := t
  exact ⟨o, n, ho, hc, hd⟩
section
variable {X : Cx} {pins : List (Addr × Obj)} {σ : St} {H : Hp} {s : Shared}
mutual
theorem IsD.reads (I : Inv X pins σ H s) : ∀ (d : PyData) {v : V} {u : Value}, IsD X.K H d v → RelV v u → ∃ as, Reads s.heap u d as
  | .none, v, u, h, r => by
    simp only [IsD] at h; subst h
    cases (show u = .none from r); exact ⟨_, .none⟩
  | .bool b, v, u, h, r => by
    simp only [IsD] at h; subst h
    cases (show u = .bool b from r); exact ⟨_, .bool b⟩
  | .int i, v, u, h, r => by
    simp only [IsD] at h; subst h
    obtain ⟨t, rfl⟩ := r; exact ⟨_, .int i t⟩
  | .str x, v, u, h, r => by
    simp only [IsD] at h; subst h
    obtain ⟨t, rfl⟩ := r; exact ⟨_, .str x t⟩
  | .list ds, v, u, h, r => by
    simp only [IsD] at h
    obtain ⟨a, xs, rfl, hs, hd⟩ := h
    cases (show u = .ref a from r)
    obtain ⟨its, rv, p, _⟩ := I.list hs
    obtain ⟨o, ho, hc, n, hdd⟩ := p.isList
    obtain ⟨as, ra⟩ := IsDs.reads I ds hd rv
    exact ⟨_, .list ho hc hdd (by simpa using ra)⟩
  | .tuple ds, v, u, h, r => by
    simp only [IsD] at h
    obtain ⟨a, xs, rfl, hs, hd⟩ := h
    cases (show u = .ref a from r)
    obtain ⟨its, rv, p, _⟩ := I.tuple hs
    obtain ⟨o, n, ho, hc, hdd⟩ := isTup_reads p
    obtain ⟨as, ra⟩ := IsDs.reads I ds hd rv
    exact ⟨_, .tuple ho hc hdd (by simpa using ra)⟩
  | .dict _, v, u, h, r => by
    simp only [IsD] at h
theorem IsDs.reads (I : Inv X pins σ H s) : ∀ (ds : List PyData) {vs : List V} {us : List Value}, IsDs X.K H ds vs → Vals vs us → ∃ as, ReadsAll s.heap us ds as
  | [], vs, us, h, r => by
    simp only [IsDs] at h; subst h
    cases r; exact ⟨_, .nil⟩
  | d :: ds, vs, us, h, r => by
    simp only [IsDs] at h
    obtain ⟨x, rr, rfl, hx, hr⟩ := h
    cases r with
    | cons r1 r2 =>
      obtain ⟨as, ra⟩ := IsD.reads I d hx r1
      obtain ⟨bs, rb⟩ := IsDs.reads I ds hr r2
      exact ⟨_, .cons ra rb⟩
end
end
mutual
theorem IsD.imp {K : PySem.W.Frag} {H H' : Hp} (sl : ∀ a xs, SqL K H a xs → SqL K H' a xs) (st : ∀ a xs, SqT K H a xs → SqT K H' a xs) : ∀ (d : PyData) {v : V}, IsD K H d v → IsD K H' d v
  | .none, v, h => by simp only [IsD] at h ⊢; exact h
  | .bool b, v, h => by simp only [IsD] at h ⊢; exact h
  | .int i, v, h => by simp only [IsD] at h ⊢; exact h
  | .str x, v, h => by simp only [IsD] at h ⊢; exact h
  | .list ds, v, h => by
    simp only [IsD] at h ⊢
    obtain ⟨a, xs, e, hs, hd⟩ := h
    exact ⟨a, xs, e, sl a xs hs, IsDs.imp sl st ds hd⟩
  | .tuple ds, v, h => by
    simp only [IsD] at h ⊢
    obtain ⟨a, xs, e, hs, hd⟩ := h
    exact ⟨a, xs, e, st a xs hs, IsDs.imp sl st ds hd⟩
  | .dict _, v, h => by simp only [IsD] at h
theorem IsDs.imp {K : PySem.W.Frag} {H H' : Hp} (sl : ∀ a xs, SqL K H a xs → SqL K H' a xs) (st : ∀ a xs, SqT K H a xs → SqT K H' a xs) : ∀ (ds : List PyData) {vs : List V}, IsDs K H ds vs → IsDs K H' ds vs
  | [], vs, h => by simp only [IsDs] at h ⊢; exact h
  | d :: ds, vs, h => by
    simp only [IsDs] at h ⊢
    obtain ⟨x, r, e, hx, hr⟩ := h
    exact ⟨x, r, e, IsD.imp sl st d hx, IsDs.imp sl st ds hr⟩
end
/-! ### == and != of data -/
def rEqD (K : PySem.W.Frag) (neg : Bool) : R2 := fun x y H Q => ∃ da db, IsD K H da x ∧ IsD K H db y ∧ PySem.SeqAt.shaped da = true ∧ PySem.SeqAt.shaped db = true ∧ Q (.bl (if neg then !PyData.eqv da db else PyData.eqv da db)) H
theorem op_eqD {X : Cx} (hu : X.A.units + 64 < cLine) : OpR X (compareOp .Eq) (rEqD X.K false) := by
  intro pins s σ H x y v u Q I rx ry h
  obtain ⟨da, db, ha, hb, sa, sb, q⟩ := h
  obtain ⟨as, ra⟩ := IsD.reads I da ha rx
  obtain ⟨bs, rb⟩ := IsD.reads I db hb ry
  exact PySem.SeqAt.compareEq_shaped ra rb sa sb hu ⟨.bl _, H, I, rfl, q⟩
theorem op_neD {X : Cx} (hu : X.A.units + 64 < cLine) : OpR X (compareOp .NotEq) (rEqD X.K true) := by
  intro pins s σ H x y v u Q I rx ry h
  obtain ⟨da, db, ha, hb, sa, sb, q⟩ := h
  obtain ⟨as, ra⟩ := IsD.reads I da ha rx
  obtain ⟨bs, rb⟩ := IsD.reads I db hb ry
  exact PySem.SeqAt.compareNe_shaped ra rb sa sb hu ⟨.bl _, H, I, rfl, q⟩
/-! ### any, all -/
theorem bools_of : ∀ {bs : List Bool} {us : List Value}, Vals (bs.map V.bl) us → LSm.BoolsAre us bs
  | [], _, .nil => .nil
  | b :: bs, _, .cons h t => by
    cases (show _ = Value.bool b from h)
    exact .cons b (bools_of t)
theorem call_all {X : Cx} (hc : X.calm = true) : CallR X (.builtin "all") (fun xs H Q => ∃ (a : Addr) (bs : List Bool), xs = [.ref a] ∧ SqL X.K H a (bs.map V.bl) ∧ Q (.bl (bs.all id)) H) := by
  intro pins s σ H xs us Q I r h
  obtain ⟨a, bs, rfl, hS, q⟩ := h
  obtain ⟨u, rfl, ru⟩ := r.one
  cases (show u = Value.ref a from ru)
  obtain ⟨its, rv, p, _⟩ := I.list hS
  have hl := p.isList
  have hb := bools_of rv
  have hlt : a < s.heap.objs.size := by obtain ⟨_, e, _⟩ := hl; exact Heap.lt_size e
  refine call_all_walk (wpAny_pyIter_list hl ?_)
  refine ⟨s.heap.objs.size, [s.heap.objs.size, a], [s.heap.objs.size], its.toArray.size, _, _, fun i => (bs[i]?).getD true, rfl, Walks.list (A := X.A.in1) (I.ok.hd hc) _ a (Nat.ne_of_lt hlt) its.toArray,
    ⟨⟨_, Heap.get?_push_size _ rfl, rfl, rfl⟩, hl.push _⟩, fun i v s' Q' E' hP hQ => ?_, fun h' tk hk => ?_⟩
  · obtain ⟨b, e, rfl⟩ := hb.get i v (by simpa using hP)
    simp only [e, Option.getD_some] at hQ
    exact wpAny_truthy_bool hQ
  · have e : ((List.range its.toArray.size).all fun i => (bs[i]?).getD true) = bs.all id := by
      rw [List.size_toArray, hb.length]; exact LSm.range_all bs
    rw [e]
    exact ⟨.bl _, H, I.kept (LSm.kept_iter hk), rfl, q⟩
/-! ### a def with its promise, in one -/
def Pm (P : Program) (w : World) (K : PySem.W.Frag) (mg : Str → Option Value) (base : Heap) (CX : CXT) (k : Nat) (x : Str) (ps : List Str) (sp : Sp) : Prop :=
  ∃ (f : Addr) (fd : FuncData), mg x = some (.ref f) ∧ PySem.W.keepIn K (.ref f) = true ∧ Binds K fd ps [] ∧ FnOk P w K mg base CX k f fd ps sp
theorem pe_callP {X : Cx} {CX : CXT} {k : Nat} {x : Str} {ps : List Str} {sp : Sp} {E : XK} {p pos : Pos} {e : Expr} {es : List Expr} {t : TA} (h : Pm X.prog X.w X.K X.mg X.base CX k x ps sp) (hr : Room k X.A) (hg : Gl X x) (hx : Passes CX X E) (ha : PA X (e :: es) t)
    (hdb : (x == ("__debug__" : Str)) = false := by decide) (he : starEach (e :: es) X.env = (false, eval e X.env) :: starEach es X.env := by rfl) (hpl : (backTo pos (starEach es X.env)).any (·.1) = false := by rfl) :
    PE X (.Call (.Name x p) (e :: es) [] pos) (tCall sp [] E t) := by
  obtain ⟨f, fd, hm, hk, hb, F⟩ := h
  exact pe_call F hr hg hm hk hb .nil hx ha hdb he hpl
end L2
/-! EvQ: made by mkq.py. The rules over structures. -/
namespace L2
open PySem PySem.Spec PyProof.Rows
set_option autoImplicit true
set_option relaxedAutoImplicit true
structure QE (X : Cx) (e : Expr) (t : TE) : Prop where
  h : PE X e t
structure QT (X : Cx) (e : Expr) (t : TT) : Prop where
  h : PT X e t
structure QW (X : Cx) (e : Expr) (t : TT) : Prop where
  h : PW X e t
structure QA (X : Cx) (e : List Expr) (t : TA) : Prop where
  h : PA X e t
structure QS (X : Cx) (e : Stmt) (t : TS) : Prop where
  h : PS X e t
structure QSs (X : Cx) (e : List Stmt) (t : TS) : Prop where
  h : PSs X e t
structure QGs (X : Cx) (e : List Expr) (t : TGs) : Prop where
  h : PGs X e t
structure QG (X : Cx) (e : Expr) (t : TG) : Prop where
  h : PG X e t
structure QIf (X : Cx) (e : List Expr) (t : TT) : Prop where
  h : PIf X e t
structure QO (X : Cx) (e : Option Expr) (t : TO) : Prop where
  h : PO X e t
structure QI (X : Cx) (tg iter : Expr) (t : TI) : Prop where
  h : PI X tg iter t
theorem QW.pt {X : Cx} {e : Expr} {t : TT} (k : QW X e t) : QT X e t := ⟨k.h.pt⟩
theorem qe_int {i j pos} : QE X (.Constant (.int i) j pos) (tC (.int i)) := ⟨pe_int ⟩
theorem qe_bl {b j pos} : QE X (.Constant (.bool b) j pos) (tC (.bl b)) := ⟨pe_bl ⟩
theorem qe_non {j pos} : QE X (.Constant .none j pos) (tC .non) := ⟨pe_non ⟩
theorem qe_glob {x : Str} {v : V} {u : Value} {pos : Pos} (hg : Gl X x) (hm : X.mg x = some u) (r : RelV v u) (hd : (x == ("__debug__" : Str)) = false := by decide) : QE X (.Name x pos) (tC v) := ⟨pe_glob (hg) (hm) (r) (hd)⟩
theorem qe_bltn {x : Str} {v : V} {u : Value} {pos : Pos} (hg : Gl X x) (hm : X.mg x = none) (hv : bootBuiltins x = some u) (r : RelV v u) (hn : x ≠ "__name__" := by decide) (hd : (x == ("__debug__" : Str)) = false := by decide) : QE X (.Name x pos) (tC v) := ⟨pe_bltn (hg) (hm) (hv) (r) (hn) (hd)⟩
theorem qt_val {e : Expr} {t : TE} (h : QE X e t) (he : ∀ whole, isTrue e X.env whole = (do let v ← whole; standAt e.pos; holding [v] (truthy v)) := by intro _; rfl) : QT X e (tB t) := ⟨pt_val h.h (he)⟩
theorem qw_and1 (ha : QT X a tA) : QW X (.BoolOp .And [a] pos) tA := ⟨pw_and1 ha.h⟩
theorem qw_or1 (ha : QT X a tA) : QW X (.BoolOp .Or [a] pos) tA := ⟨pw_or1 ha.h⟩
theorem qw_and (ha : QT X a tA) (hb : QW X (.BoolOp .And (b :: restq) pos) tB') : QW X (.BoolOp .And (a :: b :: restq) pos) (tAnd tA tB') := ⟨pw_and ha.h hb.h⟩
theorem qw_or (ha : QT X a tA) (hb : QW X (.BoolOp .Or (b :: restq) pos) tB') : QW X (.BoolOp .Or (a :: b :: restq) pos) (tOr tA tB') := ⟨pw_or ha.h hb.h⟩
theorem qt_not (ha : QT X a tA) : QT X (.UnaryOp .Not a pos) (tNot tA) := ⟨pt_not ha.h⟩
theorem qe_one {op} {t : TE} (h : QE X a t) : QE X (.BoolOp op [a] pos) t := ⟨pe_one h.h⟩
theorem qe_and (ha : QE X a ta) (hb : QE X (.BoolOp .And (b :: restq) pos) tb) : QE X (.BoolOp .And (a :: b :: restq) pos) (tAndV ta tb) := ⟨pe_and ha.h hb.h⟩
theorem qe_not (ha : QE X a ta) : QE X (.UnaryOp .Not a pos) (tNotV ta) := ⟨pe_not ha.h⟩
theorem qss_nil  : QSs X [] tNext := ⟨pss_nil ⟩
theorem qss_cons (h1 : QS X stq t) (h2 : QSs X restq u) : QSs X (stq :: restq) (tSeq t u) := ⟨pss_cons h1.h h2.h⟩
theorem qss_one (h1 : QS X stq t) : QSs X [stq] t := ⟨pss_one h1.h⟩
theorem qs_expr (he : QE X e te) (hs : swapsWith e none pos.line X.env = pure false := by rfl) : QS X (.Expr e pos) (tDrop te) := ⟨ps_expr he.h (hs)⟩
theorem qs_ret (he : QE X e te) : QS X (.Return (some e) pos) (tRet te) := ⟨ps_ret he.h⟩
theorem qs_if {c : Expr} {a b : List Stmt} {tc : TT} (hc : QT X c tc) (ha : QSs X a t) (hb : QSs X b u) : QS X (.If c a b pos) (tIfS tc t u) := ⟨ps_if hc.h ha.h hb.h⟩
theorem qg_name {i : Nat} {x : Str} (hN : X.N.Nodup) (hiq : X.N[i]? = some x) (hx : Loc X.env.scope x) (hf : X.fn x = true ∨ X.env.scope.names.lookup x = some .local := by first | exact .inl rfl | exact .inr rfl | assumption) : QG X (.Name x pos) (gName i) := ⟨pg_name (hN) (hiq) (hx) (hf)⟩
theorem qgs_nil  : QGs X [] gNil := ⟨pgs_nil ⟩
theorem qgs_cons {e : Expr} {es : List Expr} {t : TG} {u : TGs} (h1 : QG X e t) (h2 : QGs X es u) (hs : (assignEach (e :: es) X.env).map (·.2) = assign e X.env :: (assignEach es X.env).map (·.2) := by rfl) : QGs X (e :: es) (gCons t u) := ⟨pgs_cons h1.h h2.h (hs)⟩
theorem qg_tup {es : List Expr} {k : Nat} {t : TGs} {n : Nat} (hc : X.calm = true) (h : QGs X es t) (hn : (assignEach es X.env).length = n := by rfl) (hst : (assignEach es X.env).findIdx? (·.1) = none := by rfl) : QG X (.Tuple es k pos) (gTup X.K n t) := ⟨pg_tup (hc) h.h (hn) (hst)⟩
theorem qg_sub {o i : Expr} {to ti : TE} {t : TSet} (ho : QE X o to) (hiq : QE X i ti) (hs : PSet X t) (ha : ∀ v, assign (.Subscript o i pos) X.env v = (do
      let ov ← holding [v] (eval o X.env)
      let iv ← holding [v, ov] (eval i X.env)
      standAt pos
      holding [v, ov, iv] (setItem ov iv v)
      release [v, ov, iv] []) := by intro _; rfl) : QG X (.Subscript o i pos) (gSub to ti t) := ⟨pg_sub ho.h hiq.h (hs) (ha)⟩
theorem qs_asg {tg e : Expr} {te : TE} {g : TG} (he : QE X e te) (hg : QG X tg g) (hs : swapsWithSole [tg] e pos.line X.env = pure false := by rfl) (hw : swappedStores [tg] e X.env = pure none := by rfl) (h1 : (assignEach [tg] X.env).map (·.2) = [assign tg X.env] := by rfl) : QS X (.Assign [tg] e pos) (tAsg te g) := ⟨ps_asg he.h hg.h (hs) (hw) (h1)⟩
theorem qs_set {i : Nat} {x : Str} {e : Expr} {te : TE} {pos' : Pos} (hN : X.N.Nodup) (hiq : X.N[i]? = some x) (hx : Loc X.env.scope x) (he : QE X e te) (hs : swapsWith e (some (.Name x pos')) pos.line X.env = pure false := by rfl) (hf : X.fn x = true ∨ X.env.scope.names.lookup x = some .local := by first | exact .inl rfl | exact .inr rfl | assumption) : QS X (.Assign [.Name x pos'] e pos) (tAsg te (gName i)) := ⟨ps_set (hN) (hiq) (hx) he.h (hs) (hf)⟩
theorem qs_aug {i : Nat} {x : Str} {e : Expr} {te : TE} {op : Operator} {ti : TIp} {pos' : Pos} (hN : X.N.Nodup) (hiq : X.N[i]? = some x) (hx : Loc X.env.scope x) (he : QE X e te) (ho : PIp X op ti) (hf : X.fn x = true ∨ X.env.scope.names.lookup x = some .local := by first | exact .inl rfl | exact .inr rfl | assumption) : QS X (.AugAssign (.Name x pos') op e pos) (tAug i te ti) := ⟨ps_aug (hN) (hiq) (hx) he.h (ho) (hf)⟩
theorem qs_augS {o i e : Expr} {to ti te : TE} {tget : V → V → Hp → VK → Prop} {tip : TIp} {tset : TSet} {op : Operator} {tpos : Pos} (ho : QE X o to) (hiq : QE X i ti) (hg : PGet X tget) (he : QE X e te) (hp : PIp X op tip) (hs : PSet X tset) (ha : ∀ ov iv new, augStore i ov iv new = (do holding [new, ov, iv] (setItem ov iv new); release [new, ov, iv] []; pure .next) := by intros; rfl) : QS X (.AugAssign (.Subscript o i tpos) op e pos) (tAugS to ti te tget tip tset) := ⟨ps_augS ho.h hiq.h (hg) he.h (hp) (hs) (ha)⟩
theorem qs_while {c : Expr} {body : List Stmt} {tc : TT} {tb : TS} (hp : PassesOwn (model X.prog X.w) X.A X.env X.xe) (hc : QT X c tc) (hb : QSs X body tb) : QS X (.While c body [] pos) (tWhile tc tb) := ⟨ps_while (hp) hc.h hb.h⟩
theorem qi_list {l : Expr} {tl : TE} (hl : QE X l tl) : QI X tg l (iList X.K tl) := ⟨pi_list hl.h⟩
theorem qi_tup {l : Expr} {tl : TE} (hl : QE X l tl) : QI X tg l (iTup X.K tl) := ⟨pi_tup hl.h⟩
theorem qi_range1 {a : Expr} {ta : TA} {p pos : Pos} (hg : Gl X "range") (hm : X.mg "range" = none) (ha : QA X [a] ta) (hs : starEach [a] X.env = [(false, eval a X.env)] := by rfl) : QI X tg (.Call (.Name "range" p) [a] [] pos) (iRng1 ta) := ⟨pi_range1 (hg) (hm) ha.h (hs)⟩
theorem qi_range2 {a b : Expr} {ta : TA} {p pos : Pos} (hg : Gl X "range") (hm : X.mg "range" = none) (ha : QA X [a, b] ta) (hs : starEach [a, b] X.env = [(false, eval a X.env), (false, eval b X.env)] := by rfl) (hs2 : starEach [b] X.env = [(false, eval b X.env)] := by rfl) : QI X tg (.Call (.Name "range" p) [a, b] [] pos) (iRng2 ta) := ⟨pi_range2 (hg) (hm) ha.h (hs) (hs2)⟩
theorem qs_for {iter : Expr} {body : List Stmt} {wi : TI} {g : TG} {tb : TS} {pos : Pos} (hp : PassesOwn (model X.prog X.w) X.A X.env X.xe) (hc : X.calm = true) (hiq : QI X tg iter wi) (hg : QG X tg g) (hb : QSs X body tb) (hs : ∀ x, foldedSetIterable iter X.env x = pure x := by intro _; rfl) : QS X (.For tg iter body [] pos) (tFor wi g tb) := ⟨ps_for (hp) (hc) hiq.h hg.h hb.h (hs)⟩
theorem qe_op {op : Operator} {r : R2} (ho : OpR X (binaryOp op) r) (ha : QE X a ta) (hb : QE X b tb) : QE X (.BinOp a op b pos) (tOp r ta tb) := ⟨pe_op (ho) ha.h hb.h⟩
theorem qe_un {op : UnaryOp} {r : V → Hp → VK → Prop} (ho : UnR X (unaryOp op) r) (ha : QE X a ta) : QE X (.UnaryOp op a pos) (tUn r ta) := ⟨pe_un (ho) ha.h⟩
theorem qe_cmpR {op : CmpOp} {r : R2} (ho : OpR X (compareOp op) r) (ha : QE X a ta) (hb : QE X b tb) (hm : behindInMarks op b = false) : QE X (.Compare a [op] [b] pos) (tOp r ta tb) := ⟨pe_cmpR (ho) ha.h hb.h (hm)⟩
theorem qt_cmpR {op : CmpOp} {r : R2} (ho : OpR X (compareOp op) r) (ha : QE X a ta) (hb : QE X b tb) (hm : behindInMarks op b = false) : QT X (.Compare a [op] [b] pos) (tTest (tOp r ta tb)) := ⟨pt_cmpR (ho) ha.h hb.h (hm)⟩
theorem qe_chain {op op' : CmpOp} {r r' : R2} (ho : OpR X (compareOp op) r) (ho' : OpR X (compareOp op') r') (ha : QE X a ta) (hb : QE X b tb) (hc : QE X c tc) (hm : lastMarks [op, op'] [b, c] = false := by with_unfolding_all rfl) : QE X (.Compare a [op, op'] [b, c] pos) (tChain r r' ta tb tc) := ⟨pe_chain (ho) (ho') ha.h hb.h hc.h (hm)⟩
theorem qe_fld (he : QE X e ta) (hb : attributeBase e f X.env (eval e X.env) = eval e X.env) : QE X (.Attribute e f pos) (tFld X.K ta f) := ⟨pe_fld he.h (hb)⟩
theorem qs_fld (ha : QE X o ta) (hv : QE X value tv) (hs : swapsWith value (some (.Attribute o f pos')) pos.line X.env = pure false) : QS X (.Assign [.Attribute o f pos'] value pos) (sFld X.K ta tv f) := ⟨ps_fld ha.h hv.h (hs)⟩
theorem qa_nil  : QA X [] tNil := ⟨pa_nil ⟩
theorem qe_tup {x1} (h : QA X es t) : QE X (.Tuple es x1 pos) (tTup t) := ⟨pe_tup h.h⟩
theorem qe_lst (h : QA X es t) : QE X (.List es pos) (tLst t) := ⟨pe_lst h.h⟩
theorem qe_call (F : FnOk X.prog X.w X.K X.mg X.base CX k f fd ps sp) (hr : Room k X.A) (hg : Gl X x) (hm : X.mg x = some (.ref f)) (hk : PySem.W.keepIn X.K (.ref f) = true) (hb : Binds X.K fd ps ds) (hd : Vals dvs ds) (hx : Passes CX X E) (ha : QA X (e :: es) t) (hdb : (x == ("__debug__" : Str)) = false := by decide) (he : starEach (e :: es) X.env = (false, eval e X.env) :: starEach es X.env := by rfl) (hpl : (backTo pos (starEach es X.env)).any (·.1) = false := by rfl) : QE X (.Call (.Name x p) (e :: es) [] pos) (tCall sp dvs E t) := ⟨pe_call (F) (hr) (hg) (hm) (hk) (hb) (hd) (hx) ha.h (hdb) (he) (hpl)⟩
theorem qe_callB (hc : CallR X (.builtin idq) r) (hg : Gl X x) (hm : X.mg x = none) (hv : bootBuiltins x = some (.builtin idq)) (ha : QA X (e :: es) t) (hn : x ≠ "__name__" := by decide) (hdb : (x == ("__debug__" : Str)) = false := by decide) (he : starEach (e :: es) X.env = (false, eval e X.env) :: starEach es X.env := by rfl) (hpl : (backTo pos (starEach es X.env)).any (·.1) = false := by rfl) : QE X (.Call (.Name x p) (e :: es) [] pos) (tCB r t) := ⟨pe_callB (hc) (hg) (hm) (hv) ha.h (hn) (hdb) (he) (hpl)⟩
theorem qe_callTy (hc : CallR X (.type T) r) (hg : Gl X x) (hm : X.mg x = none) (hv : bootBuiltins x = some (.type T)) (ha : QA X (e :: es) t) (hn : x ≠ "__name__" := by decide) (hdb : (x == ("__debug__" : Str)) = false := by decide) (he : starEach (e :: es) X.env = (false, eval e X.env) :: starEach es X.env := by rfl) (hpl : (backTo pos (starEach es X.env)).any (·.1) = false := by rfl) : QE X (.Call (.Name x p) (e :: es) [] pos) (tCB r t) := ⟨pe_callTy (hc) (hg) (hm) (hv) ha.h (hn) (hdb) (he) (hpl)⟩
theorem qo_none  : QO X none tNoPart := ⟨po_none ⟩
theorem qo_some (h : QE X e te) : QO X (some e) (tPart te) := ⟨po_some h.h⟩
theorem qe_slice {r : V → Option Int → Option Int → Hp → VK → Prop} (hr : SlR X r) (he : QE X e te) (hl : QO X loq tl) (hu : QO X hiq th) : QE X (.Subscript e (.Slice loq hiq none p2) pos) (tSl r te tl th) := ⟨pe_slice (hr) he.h hl.h hu.h⟩
theorem qe_ix {r : R2} (hr : IxR X r) (ha : QE X a ta) (hb : QE X b tb) (hs : PlainIx b) : QE X (.Subscript a b pos) (tOp r ta tb) := ⟨pe_ix (hr) ha.h hb.h (hs)⟩
theorem qe_bm0 (pa : PlainAttrs T) (slot : Slot T nameq idq) (hty : typeOf (.builtin idq) = pure (.type "method_descriptor")) (hm : MtR X idq r) (ho : QE X o to) (hbase : attributeBase o nameq X.env (eval o X.env) = eval o X.env := by rfl) (hline : (apos.endLine == cpos.line) = true := by rfl) : QE X (.Call (.Attribute o nameq apos) [] [] cpos) (tBM0 X.K T r to) := ⟨pe_bm0 (pa) (slot) (hty) (hm) ho.h (hbase) (hline)⟩
theorem qe_bm (pa : PlainAttrs T) (slot : Slot T nameq idq) (hty : typeOf (.builtin idq) = pure (.type "method_descriptor")) (hm : MtR X idq r) (ho : QE X o to) (ha : QA X (e :: es) t) (hbase : attributeBase o nameq X.env (eval o X.env) = eval o X.env := by rfl) (hfew : ((backTo cpos (starEach (e :: es) X.env)).all (fun x => !x.1) && (backToKw cpos (keywordEach [] X.env)).all (fun x => x.1.isSome)
      && decide ((e :: es).length + ([] : List Keyword).length + (if ([] : List Keyword).isEmpty then 0 else 1) < 30)) = true := by rfl) (hline : (apos.endLine == cpos.line) = true := by rfl) (hs : starEach (e :: es) X.env = (false, eval e X.env) :: starEach es X.env := by rfl) (hplain : (backTo cpos (starEach es X.env)).any (·.1) = false := by rfl) : QE X (.Call (.Attribute o nameq apos) (e :: es) [] cpos) (tBM X.K T r to t) := ⟨pe_bm (pa) (slot) (hty) (hm) ho.h ha.h (hbase) (hfew) (hline) (hs) (hplain)⟩
theorem qv (i : Nat) {x : Str} {pos : Pos} (hN : X.N[i]? = some x := by rfl) (hv : Vis X.env.scope x := by first | exact Or.inl rfl | exact Or.inr (Or.inl rfl) | exact Or.inr (Or.inr rfl)) (hd : (x == ("__debug__" : Str)) = false := by decide) (hcd : (x == ("__classdict__" : Str)) = false := by decide) : QE X (.Name x pos) (tVar i) := ⟨pv (i) (hN) (hv) (hd) (hcd)⟩
theorem qif_nil {X : Cx} : QIf X [] tYes := ⟨pif_nil ⟩
theorem qif_one {X : Cx} {c : Expr} {t : TT} (h : QT X c t) : QIf X [c] t := ⟨pif_one h.h⟩
theorem qe_callP {X : Cx} {CX : CXT} {k : Nat} {x : Str} {ps : List Str} {sp : Sp} {E : XK} {p pos : Pos} {e : Expr} {es : List Expr} {t : TA} (h : Pm X.prog X.w X.K X.mg X.base CX k x ps sp) (hr : Room k X.A) (hg : Gl X x) (hx : Passes CX X E) (ha : QA X (e :: es) t) (hdb : (x == ("__debug__" : Str)) = false := by decide) (he : starEach (e :: es) X.env = (false, eval e X.env) :: starEach es X.env := by rfl) (hpl : (backTo pos (starEach es X.env)).any (·.1) = false := by rfl) : QE X (.Call (.Name x p) (e :: es) [] pos) (tCall sp [] E t) := ⟨pe_callP (h) (hr) (hg) (hx) ha.h (hdb) (he) (hpl)⟩
/-- an argument, by a test that is small -/
def notStar : Expr → Bool
  | .Starred .. => false
  | _ => true
theorem starEach_cons {e : Expr} {es : List Expr} {env : Env} (h : notStar e = true) : starEach (e :: es) env = (false, eval e env) :: starEach es env := by
  cases e <;> first | rfl | cases h
theorem qac {X : Cx} {e : Expr} {es : List Expr} {te : TE} {t : TA} (ha : QE X e te) (hr : QA X es t) (hs : notStar e = true := by rfl) : QA X (e :: es) (tCons te t) := ⟨pa_cons ha.h hr.h (starEach_cons hs)⟩
theorem qe_comp {X : Cx} {elt tg iter : Expr} {ifs : List Expr} {scope : Scope} {pos : Pos} {N : List Str} {src : List (Option Nat)} {wi : TI} {g : TG} {tc : TT} {te : TE} (hc : X.calm = true) (S : CompScope X scope N src) (hi : QI X tg iter wi)
    (hg : ∀ s H cl C fp, QG (cxC X s H scope cl C N fp) tg g) (hf : ∀ s H cl C fp, QIf (cxC X s H scope cl C N fp) ifs tc) (he : ∀ s H cl C fp, QE (cxC X s H scope cl C N fp) elt te)
    (hs : ∀ x, foldedSetIterable iter X.env x = pure x := by intro _; rfl) : QE X (.ListComp elt [⟨tg, iter, ifs, 0⟩] scope pos) (tComp src wi g tc te) :=
  ⟨pe_comp hc S hi.h (fun s H cl C fp => (hg s H cl C fp).h) (fun s H cl C fp => (hf s H cl C fp).h) (fun s H cl C fp => (he s H cl C fp).h) hs⟩
theorem qs_setComp {X : Cx} {elt tg iter : Expr} {ifs : List Expr} {scope : Scope} {pos spos pos' : Pos} {x : Str} {i : Nat} {N : List Str} {src : List (Option Nat)} {wi : TI} {g : TG} {tc : TT} {te : TE} (hc : X.calm = true) (S : CompScope X scope N src) (hi : QI X tg iter wi)
    (hg : ∀ s H cl C fp, QG (cxC X s H scope cl C N fp) tg g) (hf : ∀ s H cl C fp, QIf (cxC X s H scope cl C N fp) ifs tc) (he : ∀ s H cl C fp, QE (cxC X s H scope cl C N fp) elt te) (ht : QG X (.Name x pos') (gName i))
    (hsw : swapsWith (.ListComp elt [⟨tg, iter, ifs, 0⟩] scope pos) (some (.Name x pos')) spos.line X.env = pure true := by rfl)
    (hs : ∀ x, foldedSetIterable iter X.env x = pure x := by intro _; rfl) : QS X (.Assign [.Name x pos'] (.ListComp elt [⟨tg, iter, ifs, 0⟩] scope pos) spos) (tAsg (tComp src wi g tc te) (gName i)) :=
  ⟨ps_setComp hc S hi.h (fun s H cl C fp => (hg s H cl C fp).h) (fun s H cl C fp => (hf s H cl C fp).h) (fun s H cl C fp => (he s H cl C fp).h) ht.h hsw hs⟩
theorem qss_never {X : Cx} {sts : List Stmt} : QSs X sts tNever := ⟨pss_never⟩
/-! ### defs -/
section
variable {P : Program} {w : World} {K : PySem.W.Frag} {mg : Str → Option Value} {base : Heap} {x qual : Str} {st : Stmt} {f : Addr} {fd : FuncData} {N ps : List Str} {k : Nat} {sp : Sp}
theorem Fun.okQ (F : Fun K x qual st f fd) (S : FnScope N ps (defScope st)) (len : ∀ vs H Q E, sp vs H Q E → vs.length = ps.length)
    (hbody : ∀ (cdv : Value) (A : Around) (outer : List Env) (s : Shared) (H : Hp) (vs : List V) (Q : VK) (E : XK), Room k (A.deeper (envOfC qual (defScope st) s.heap.objs.size f cdv)) → sp vs H Q E →
      ∃ t, QSs (cxOf CX0 P w K mg base N qual (defScope st) f cdv A outer s H E).nox (defBody st) t ∧ t { nx := fun _ H' => Q .non H', rt := Q } (start N vs) H) : FnOk P w K mg base CX0 (k + 1) f fd ps sp :=
  F.ok S len fun cdv A outer s H vs Q E hr h => let ⟨t, a, b⟩ := hbody cdv A outer s H vs Q E hr h; ⟨t, a.h, b⟩
end

end L2
/-! EvRange: range with a step. Behind EvQ. -/
namespace L2
open PySem PySem.Spec PyProof.Rows
/-- lo, lo + c, .. (n of them) -/
def Its (lo c : Int) (n : Nat) : It := ⟨fun i _ => i < n, fun i H x H' => H' = H ∧ x = .int (lo + (i : Nat) * c), fun i _ => n ≤ i⟩
theorem turn_rangeS {P : Program} {w : World} {K : PySem.W.Frag} {tg : Expr} (it : Addr) (lo c : Int) (n : Nat) : Turn P w K tg (Its lo c n) [it] it (fun i h => IsRangeIter h it (lo + (i : Nat) * c) ((n : Int) - (i : Nat)) c) where
  mem := by simp
  obj := fun i h st b hb => by
    have e : b = it := by simpa using hb
    subst e
    exact ⟨_, st, fun v z => by
      have z' : Data.fields _ = Data.cell v := z
      cases z'⟩
  keep := fun i h h' st k => k it (by simp) _ st
  item := by
    intro X hP hw hK hc i pins s σ H E I hf st hg
    subst hP hw hK
    obtain ⟨f0, f1, f2, f3, f4, f5⟩ := hf it (by simp)
    have W := Walks.range (prog := X.prog) (w := X.w) (I.ok.hd hc) it lo c n
    refine W.item i s _ _ hg st fun v h' tk hv st' kk => ?_
    obtain ⟨t, rfl⟩ := hv
    have I1 : Inv X pins σ H { s with heap := h', toks := tk } := I.turned (fun b o hb e => kk b o (by simpa using hb) e) f0 f1 f3 f4 f5
    exact ⟨_, rfl, go_of (s := { s with heap := h', toks := tk }) (n := "range_iterator") st' rfl rfl (by decide) ⟨.int (lo + (i : Nat) * c), H, I1, ⟨t, rfl⟩, ⟨rfl, rfl⟩, st', fun b hb => (hf b hb).1⟩⟩
  done := by
    intro X hP hw hK hc i pins s σ H E I hf st hg
    subst hP hw hK
    obtain ⟨f0, f1, f2, f3, f4, f5⟩ := hf it (by simp)
    exact wpAny_pyNext_range_end (I.ok.hd hc) st (by have : n ≤ i := hg; omega) fun h' eb => ⟨rfl, I.turned (t' := s.toks) (fun b o hb e => eb b o hb e) f0 f1 f3 f4 f5⟩
  self := fun _ _ _ _ _ st h => wpAny_pyIter_rangeiter st h
section
variable {X : Cx} {tg : Expr}
theorem range_itS {pins : List (Addr × Obj)} {σ : St} {H : Hp} {s : Shared} {R : It → Hp → Prop} {E : Value → Shared → Prop} {lo hi c : Int} {n : Nat} {t u v : Tok} {tk : Nat} (I : Inv X pins σ H s) (hsm : Builtin.Range.small lo hi c = true) (hn : Builtin.Range.rangeSize lo hi c = (n : Int))
    (q : R (Its lo c n) H) : wpAny (model X.prog X.w) X.A (pyIter (.ref s.heap.objs.size)) (PIE X pins σ tg R) E { s with heap := s.heap.push { cls := .type "range", data := .fields #[.int lo t, .int hi u, .int c v] }, toks := tk } := by
  refine wpAny_pyIter_range (IsRange.new ..) hsm ?_
  have I1 : Inv X pins σ H { s with heap := s.heap.push { cls := .type "range", data := .fields #[.int lo t, .int hi u, .int c v] }, toks := tk } := I.kept fun b o e => Heap.get?_push_of_some _ e
  refine ⟨(s.heap.push { cls := .type "range", data := .fields #[.int lo t, .int hi u, .int c v] }).objs.size, [(s.heap.push { cls := .type "range", data := .fields #[.int lo t, .int hi u, .int c v] }).objs.size], _, _, H, rfl,
    I1.kept (t' := tk) fun b o e => Heap.get?_push_of_some _ e, turn_rangeS _ lo c n, ?_, fun b hb => ?_, q⟩
  · have e1 : lo + ((0 : Nat) : Int) * c = lo := by simp
    have e2 : ((n : Nat) : Int) - ((0 : Nat) : Int) = Builtin.Range.rangeSize lo hi c := by rw [hn]; simp
    show IsRangeIter _ _ (lo + ((0 : Nat) : Int) * c) (((n : Nat) : Int) - ((0 : Nat) : Int)) c
    rw [e1, e2]
    exact Heap.get?_push_size _ rfl
  · have e : b = (s.heap.push { cls := .type "range", data := .fields #[.int lo t, .int hi u, .int c v] }).objs.size := by simpa using hb
    subst e
    exact I1.fpOk (Nat.le_refl _) (I1.hok.fresh (Nat.le_refl _))
def iRng3 (ta : TA) : TI := fun σ H R => ta σ H fun vs H1 => ∃ (i j k : Int) (n : Nat), vs = [.int i, .int j, .int k] ∧ k ≠ 0 ∧ k.natAbs < 1073741824 ∧ Builtin.Range.small i j k = true ∧ Builtin.Range.rangeSize i j k = (n : Int) ∧ R (Its i k n) H1
theorem pi_range3 {a b c : Expr} {ta : TA} {p pos : Pos} (hg : Gl X "range") (hm : X.mg "range" = none) (ha : PA X [a, b, c] ta) (hs : starEach [a, b, c] X.env = [(false, eval a X.env), (false, eval b X.env), (false, eval c X.env)] := by rfl) (hs2 : starEach [b, c] X.env = [(false, eval b X.env), (false, eval c X.env)] := by rfl) :
    PI X tg (.Call (.Name "range" p) [a, b, c] [] pos) (iRng3 ta) := by
  intro pins s σ H R I h
  refine Call_ (ld_blt I hg hm boot_range (PyProof.Rows.callWith_type1 (thn (ha pos pins s σ H _ I h) fun us s1 ⟨vs, H1, I1, r1, q1⟩ => ?_) (by rw [hs, hs2]) (by rw [hs2]; rfl)))
  obtain ⟨i, j, k, n, e, k0, kb, q1, q2, q⟩ := q1
  subst e
  cases r1 with
  | cons r rr =>
    cases rr with
    | cons r' rr =>
      cases rr with
      | cons r'' rr =>
        cases rr
        obtain ⟨t, rfl⟩ := r
        obtain ⟨t', rfl⟩ := r'
        obtain ⟨t'', rfl⟩ := r''
        exact call_range_3 k0 (range_itS I1 q1 q2 q) (.inl (PyProof.noPylong_small kb))
theorem qi_range3 {a b c : Expr} {ta : TA} {p pos : Pos} (hg : Gl X "range") (hm : X.mg "range" = none) (ha : QA X [a, b, c] ta) (hs : starEach [a, b, c] X.env = [(false, eval a X.env), (false, eval b X.env), (false, eval c X.env)] := by rfl) (hs2 : starEach [b, c] X.env = [(false, eval b X.env), (false, eval c X.env)] := by rfl) :
    QI X tg (.Call (.Name "range" p) [a, b, c] [] pos) (iRng3 ta) := ⟨pi_range3 hg hm ha.h hs hs2⟩
end
theorem comp_rng {lo : Int} {n : Nat} {g : TG} {tc : TT} {te : TE} {σ' : St} {H : Hp} {G : Addr → Hp → List V → Prop} (Pv : Nat → List V → Hp → Prop) (h0 : Pv 0 [] H)
    (hs : ∀ i ys H (N : List V → Hp → Prop), i < n → Pv i ys H → (∀ ys' H', Pv (i + 1) ys' H' → N ys' H') → g (.int (lo + i)) σ' H fun σ2 H4 => Weak σ' σ2 ∧ tc σ2 H4 fun b H5 => if b = true then te σ2 H5 fun y H6 => ys.length < sizeLine ∧ N (ys ++ [y]) H6 else N ys H5)
    (hd : ∀ ys H, Pv n ys H → ys.length ≤ sizeLine ∧ ∀ p, H p = none → G p H ys) :
    ∃ W : Nat → Nat → List V → Hp → Prop, (∃ m, W 0 m [] H) ∧ ∀ i m ys H2, W i m ys H2 →
      ((Itr lo n).stop i H2 ∧ ys.length ≤ sizeLine ∧ ∀ p, H2 p = none → G p H2 ys) ∨
      ((Itr lo n).go i H2 ∧ ∀ x H3, (Itr lo n).yld i H2 x H3 → g x σ' H3 fun σ2 H4 => Weak σ' σ2 ∧ tc σ2 H4 fun b H5 =>
        if b = true then te σ2 H5 fun y H6 => ys.length < sizeLine ∧ ∃ m', m' < m ∧ W (i + 1) m' (ys ++ [y]) H6 else ∃ m', m' < m ∧ W (i + 1) m' ys H5) := by
  refine ⟨fun i m ys H => m = n - i ∧ i ≤ n ∧ Pv i ys H, ⟨n, rfl, Nat.zero_le _, h0⟩, ?_⟩
  rintro i m ys H2 ⟨rfl, hi, p⟩
  by_cases hlt : i < n
  · refine .inr ⟨hlt, fun x H' y => ?_⟩
    obtain ⟨e, rfl⟩ := y
    subst e
    exact hs i ys _ (fun ys' H'' => ∃ m', m' < n - i ∧ m' = n - (i + 1) ∧ i + 1 ≤ n ∧ Pv (i + 1) ys' H'') hlt p (fun ys' H'' p' => ⟨_, by omega, rfl, hlt, p'⟩)
  · have e : i = n := by omega
    subst e
    exact .inl ⟨Nat.le_refl _, hd ys H2 p⟩
end L2
/-! EvMath: the mathematics of primes, by naturals; core alone. -/
namespace EM
def IsPr (p : Nat) : Prop := 2 ≤ p ∧ ∀ d, d ∣ p → d = 1 ∨ d = p
theorem IsPr.dvd_pr {p q : Nat} (hp : IsPr p) (hq : IsPr q) (h : p ∣ q) : p = q := by
  rcases hq.2 p h with h | h
  · have := hp.1; omega
  · exact h
/-- the least divisor is a prime -/
theorem pr_of_least {p n : Nat} (h2 : 2 ≤ p) (hd : p ∣ n) (hl : ∀ d, 2 ≤ d → d < p → ¬ d ∣ n) (_ : 1 ≤ n) : IsPr p := by
  refine ⟨h2, fun d hdp => ?_⟩
  have hle := Nat.le_of_dvd (by omega) hdp
  rcases Nat.lt_or_ge d 2 with h | h
  · have : d ≠ 0 := fun z => by
      subst z
      have := Nat.eq_zero_of_zero_dvd hdp
      omega
    exact .inl (by omega)
  · rcases Nat.lt_or_ge d p with h' | h'
    · exact absurd (Nat.dvd_trans hdp hd) (hl d h h')
    · exact .inr (by omega)
theorem pr_of_end {p n : Nat} (hn : 2 ≤ n) (hl : ∀ d, 2 ≤ d → d < p → ¬ d ∣ n) (hp : n < p * p) : IsPr n := by
  refine ⟨hn, fun d hd => ?_⟩
  have hle := Nat.le_of_dvd (by omega) hd
  obtain ⟨c, rfl⟩ := hd
  have d0 : d ≠ 0 := fun z => by subst z; simp at hn
  have c0 : c ≠ 0 := fun z => by subst z; simp at hn
  by_cases hd1 : d = 1
  · exact .inl hd1
  by_cases hc1 : c = 1
  · exact .inr (by rw [hc1, Nat.mul_one])
  exfalso
  have h1 : p ≤ d := Nat.le_of_not_lt fun z => hl d (by omega) z ⟨c, rfl⟩
  have h2 : p ≤ c := Nat.le_of_not_lt fun z => hl c (by omega) z ⟨d, Nat.mul_comm d c⟩
  have := Nat.mul_le_mul h1 h2
  omega
/-! ### lists of primes with how often -/
def prodL : List (Nat × Nat) → Nat
  | [] => 1
  | x :: r => x.1 ^ x.2 * prodL r
theorem prodL_append : ∀ (a b : List (Nat × Nat)), prodL (a ++ b) = prodL a * prodL b
  | [], b => by simp [prodL]
  | x :: r, b => by simp only [List.cons_append, prodL, prodL_append r b, Nat.mul_assoc]
structure Fac (n : Nat) (L : List (Nat × Nat)) : Prop where
  pr : ∀ x ∈ L, IsPr x.1 ∧ 1 ≤ x.2
  asc : L.Pairwise fun x y => x.1 < y.1
  prod : prodL L = n
/-- between two turns of the loop -/
structure FacTo (n p left : Nat) (L : List (Nat × Nat)) : Prop where
  pr : ∀ x ∈ L, IsPr x.1 ∧ 1 ≤ x.2 ∧ x.1 < p
  asc : L.Pairwise fun x y => x.1 < y.1
  prod : prodL L * left = n
  two : 2 ≤ p
  pos : 1 ≤ left
  no : ∀ d, 2 ≤ d → d < p → ¬ d ∣ left
theorem FacTo.start {n : Nat} (h : 1 ≤ n) : FacTo n 2 n [] := ⟨nofun, .nil, by simp [prodL], by omega, h, fun d h1 h2 => by omega⟩
theorem asc_snoc {L : List (Nat × Nat)} {x : Nat × Nat} (h : L.Pairwise fun x y => x.1 < y.1) (hx : ∀ y ∈ L, y.1 < x.1) : (L ++ [x]).Pairwise fun x y => x.1 < y.1 :=
  List.pairwise_append.mpr ⟨h, List.pairwise_singleton _ _, fun a ha b hb => by rw [List.mem_singleton.mp hb]; exact hx a ha⟩
/-- the inner loop: left0 = left * p ^ often, and p divides left no more -/
theorem FacTo.some {n p left left0 often : Nat} {L : List (Nat × Nat)} (F : FacTo n p left0 L) (e : left0 = left * p ^ often) (ho : 1 ≤ often) (hnd : ¬ p ∣ left) : FacTo n (p + 1) left (L ++ [(p, often)]) := by
  have hpos : 1 ≤ left := by
    rcases Nat.eq_zero_or_pos left with h | h
    · subst h; have := F.pos; simp at e; omega
    · exact h
  have hpd : p ∣ left0 := by
    rw [e]
    obtain ⟨k, rfl⟩ : ∃ k, often = k + 1 := ⟨often - 1, by omega⟩
    rw [Nat.pow_succ, ← Nat.mul_assoc]
    exact Nat.dvd_mul_left _ _
  refine ⟨fun x hx => ?_, asc_snoc F.asc fun y hy => (F.pr y hy).2.2, ?_, by have := F.two; omega, hpos, fun d h2 hlt hd => ?_⟩
  · rcases List.mem_append.mp hx with h | h
    · obtain ⟨a, b, c⟩ := F.pr x h
      exact ⟨a, b, by omega⟩
    · rw [List.mem_singleton.mp h]
      exact ⟨pr_of_least F.two hpd F.no F.pos, ho, by show p < p + 1; omega⟩
  · rw [prodL_append, ← F.prod, e]
    show prodL L * (p ^ often * 1) * left = _
    rw [Nat.mul_one, Nat.mul_assoc, Nat.mul_comm (p ^ often) left]
  · rcases Nat.lt_or_ge d p with h | h
    · exact F.no d h2 h (e ▸ Nat.dvd_trans hd (Nat.dvd_mul_right _ _))
    · have : d = p := by omega
      subst this; exact hnd hd
theorem FacTo.none {n p left : Nat} {L : List (Nat × Nat)} (F : FacTo n p left L) (hnd : ¬ p ∣ left) : FacTo n (p + 1) left L :=
  ⟨fun x hx => let ⟨a, b, c⟩ := F.pr x hx; ⟨a, b, by omega⟩, F.asc, F.prod, by have := F.two; omega, F.pos, fun d h2 hlt hd => by
    rcases Nat.lt_or_ge d p with h | h
    · exact F.no d h2 h hd
    · have : d = p := by omega
      subst this; exact hnd hd⟩
theorem FacTo.last {n p left : Nat} {L : List (Nat × Nat)} (F : FacTo n p left L) (hp : left < p * p) (h1 : 1 < left) : Fac n (L ++ [(left, 1)]) := by
  have hpl : p ≤ left := Nat.le_of_not_lt fun z => F.no left h1 z (Nat.dvd_refl _)
  refine ⟨fun x hx => ?_, asc_snoc F.asc fun y hy => Nat.lt_of_lt_of_le (F.pr y hy).2.2 hpl, ?_⟩
  · rcases List.mem_append.mp hx with h | h
    · obtain ⟨a, b, _⟩ := F.pr x h
      exact ⟨a, b⟩
    · rw [List.mem_singleton.mp h]
      exact ⟨pr_of_end h1 F.no hp, Nat.le_refl 1⟩
  · rw [prodL_append, ← F.prod]
    show prodL L * (left ^ 1 * 1) = _
    rw [Nat.pow_one, Nat.mul_one]
theorem FacTo.done {n p left : Nat} {L : List (Nat × Nat)} (F : FacTo n p left L) (h1 : ¬ 1 < left) : Fac n L := by
  refine ⟨fun x hx => let ⟨a, b, _⟩ := F.pr x hx; ⟨a, b⟩, F.asc, ?_⟩
  have := F.pos
  have e : left = 1 := by omega
  rw [← F.prod, e, Nat.mul_one]
theorem prodL_pos : ∀ {L : List (Nat × Nat)}, (∀ x ∈ L, IsPr x.1 ∧ 1 ≤ x.2) → 1 ≤ prodL L
  | [], _ => Nat.le_refl 1
  | x :: r, h => by
    have h1 := (h x (List.mem_cons_self ..)).1.1
    have h2 := prodL_pos fun y hy => h y (List.mem_cons_of_mem _ hy)
    exact Nat.mul_pos (Nat.pow_pos (by omega)) h2
theorem mem_dvd : ∀ {L : List (Nat × Nat)} {x : Nat × Nat}, x ∈ L → x.1 ^ x.2 ∣ prodL L
  | y :: r, x, h => by
    rcases List.mem_cons.mp h with h | h
    · subst h; exact Nat.dvd_mul_right _ _
    · exact Nat.dvd_trans (mem_dvd h) (Nat.dvd_mul_left _ _)
theorem len_le : ∀ {L : List (Nat × Nat)}, (∀ x ∈ L, IsPr x.1 ∧ 1 ≤ x.2) → 2 ^ L.length ≤ prodL L
  | [], _ => Nat.le_refl 1
  | x :: r, h => by
    have h1 := (h x (List.mem_cons_self ..)).1.1
    have h3 := (h x (List.mem_cons_self ..)).2
    have h2 := len_le fun y hy => h y (List.mem_cons_of_mem _ hy)
    have h4 := Nat.le_self_pow (n := x.2) (by omega) x.1
    rw [List.length_cons, Nat.pow_succ, Nat.mul_comm]
    exact Nat.mul_le_mul (Nat.le_trans h1 h4) h2
theorem FacTo.short {n p left : Nat} {L : List (Nat × Nat)} (F : FacTo n p left L) (hn : n < 2 ^ 60) : L.length < 60 := by
  have h1 := len_le fun x hx => let ⟨a, b, _⟩ := F.pr x hx; ⟨a, b⟩
  have h2 : prodL L ≤ n := F.prod ▸ Nat.le_mul_of_pos_right _ F.pos
  refine Nat.lt_of_not_le fun z => ?_
  have := Nat.pow_le_pow_right (n := 2) (by decide) z
  omega
theorem FacTo.le {n p left : Nat} {L : List (Nat × Nat)} (F : FacTo n p left L) : left ≤ n := by
  have h2 := prodL_pos fun x hx => let ⟨a, b, _⟩ := F.pr x hx; ⟨a, b⟩
  exact F.prod ▸ Nat.le_mul_of_pos_left _ h2
theorem root_lt {p n : Nat} (h : p * p ≤ n) (hn : n < 2 ^ 60) : p < 2 ^ 30 := by
  refine Nat.lt_of_not_le fun z => ?_
  have := Nat.mul_le_mul z z
  omega
theorem two_le_self {p n : Nat} (h2 : 2 ≤ p) (h : p * p ≤ n) : 2 * p ≤ n := Nat.le_trans (Nat.mul_le_mul_right p h2) h
/-! ### plain parts -/
/-! ### roots -/
theorem Fac.of_pr {p : Nat} {L : List (Nat × Nat)} (F : Fac p L) (hp : IsPr p) : L = [(p, 1)] := by
  have h2 := hp.1
  match L, F with
  | [], F =>
    have e := F.prod
    simp only [prodL] at e
    omega
  | x :: r, F =>
    obtain ⟨q1, q2⟩ := F.pr x (List.mem_cons_self ..)
    have hd := mem_dvd (List.mem_cons_self (a := x) (l := r))
    rw [F.prod] at hd
    have hx : x.1 ∣ p := by
      obtain ⟨k, hk⟩ : ∃ k, x.2 = k + 1 := ⟨x.2 - 1, by omega⟩
      rw [hk, Nat.pow_succ] at hd
      exact Nat.dvd_trans (Nat.dvd_mul_left _ _) hd
    have hxp : x.1 = p := q1.dvd_pr hp hx
    have hrp := prodL_pos fun y hy => F.pr y (List.mem_cons_of_mem _ hy)
    have e := F.prod
    simp only [prodL, hxp] at e
    have h1 : p ^ x.2 ≤ p := by
      have := Nat.le_mul_of_pos_right (p ^ x.2) hrp
      omega
    have hx2 : x.2 = 1 := by
      rcases Nat.lt_or_ge x.2 2 with z | z
      · omega
      · have h3 := Nat.pow_le_pow_right (n := p) (by omega) z
        have h4 := Nat.mul_le_mul_right p h2
        rw [Nat.pow_two] at h3
        omega
    rw [hx2, Nat.pow_one] at e
    have hr1 : prodL r = 1 := by
      have h5 : p * prodL r = p * 1 := by omega
      exact Nat.eq_of_mul_eq_mul_left (by omega) h5
    have hr : r = [] := by
      match r, F, hr1 with
      | [], _, _ => rfl
      | y :: r', F, hr1 =>
        have h6 := len_le fun z hz => F.pr z (List.mem_cons_of_mem _ hz)
        rw [hr1, List.length_cons, Nat.pow_succ] at h6
        have := Nat.pow_pos (n := r'.length) (show 0 < 2 by decide)
        omega
    rw [hr]
    have : x = (p, 1) := by
      rw [← hxp, ← hx2]
    rw [this]
theorem Fac.pr_of {p : Nat} (F : Fac p [(p, 1)]) : IsPr p := (F.pr _ (List.mem_cons_self ..)).1
end EM
/-! EvEuler: Fermat and Euler for a prime, by naturals and ints; core alone. Behind EvMath. -/
namespace EM
/-! ### lists without repeats -/
theorem perm_of_sub : ∀ {l l' : List Nat}, l.Nodup → (∀ x ∈ l, x ∈ l') → l'.length ≤ l.length → l'.Perm l
  | [], l', _, _, h => by
    have : l' = [] := List.length_eq_zero_iff.mp (by simpa using h)
    rw [this]
  | x :: l, l', hn, hs, h => by
    obtain ⟨hx, hn'⟩ := List.nodup_cons.mp hn
    have hm : x ∈ l' := hs x (List.mem_cons_self ..)
    have p1 := List.perm_cons_erase hm
    have hl : (l'.erase x).length ≤ l.length := by
      rw [List.length_erase_of_mem hm]
      simp only [List.length_cons] at h
      omega
    have p2 := perm_of_sub hn' (l' := l'.erase x) (fun y hy => by
      have hyx : y ≠ x := fun z => hx (z ▸ hy)
      exact (List.mem_erase_of_ne hyx).mpr (hs y (List.mem_cons_of_mem _ hy))) hl
    exact p1.trans (p2.cons x)
/-! ### roots of a sum of powers, the highest one once -/
/-! ### Euler -/
/-! ### rests of squares -/
/-! ### powers by squaring -/
/-! ### small primes by looking -/
/-! ### plain parts are told in one way -/
/-! ### what shuts a form -/
/-! ### the plain part by looking -/
/-! ### odd primes by looking -/
end EM
/-! EvBase: what every row of stage 1 shares; no row is named here. Behind EvTry, EvMath. -/
namespace E1
open PySem L2
/-! ### whole numbers by their kinds -/
inductive WholeIs (K : PySem.W.Frag) (H : Hp) : V → Bool → Prop where
  | int (i : Int) : WholeIs K H (.int i) true
  | bl (x : Bool) : WholeIs K H (.bl x) false
  | odd {v : V} {T : String} (ty : TyOf K H v (.type T)) (k : PySem.W.kitOne K (.type T) (.type "int") = some false) : WholeIs K H v false
section
variable (K : PySem.W.Frag)
theorem kit_int_int : PySem.W.kitOne K (.type "int") (.type "int") = some true := by kernel_rfl
theorem kit_int_bool : PySem.W.kitOne K (.type "int") (.type "bool") = some false := by kernel_rfl
theorem kit_bool_int : PySem.W.kitOne K (.type "bool") (.type "int") = some true := by kernel_rfl
theorem kit_bool_bool : PySem.W.kitOne K (.type "bool") (.type "bool") = some true := by kernel_rfl
end
theorem rel_ty {n : String} {K : PySem.W.Frag} {t : Value} {b : Bool} (h : PySem.W.kitOne K t (.type n) = some b) : ∀ u, RelV (.ty n) u → PySem.W.kitOne K t u = some b := fun u r => by
  cases (show u = Value.type n from r)
  exact h
/-! ### the promises -/
def spWhole (K : PySem.W.Frag) : Sp := fun vs H Q _ => ∃ v b, vs = [v] ∧ WholeIs K H v b ∧ Q (.bl b) H
theorem same_new {q : Addr} {H : Hp} {o : HO} (n : H q = none) : Same H (upd H q o) := fun b u h => by rw [upd_ne (ne_of_none h n)]; exact h
theorem abs_nn (i : Int) : 0 ≤ (if i < 0 then -i else i) := by split <;> omega
theorem cut_ints {ns : List Int} {lo hi : Option Int} : ∀ x ∈ cutV (ns.map V.int) lo hi, ∃ z, x = V.int z := fun x hx => by
  unfold cutV at hx
  obtain ⟨z, _, e⟩ := List.mem_map.mp (List.mem_of_mem_drop (List.mem_of_mem_take hx))
  exact ⟨z, e.symm⟩
/-! ### primes as tuples in a list -/
def TupsAt (H : Hp) : List V → List (Nat × Nat) → Prop
  | [], [] => True
  | v :: vs, x :: xs => (∃ t, v = .ref t ∧ H t = some (.tup [.int (x.1 : Nat), .int (x.2 : Nat)])) ∧ TupsAt H vs xs
  | _, _ => False
theorem TupsAt.imp {H H' : Hp} (h : ∀ t xs, H t = some (.tup xs) → H' t = some (.tup xs)) : ∀ {ws : List V} {L : List (Nat × Nat)}, TupsAt H ws L → TupsAt H' ws L
  | [], [], _ => trivial
  | v :: vs, x :: xs, ⟨⟨t, e, q⟩, r⟩ => ⟨⟨t, e, h _ _ q⟩, r.imp h⟩
theorem TupsAt.same {H H' : Hp} (s : Same H H') {ws : List V} {L : List (Nat × Nat)} (h : TupsAt H ws L) : TupsAt H' ws L := h.imp fun t xs q => s _ _ q
theorem TupsAt.upd {H : Hp} {l : Addr} {o : HO} {ys : List V} (hl : H l = some (.lst ys)) {ws : List V} {L : List (Nat × Nat)} (h : TupsAt H ws L) : TupsAt (upd H l o) ws L :=
  h.imp fun t xs q => by rw [upd_ne (ne_of q hl (by intro z; cases z))]; exact q
theorem TupsAt.snoc {H : Hp} {t : Addr} {x : Nat × Nat} (e : H t = some (.tup [.int (x.1 : Nat), .int (x.2 : Nat)])) : ∀ {ws : List V} {L : List (Nat × Nat)}, TupsAt H ws L → TupsAt H (ws ++ [.ref t]) (L ++ [x])
  | [], [], _ => ⟨⟨t, rfl, e⟩, trivial⟩
  | v :: vs, y :: ys, ⟨a, r⟩ => ⟨a, r.snoc e⟩
theorem TupsAt.len {H : Hp} : ∀ {ws : List V} {L : List (Nat × Nat)}, TupsAt H ws L → ws.length = L.length
  | [], [], _ => rfl
  | v :: vs, y :: ys, ⟨_, r⟩ => by rw [List.length_cons, List.length_cons, r.len]
theorem same_upd {H H' : Hp} {l : Addr} {o : HO} (s : Same H H') (hl : H l = none) : Same H (upd H' l o) := fun b u e => by
  rw [upd_ne (ne_of_none e hl)]
  exact s _ _ e
/-! ### primes as data -/
def ptup (x : Nat × Nat) : PyData := .tuple [.int (x.1 : Nat), .int (x.2 : Nat)]
theorem tups_isD {K : PySem.W.Frag} {H : Hp} : ∀ {ws : List V} {L : List (Nat × Nat)}, TupsAt H ws L → IsDs K H (L.map ptup) ws
  | [], [], _ => by simp only [List.map_nil, IsDs]
  | v :: vs, x :: xs, ⟨⟨t, e, q⟩, r⟩ => by
    simp only [List.map_cons, IsDs]
    refine ⟨v, vs, rfl, ?_, tups_isD r⟩
    simp only [ptup, IsD]
    exact ⟨t, _, e, SqT.of q, by simp [IsDs, IsD]⟩
theorem eqv_ptups : ∀ (L M : List (Nat × Nat)), PyData.eqvAll (L.map ptup) (M.map ptup) = decide (L = M)
  | [], [] => by simp [PyData.eqvAll]
  | [], m :: M => by simp [PyData.eqvAll]
  | x :: L, [] => by simp [PyData.eqvAll]
  | (a, b) :: L, (c, d) :: M => by
    have h1 : ((a : Int) == (c : Int)) = decide (a = c) := by
      rw [Bool.eq_iff_iff]; simp; omega
    have h2 : ((b : Int) == (d : Int)) = decide (b = d) := by
      rw [Bool.eq_iff_iff]; simp; omega
    simp only [List.map_cons, PyData.eqvAll, ptup, PyData.eqv, eqv_ptups L M, h1, h2, Bool.and_true]
    rw [Bool.eq_iff_iff]
    simp [and_assoc]
theorem lay_ptups : ∀ L : List (Nat × Nat), PyData.canLayAll0 (L.map ptup) = true
  | [] => by simp [PyData.canLayAll0]
  | x :: L => by simp [PyData.canLayAll0, ptup, PyData.canLay0, lay_ptups L]
theorem depth_ptups : ∀ L : List (Nat × Nat), PyData.depthAll (L.map ptup) ≤ 1
  | [] => by simp [PyData.depthAll]
  | x :: L => by
    have := depth_ptups L
    simp [PyData.depthAll, ptup, PyData.depth]
    omega
theorem shaped_ptups (L : List (Nat × Nat)) : PySem.SeqAt.shaped (.list (L.map ptup)) = true := by
  unfold PySem.SeqAt.shaped
  rw [Bool.and_eq_true]
  refine ⟨by simp only [PyData.canLay0]; exact lay_ptups L, decide_eq_true ?_⟩
  have := depth_ptups L
  simp only [PyData.depth]
  omega
def spIsPrime : Sp := fun vs H Q _ => ∃ i : Int, vs = [.int i] ∧ i < 2 ^ 60 ∧ ∀ (b : Bool) (H' : Hp), Same H H' → (b = true ↔ ∃ p : Nat, i = (p : Int) ∧ EM.IsPr p) → Q (.bl b) H'
/-! ### forms -/
theorem kit_tup_tup (K : PySem.W.Frag) : PySem.W.kitOne K (.type "tuple") (.type "tuple") = some true := by kernel_rfl

/-! ### a law's loop over its cells -/
theorem fn_mk {K : PySem.W.Frag} {x : Str} {st : Stmt} {f : Addr} {oc : Value} {od an : Option Addr} {osl : Array (Option Value)} {kV doc pm cdv ct : Value}
    (a : PySem.W.nsIn K mainGlobals x = some (some (.ref f)))
    (l : K.lookup f = some ⟨oc, od, .func (PySem.W.fnOf x x (defArgs st) (defBody st) (defScope st) .none kV doc pm an cdv ct), osl⟩)
    (c : PySem.W.codeIn K cdv x = true) (k : PySem.W.keepIn K (.ref f) = true) :
    ∃ (f : Addr) (fd : FuncData), PySem.W.nsIn K mainGlobals x = some (some (.ref f)) ∧ Fun K x x st f fd := ⟨f, _, a, fun_mk l c k⟩
def spLaw (K : PySem.W.Frag) : Sp := fun vs H Q _ => ∃ (a : Addr) (ns : List Int), vs = [.ref a] ∧ SqL K H a (ns.map V.int) ∧ ns.length ≤ 63 ∧ ∀ H', Q (.bl true) H'
theorem walk {l : PySem.W.OpenLaw} {q : Program} {loose : List Str} {XP : (Str → Option Value) → Heap → Prop} {YP : World → Heap → Prop} {d : DefRec} {K : Params → PySem.W.Frag} {k : Nat} (hr : Room k PySem.callerA) (hn : l.most = some 63) (hdf : d.params.defaults = [])
    (hY : ∀ (w : World) (h : Heap), YP w h → (K w.params).In h)
    (F : ∀ (w : World) (mg : Str → Option Value) (fa : Addr) (h : Heap), (K w.params).In h → h.Ns mainGlobals mg → mg d.name = some (.ref fa) →
      ∃ fd : FuncData, (∀ (s : Shared) (u : Value), BindsTo s fd ⟨[u], []⟩ [("_law_script", u)]) ∧ ∀ base : Heap, (K w.params).In base → base.Ns mainGlobals mg → FnOk l.prog w (K w.params) mg base CX0 k fa fd ["_law_script"] (spLaw (K w.params))) :
    PySem.W.WalkO q loose XP YP l.row.toRowW d [] (fun f vs => PySem.call f vs) :=
  L2.walk_of (n := 63) (k := k) (x := "_law_script") (CX := fun _ => CX0) (sp := fun w => spLaw (K w.params)) hn (by decide) hdf hr hY F (fun _ _ a ns hl _ hS => ⟨a, ns, rfl, hS, hl, fun _ => rfl⟩) fun _ _ _ _ _ z => z
abbrev At (K : PySem.W.Frag) (x : Str) (st : Stmt) : Prop := ∃ (f : Addr) (fd : FuncData), PySem.W.nsIn K mainGlobals x = some (some (.ref f)) ∧ Fun K x x st f fd

end E1
/-! EvLay: rules for sorted numbers, sets of numbers, lists taken so often, turned about, made of a range. Behind EvRange. -/
namespace L2
open PySem PySem.Spec PyProof.Rows
theorem ints_of_vals {ns : List Int} {us : List Value} (r : Vals (ns.map V.int) us) : IntsAre us ns := intsAre_of r
theorem vals_of_ints : ∀ {ns : List Int} {us : List Value}, IntsAre us ns → Vals (ns.map V.int) us
  | _, _, .nil => .nil
  | _, _, .cons n tk t => .cons ⟨tk, rfl⟩ (vals_of_ints t)
/-- sorted(list of numbers) -/
def rSortI (K : PySem.W.Frag) : List V → Hp → VK → Prop := fun xs H Q => ∃ (a : Addr) (ns : List Int), xs = [.ref a] ∧ SqL K H a (ns.map V.int) ∧ ns.length < 64 ∧ ∀ (l : Addr) (ns' : List Int), H l = none → ns'.Perm ns → ns'.Pairwise (· ≤ ·) → Q (.ref l) (upd H l (.lst (ns'.map V.int)))
theorem call_sortI {X : Cx} : CallR X (.builtin "sorted") (rSortI X.K) := by
  intro pins s σ H xs us Q I r h
  obtain ⟨a, ns, rfl, hq, h64, q⟩ := h
  obtain ⟨u, rfl, rx⟩ := vals1 r
  cases rx
  obtain ⟨its, r', pl, hz⟩ := I.list hq
  have hlen := r'.length
  rw [List.length_map] at hlen
  refine sorted_ints pl.isList (ints_of_vals r') (by omega) fun out ns' a1 a2 a3 => ?_
  obtain ⟨e, he⟩ := sortedAll_at s.heap its out
  have hl2 := a2.length_eq
  refine ⟨.ref (s.heap.objs.size + 1), _, I.laid (t' := s.toks) (o := .lst (ns'.map V.int)) (fun b o => sortedAll_old) (Nat.le_succ _) ?_, rfl, q _ _ (I.hok.fresh (Nat.le_succ _)) a2 a3⟩
  refine ⟨by rw [List.length_map, hl2]; exact Nat.le_trans (Nat.le_of_lt h64) (by decide), out.toList, e, vals_of_ints a1, ?_⟩
  rw [Array.toArray_toList]
  exact he
/-- list * number -/
def rMulL (K : PySem.W.Frag) : R2 := fun x y H Q => ∃ (a : Addr) (xs : List V) (n : Int), x = .ref a ∧ y = .int n ∧ SqL K H a xs ∧ n < 2 ^ 63 ∧ 0 ≤ n ∧ xs.length * n.toNat ≤ 65536 ∧ ∀ l, H l = none → Q (.ref l) (upd H l (.lst (List.replicate n.toNat xs).flatten))
theorem vals_flat {xs : List V} {us : List Value} (r : Vals xs us) : ∀ n, Vals (List.replicate n xs).flatten (List.replicate n us).flatten
  | 0 => .nil
  | n + 1 => by
    rw [List.replicate_succ, List.replicate_succ, List.flatten_cons, List.flatten_cons]
    exact r.append (vals_flat r n)
theorem op_mulL {X : Cx} : OpR X (binaryOp .Mult) (rMulL X.K) := by
  intro pins s σ H x y v u Q I rx ry h
  obtain ⟨a, xs, n, rfl, rfl, hx, hn, h0, hsz, q⟩ := h
  cases rx
  obtain ⟨tk, rfl⟩ := ry
  obtain ⟨its, r, pl, hz⟩ := I.list hx
  have hlen := r.length
  obtain ⟨⟨oc, od, odt, osl⟩, k, hl, e1, e2, e3⟩ := pl
  dsimp only at e1 e2 e3
  subst e1 e2 e3
  refine wpAny_binaryOp_repeat_ref (T := "list") (U := "int") (by decide) ⟨_, hl, rfl⟩ (fun s' => typeIs_int s' n tk) noFill_list_mul F.fills_int_mul F.slot_int_rmul repeat_list F.slot_int_index.lookup
    (call_meets F.slot_int_rmul (typeIs_int s n tk) F.entry_int_rmul (F.args_int_rmul_2 _ _) (lm_int_rmul_list_any n tk a its.toArray k _ _)
      ⟨hl, rfl, ⟨_, hl, rfl⟩, call_meets F.slot_list_mul ⟨_, hl, rfl⟩ F.entry_list_mul (F.args_list_mul_2 _ _)
        (lm_list_mul_any a its.toArray k _ _ n tk (by simp [Builtin.List.listFitsIndex]; omega) (by rw [List.size_toArray, ← hlen]; omega) (by rw [List.size_toArray, ← hlen]; simp [Builtin.List.listTooLong, sizeLine]; omega))
        ⟨hl, ?_⟩⟩)
  rw [listMul_foldl_if, List.toList_toArray]
  refine ⟨.ref s.heap.objs.size, _, I.laid (t' := s.toks) (o := .lst (List.replicate n.toNat xs).flatten) (fun b ob q => Heap.get?_push_of_some _ q) (Nat.le_refl _) ?_, rfl, q _ (I.hok.fresh (Nat.le_refl _))⟩
  refine ⟨?_, (List.replicate n.toNat its).flatten, 0, vals_flat r _, Heap.get?_push_size _ rfl⟩
  rw [List.length_flatten, List.map_replicate, List.sum_replicate_nat, Nat.mul_comm]
  exact Nat.le_trans hsz (by decide)
/-- a[::-1] -/
def rRev (K : PySem.W.Frag) : V → Hp → VK → Prop := fun x H Q => ∃ (a : Addr) (xs : List V), x = .ref a ∧ SqL K H a xs ∧ ∀ l, H l = none → Q (.ref l) (upd H l (.lst xs.reverse))
theorem vals_rev : ∀ {xs : List V} {us : List Value}, Vals xs us → Vals xs.reverse us.reverse
  | _, _, .nil => .nil
  | _, _, .cons h t => by
    rw [List.reverse_cons, List.reverse_cons]
    exact (vals_rev t).append (.cons h .nil)
/-! ### enumerate(list) -/
theorem Inv.turnedL {X : Cx} {pins : List (Addr × Obj)} {σ : St} {H : Hp} {s : Shared} {h' : Heap} {t' : Nat} {wr : List Addr} (I : Inv X pins σ H s) (k : ∀ b o, b ∉ wr → s.heap.get? b = some o → h'.get? b = some o) (hf : ∀ b ∈ wr, FpOk X pins H b) : Inv X pins σ H { s with heap := h', toks := t' } := by
  have nit : ∀ b u, H b = some u → b ∉ wr := fun b u e z => by rw [(hf b z).1] at e; cases e
  refine I.step (g' := s.gens) (d' := s.drawn) (ch := wr) (fun b hb => ?_) (fun b o _ _ hc e _ => k b o hc e) (fun b o _ _ hc e _ => ⟨o.slots, k b o hc e⟩) (fun _ _ _ _ n => n) (fun b o hc e => ⟨o, k b o hc e⟩) (fun _ _ e => e) (fun _ _ _ e => e) (fun b ps e => ⟨#[], by rw [e]; simp⟩) (fun m hm => ?_) (fun b u e => ?_) I.bare
  · obtain ⟨_, f1, _, f3, f4, f5⟩ := hf b hb
    exact ⟨f3, f1, f4, f5⟩
  · obtain ⟨o, es, ep, ho, r⟩ := hm
    exact ⟨o, es, ep, k _ o (fun z => (hf _ z).2.1 rfl) ho, r⟩
  · refine (I.hok b u e).stay (fun c v hc q => k c v ?_ q) (fun _ q => q) fun _ _ q => q
    rcases hc with z | z
    · exact z ▸ nit b u e
    · exact nit c _ z
theorem Inv.tracked {X : Cx} {pins : List (Addr × Obj)} {σ : St} {H : Hp} {s s' : Shared} {T : Addr} {o : HO} (I0 : Inv X pins σ H s) (I : Inv X pins σ H s') (hT : s.heap.objs.size ≤ T) (new : ObjOk X.prog X.w (upd H T o) s'.heap T o) : Inv X pins σ (upd H T o) s' := by
  obtain ⟨f0, f1, f2, f3, f4, f5⟩ := I0.fpOk (H' := H) hT (I0.hok.fresh hT)
  refine I.track f0 ?_ f1 f4 f5 new
  cases e : X.s₀.heap.get? T with
  | none => rfl
  | some ob => exact absurd (Nat.lt_of_lt_of_le (Heap.lt_size e) (Nat.le_trans I0.sz hT)) (Nat.lt_irrefl _)
section
variable {X : Cx} {elts : List Expr} {k : Nat} {tp : Pos}
end
/-- range(n) as a thing -/
theorem call_rng1 {X : Cx} : CallR X (.type "range") (fun xs H Q => ∃ n : Int, xs = [.int n] ∧ ∀ r, H r = none → Q (.ref r) (upd H r (.rng 0 n))) := by
  intro pins s σ H xs us Q I r h
  obtain ⟨n, rfl, q⟩ := h
  obtain ⟨u, rfl, rx⟩ := vals1 r
  obtain ⟨t, rfl⟩ := rx
  exact call_range_1 ⟨.ref s.heap.objs.size, _, I.laid (t' := s.toks + 1 + 1) (o := .rng 0 n) (fun b o e => Heap.get?_push_of_some _ e) (Nat.le_refl _) ⟨_, _, _, Heap.get?_push_size _ rfl⟩, rfl, q _ (I.hok.fresh (Nat.le_refl _))⟩
theorem items_nats {acc : Array Value} {n : Nat} (h : ItemsOf (fun i v => ∃ t, v = .int (0 + (i : Nat) * 1) t) acc n) : Vals ((List.range n).map fun p => V.int ((p : Nat) : Int)) acc.toList := by
  obtain ⟨hs, hv⟩ := h
  have key : ∀ (k : Nat) (l : List Value), (∀ (j : Nat) (v : Value), l[j]? = some v → ∃ t, v = Value.int ((k : Int) + (j : Int)) t) → Vals ((List.range' k l.length).map fun p => V.int ((p : Nat) : Int)) l := by
    intro k l
    induction l generalizing k with
    | nil => intro _; exact .nil
    | cons x l ih =>
      intro h
      rw [List.length_cons, List.range'_succ, List.map_cons]
      refine .cons ?_ (ih (k + 1) fun j v e => ?_)
      · obtain ⟨t, e⟩ := h 0 x rfl
        exact ⟨t, by rw [e]; simp⟩
      · obtain ⟨t, e'⟩ := h (j + 1) v e
        exact ⟨t, by rw [e']; congr 1; omega⟩
  have := key 0 acc.toList fun j v e => by
    obtain ⟨t, e'⟩ := hv j v (by simpa using e)
    exact ⟨t, by rw [e']; congr 1; omega⟩
  rw [Array.length_toList, hs] at this
  rw [List.range_eq_range']
  exact this
/-- list(range(n)) -/
theorem call_list_rng {X : Cx} (hc : X.calm = true) : CallR X (.type "list") (fun xs H Q => ∃ (r : Addr) (n : Nat), xs = [.ref r] ∧ H r = some (.rng 0 (n : Nat)) ∧ n ≤ 100000 ∧ ∀ l, H l = none → Q (.ref l) (upd H l (.lst ((List.range n).map fun p => V.int ((p : Nat) : Int))))) := by
  intro pins s σ H xs us Q I r h
  obtain ⟨a, n, rfl, ha, hn, q⟩ := h
  obtain ⟨u, rfl, rx⟩ := vals1 r
  cases rx
  obtain ⟨t, u, v, ho⟩ := (show ∃ t u v, s.heap.get? a = some { cls := .type "range", data := .fields #[.int 0 t, .int (n : Nat) u, .int 1 v] } from I.hok a _ ha)
  refine call_list_range (n := n) (I.ok.hd hc) ho (small_one (by decide) (by decide) (by omega) (by omega)) (by rw [rangeSize_one]; split <;> omega) (Nat.le_trans hn (by decide)) fun h' tk acc c kp hg hit => ?_
  refine ⟨.ref s.heap.objs.size, _, I.laid (t' := tk) kp (Nat.le_refl _) (show ObjOk X.prog X.w _ h' _ (.lst _) from ⟨by rw [List.length_map, List.length_range]; exact Nat.le_trans hn (by decide), acc.toList, c, items_nats hit, by rw [Array.toArray_toList]; exact hg⟩), rfl, q _ (I.hok.fresh (Nat.le_refl _))⟩
/-- names of builtins that the text does not give -/
structure TxtB (mg : Str → Option Value) : Prop where
  isi : mg "isinstance" = none
  int : mg "int" = none
  bool : mg "bool" = none
  abs : mg "abs" = none
  len : mg "len" = none
  range : mg "range" = none
  tup : mg "tuple" = none
  lst : mg "list" = none
  sor : mg "sorted" = none
  all : mg "all" = none
  set : mg "set" = none
  zip : mg "zip" = none
  enu : mg "enumerate" = none
  any : mg "any" = none
  max : mg "max" = none
  min : mg "min" = none
  str : mg "str" = none
  sum : mg "sum" = none
/-- a block: a list of numbers -/
def nats (L : List Nat) : List V := L.map fun p => V.int ((p : Nat) : Int)
theorem nats_ints (L : List Nat) : nats L = (L.map fun p => ((p : Nat) : Int)).map V.int := by simp [nats]
theorem nats_snoc (L : List Nat) (j : Nat) : nats (L ++ [j]) = nats L ++ [V.int (j : Int)] := by unfold nats; rw [List.map_append]; rfl
theorem nats_len (L : List Nat) : (nats L).length = L.length := by unfold nats; rw [List.length_map]
/-! ### a list or a tuple, gone through -/
/-! ### rules that name K, for comprehensions -/
theorem back_nats {b : List Nat} {ns : List Int} (hp : ns.Perm (b.map fun p => ((p : Nat) : Int))) (hs : ns.Pairwise (· ≤ ·)) : ∃ b' : List Nat, ns.map V.int = nats b' ∧ b'.Perm b ∧ b'.Pairwise (· ≤ ·) := by
  have hnn : ∀ x ∈ ns, 0 ≤ x := fun x hx => by
    obtain ⟨p, _, rfl⟩ := List.mem_map.mp (hp.mem_iff.mp hx)
    omega
  have e : ns = (ns.map Int.toNat).map fun p => ((p : Nat) : Int) := by
    rw [List.map_map]
    conv => lhs; rw [← List.map_id ns]
    exact List.map_congr_left fun x hx => by
      have := hnn x hx
      show x = ((x.toNat : Nat) : Int)
      omega
  refine ⟨ns.map Int.toNat, ?_, ?_, ?_⟩
  · rw [nats_ints, ← e]
  · have := hp.map Int.toNat
    rw [List.map_map] at this
    have e2 : (b.map (Int.toNat ∘ fun p => ((p : Nat) : Int))) = b := by
      conv => rhs; rw [← List.map_id b]
      exact List.map_congr_left fun x _ => by simp
    rwa [e2] at this
  · rw [List.pairwise_map]
    exact hs.imp fun h => by omega
theorem nats_get {b : List Nat} {j : Nat} {x : V} (h : (nats b)[j]? = some x) : ∃ p : Nat, b[j]? = some p ∧ x = V.int ((p : Nat) : Int) := by
  unfold nats at h
  rw [List.getElem?_map] at h
  cases e : b[j]? with
  | none => rw [e] at h; cases h
  | some p => rw [e] at h; cases h; exact ⟨p, rfl, rfl⟩
theorem ints_isD' {K : PySem.W.Frag} {H : Hp} : ∀ L : List Nat, IsDs K H (L.map fun p => PyData.int ((p : Nat) : Int)) (nats L)
  | [] => by simp [nats, IsDs]
  | p :: L => by
    simp only [nats, List.map_cons, IsDs]
    exact ⟨_, _, rfl, by simp [IsD], ints_isD' L⟩
theorem lay_ints' : ∀ L : List Nat, PyData.canLayAll0 (L.map fun p => PyData.int ((p : Nat) : Int)) = true
  | [] => by simp [PyData.canLayAll0]
  | x :: L => by simp [PyData.canLayAll0, PyData.canLay0, lay_ints' L]
theorem depth_ints' : ∀ L : List Nat, PyData.depthAll (L.map fun p => PyData.int ((p : Nat) : Int)) ≤ 1
  | [] => by simp [PyData.depthAll]
  | x :: L => by
    have := depth_ints' L
    simp [PyData.depthAll, PyData.depth]
    omega
def dBlk (L : List Nat) : PyData := .list (L.map fun p => PyData.int ((p : Nat) : Int))
theorem shaped_blk (L : List Nat) : PySem.SeqAt.shaped (dBlk L) = true := by
  unfold PySem.SeqAt.shaped dBlk
  rw [Bool.and_eq_true]
  refine ⟨by simp only [PyData.canLay0]; exact lay_ints' L, decide_eq_true ?_⟩
  have := depth_ints' L
  simp only [PyData.depth]
  omega
theorem cut_from {xs : List V} {k : Nat} (hk : k ≤ xs.length) : cutV xs (some (k : Int)) none = xs.drop k := by
  unfold cutV
  have h1 : HT.sIx xs.length 0 (some (k : Int)) = k := by rw [HT.sIx_nat]; omega
  have h2 : HT.sIx xs.length xs.length none = xs.length := by simp [HT.sIx]
  rw [h1, h2, List.take_of_length_le (by rw [List.length_drop]; exact Nat.le_refl _)]
theorem cut_to {xs : List V} {k : Nat} (hk : k ≤ xs.length) : cutV xs none (some (k : Int)) = xs.take k := by
  unfold cutV
  have h1 : HT.sIx xs.length 0 none = 0 := by simp [HT.sIx]
  have h2 : HT.sIx xs.length xs.length (some (k : Int)) = k := by rw [HT.sIx_nat]; omega
  rw [h1, h2, List.drop_zero, Nat.sub_zero]
theorem seqVia {t rest : TS} {D : Ends} {σ : St} {H : Hp} (J : St → Hp → Prop) (hJ : ∀ σ' H', J σ' H' → rest D σ' H') (h : ∀ D' : Ends, (∀ σ' H', J σ' H' → D'.nx σ' H') → t D' σ H) : tSeq t rest D σ H := h { D with nx := rest D } hJ
theorem eqv_ints' : ∀ L : List Nat, PyData.eqvAll (L.map fun p => PyData.int ((p : Nat) : Int)) (L.map fun p => PyData.int ((p : Nat) : Int)) = true
  | [] => by simp [PyData.eqvAll]
  | x :: L => by simp [PyData.eqvAll, PyData.eqv, eqv_ints' L]
def dTup (L : List Nat) : PyData := .tuple (L.map fun p => PyData.int ((p : Nat) : Int))
theorem cut_le {xs : List V} {k : Nat} : cutV xs none (some (k : Int)) = xs.take k := by
  by_cases hk : k ≤ xs.length
  · exact cut_to hk
  · unfold cutV
    have h1 : HT.sIx xs.length 0 none = 0 := by simp [HT.sIx]
    have h2 : HT.sIx xs.length xs.length (some (k : Int)) = xs.length := by rw [HT.sIx_nat]; omega
    rw [h1, h2, List.drop_zero, Nat.sub_zero, List.take_length, List.take_of_length_le (by omega)]
/-! ### a[i] += .. -/
def rGetN (K : PySem.W.Frag) : V → V → Hp → VK → Prop := fun x y H Q => ∃ (p : Addr) (xs : List V) (i : Int) (z : V), x = .ref p ∧ y = .int i ∧ SqL K H p xs ∧ 0 ≤ i ∧ atI xs i = some z ∧ Q z H
theorem get_listN {X : Cx} : PGet X (rGetN X.K) := by
  intro pins s σ H x y v u Q I rx ry h
  obtain ⟨p, xs, i, z, rfl, rfl, hq, h0, he, q⟩ := h
  cases rx
  obtain ⟨t, rfl⟩ := ry
  obtain ⟨its, r, pl, hz⟩ := I.list hq
  obtain ⟨j, h1, h2, h3, h4, h5⟩ := atI_get he
  obtain ⟨w, ew, rw'⟩ := r.get h2
  have hl := r.length
  have hn := line63
  have fin : EP X pins σ Q w s := ⟨z, H, I, rw', q⟩
  have hj : i.toNat = j := by
    rw [seqIndex_of h0 h5] at h1
    exact Option.some.inj h1
  exact wpAny_getItem_list pl.isList h0 (by omega) (by rw [hj]; simpa using ew) fin
end L2
/-! EvSort: sorted of a list of pairs of numbers: the same pairs in some order. Behind EvLay. -/
namespace L2
open PySem PySem.Spec PyProof.Rows PySem.W
section
variable {n : Nat} (hn : 0 < n)
include hn
end
section
variable {prog : Program} {w : World} {A : Around} {E : Value → Shared → Prop} {s : Shared}
end
end L2
/-! EvMul: tuple * number. Behind EvLay. -/
namespace PySem
open Sem (wp)
open Builtin
end PySem
namespace L2
open PySem PySem.Spec PyProof.Rows
end L2
namespace HT2
open PySem PySem.Spec PyProof.Rows HT
variable {prog : Program} {w : World} {A : Around} {E : Value → Shared → Prop} {s : Shared}
end HT2
namespace L2
open PySem PySem.Spec PyProof.Rows
end L2
/-! EvZip: zip of a tuple and a list. Behind EvLay. -/
namespace L2
open PySem PySem.Spec PyProof.Rows
section
variable {prog : Program} {w : World} {A : Around} {E : Value → Shared → Prop} {s : Shared}
/-- the next of a tuple's iterator, asked by a builtin -/
theorem nextT_item {it t : Addr} {i : Nat} {its : Array Value} {x : Value} {Q : Value → Shared → Prop} (hi : s.heap.IsTupleIter it t i) (ht : s.heap.IsTuple t its) (hx : its[i]? = some x)
    (hQ : ∀ h', h'.IsTupleIter it t (i + 1) → Heap.SameBut it s.heap h' → Q x { s with heap := h' }) : wpAny (model prog w) A (Builtin.SmallTypes.nextOf (.ref it)) Q E s := by
  obtain ⟨oi, gi, ci, di⟩ := id hi
  obtain ⟨ot, gt, _, nt, dt⟩ := ht
  unfold Builtin.SmallTypes.nextOf
  refine wpAny_bind (wpAny_callSpecial?_slot (name := Str.ofString "__next__") hi.typeIs PySem.F.slot_tuple_iterator_next (wpAny_call_entry PySem.F.slot_tuple_iterator_next hi.typeIs PySem.F.entry_tuple_iterator_next ?_ (PySem.F.args_tuple_iterator_next_1 _)))
  show wpAny _ _ (field (.ref it) 0 >>= _) _ _ s; refine wpAny_bind (wpAny_field gi di (x := .ref t) rfl ?_)
  show wpAny _ _ (if (Value.ref t == Value.none) = true then _ else _) _ _ s; rw [if_neg (show ¬ ((Value.ref t == Value.none) = true) from Bool.false_ne_true)]
  show wpAny _ _ (field (.ref it) 1 >>= _) _ _ s; refine wpAny_bind (wpAny_field gi di (x := .int i 0) rfl ?_)
  show wpAny _ _ (seqItems? (.ref t) >>= _) _ _ s; refine wpAny_bind (wpAny_seqItems gt dt ?_)
  simp only [Int.toNat_natCast, hx]
  have hn : ∀ f, (s.heap.update it (Obj.mapFields f)).get? it = some (Obj.mapFields f oi) := fun f => Heap.get?_update_self _ gi (Obj.isFreed_of_fields (Obj.data_mapFields di _))
  refine wpAny_bind (wpAny_setField gi di (by simp) (wpAny_pure ⟨x, rfl, wpAny_pure (hQ _ ⟨_, hn _, (Obj.cls_mapFields ..).trans ci, ?_⟩ (Heap.SameBut.update ..))⟩))
  rw [Obj.data_mapFields di]; simp [rawInt]
theorem nextT_end {it t : Addr} {i : Nat} {its : Array Value} {Q : Value → Shared → Prop} (hh : A.handled = none) (hi : s.heap.IsTupleIter it t i) (ht : s.heap.IsTuple t its) (hx : its[i]? = none)
    (hE : ∀ h' e, Heap.ExtBut it s.heap h' → (∃ o, h'.get? e = some o ∧ o.cls = .type "StopIteration") → E (.ref e) { s with heap := h' }) : wpAny (model prog w) A (Builtin.SmallTypes.nextOf (.ref it)) Q E s := by
  obtain ⟨oi, gi, ci, di⟩ := id hi
  obtain ⟨ot, gt, _, nt, dt⟩ := ht
  unfold Builtin.SmallTypes.nextOf
  refine wpAny_bind (wpAny_callSpecial?_slot (name := Str.ofString "__next__") hi.typeIs PySem.F.slot_tuple_iterator_next (wpAny_call_entry PySem.F.slot_tuple_iterator_next hi.typeIs PySem.F.entry_tuple_iterator_next ?_ (PySem.F.args_tuple_iterator_next_1 _)))
  show wpAny _ _ (field (.ref it) 0 >>= _) _ _ s; refine wpAny_bind (wpAny_field gi di (x := .ref t) rfl ?_)
  show wpAny _ _ (if (Value.ref t == Value.none) = true then _ else _) _ _ s; rw [if_neg (show ¬ ((Value.ref t == Value.none) = true) from Bool.false_ne_true)]
  show wpAny _ _ (field (.ref it) 1 >>= _) _ _ s; refine wpAny_bind (wpAny_field gi di (x := .int i 0) rfl ?_)
  show wpAny _ _ (seqItems? (.ref t) >>= _) _ _ s; refine wpAny_bind (wpAny_seqItems gt dt ?_)
  simp only [Int.toNat_natCast, hx]
  refine wpAny_bind (wpAny_rule (wpAny_bind (wpAny_setField gi di (by simp) ?_)))
  show wpAny _ _ (newExc (.type "StopIteration") [] >>= _) _ _ _; refine wpAny_bind ?_
  simp only [newExc, newTuple]; refine wpAny_bind (wpAny_newObj_type ?_ (by size_fits))
  refine wpAny_bind (m := firstArgMember _ _) (wpAny_of_eq (a := Value.none) (by first | rfl | (simp only [firstArgMember]; rfl)) (wpAny_newObj_type ?_ (by size_fits)))
  simp only [raiseNew]; refine wpAny_bind (wpAny_handled ?_)
  first | rw [show A.in1.handled = none from hh] | rw [hh]
  exact wpAny_bind (wpAny_pure (wpAny_throw (hE _ _ (((Heap.SameBut.update ..).extBut.push _).push _) ⟨_, Heap.get?_push_size _ rfl, rfl⟩)))
end
section
variable {prog : Program} {w : World} {A : Around} {E : Value → Shared → Prop} {s : Shared}
end
section
variable {X : Cx} {elts : List Expr} {k : Nat} {tp : Pos}
end
end L2
/-! EvTold: loops by steps, zip of two lists, a def that calls itself. Behind EvMul. -/
namespace L2
open PySem PySem.Spec PyProof.Rows
theorem for_its {lo c : Int} {n : Nat} {g : TG} {tb : TS} {D : Ends} {σ : St} {H : Hp} (Pv : Nat → St → Hp → Prop) (h0 : Pv 0 σ H)
    (hs : ∀ i σ H, i < n → Pv i σ H → g (.int (lo + (i : Nat) * c)) σ H fun σ2 H2 => tb { D with nx := Pv (i + 1), ct := Pv (i + 1), bk := D.nx } σ2 H2) (hd : ∀ σ H, Pv n σ H → D.nx σ H) :
    ∃ W : Nat → Nat → St → Hp → Prop, (∃ m, W 0 m σ H) ∧ ∀ i m σ H, W i m σ H →
      ((Its lo c n).stop i H ∧ D.nx σ H) ∨ ((Its lo c n).go i H ∧ ∃ N : St → Hp → Prop, (∀ σ' H', N σ' H' → ∃ m', m' < m ∧ W (i + 1) m' σ' H') ∧ ∀ x H', (Its lo c n).yld i H x H' → g x σ H' fun σ2 H2 => tb { D with nx := N, ct := N, bk := D.nx } σ2 H2) := by
  refine ⟨fun i m σ H => m = n - i ∧ i ≤ n ∧ Pv i σ H, ⟨n, by simp, Nat.zero_le _, h0⟩, ?_⟩
  rintro i m σ H ⟨rfl, hi, p⟩
  by_cases hlt : i < n
  · refine .inr ⟨hlt, Pv (i + 1), fun σ' H' p' => ⟨n - (i + 1), by omega, rfl, hlt, p'⟩, fun v H' hy => ?_⟩
    obtain ⟨e, rfl⟩ := hy
    subst e
    exact hs i σ _ hlt p
  · have e : i = n := by omega
    subst e
    exact .inl ⟨Nat.le_refl _, hd σ H p⟩
section
variable {X : Cx} {elts : List Expr} {k : Nat} {tp : Pos}
end
end L2
/-! EvEnt: enumerate of a tuple, values of an `or`, a list taken apart. Behind EvTold and EvZip. -/
namespace L2
open PySem PySem.Spec PyProof.Rows
section
variable {prog : Program} {w : World} {A : Around} {E : Value → Shared → Prop} {s : Shared}
theorem tup_ne_it {h : Heap} {t it : Addr} {its : Array Value} {i : Nat} (p : h.IsTuple t its) (q : h.IsTupleIter it t i) : t ≠ it := fun z => by
  obtain ⟨o, ho, hc, _⟩ := q
  obtain ⟨o', ho', hc', _⟩ := p
  rw [z, ho] at ho'
  cases ho'
  rw [hc] at hc'
  exact absurd hc' (by decide)
theorem enum_ne_tup {h : Heap} {e it t : Addr} {its : Array Value} {i : Int} {old : Value} (q : IsEnum h e it i old) (p : h.IsTuple t its) : e ≠ t := fun z => by
  obtain ⟨o', ho', hc', _⟩ := p
  rw [← z, q] at ho'
  cases ho'
  exact absurd (show Value.type "enumerate" = Value.type "tuple" from hc') (by decide)
theorem drawsT (hh : A.handled = none) {it t : Addr} (hne : t ≠ it) (its : Array Value) : Draws prog w A it [it, t] its.size (fun i v => its[i]? = some v) (fun i h => h.IsTupleIter it t i ∧ h.IsTuple t its) where
  live := fun _ _ st => by
    obtain ⟨⟨o, ho, _⟩, _⟩ := st
    exact ⟨o, ho⟩
  frame := fun _ _ _ st hk => ⟨st.1.at fun o e => hk it (by simp) o e, st.2.at fun o e => hk t (by simp) o e⟩
  item := fun i s Q E hi st hQ => nextT_item st.1 st.2 (x := its[i]) (by simp [hi]) fun h' j sb => hQ _ h' s.toks (by simp [hi]) ⟨j, st.2.extBut sb.extBut hne⟩ sb
  done := fun s Q E st hE => nextT_end hh st.1 st.2 (by simp) hE
abbrev et1 (h : Heap) (t : Addr) : Heap := h.push { cls := .type "tuple_iterator", data := .fields #[.ref t, .int 0 0] }
abbrev et2 (h : Heap) (t : Addr) : Heap := (et1 h t).push { cls := .type "enumerate", data := .fields #[.none, .bool false, .ref h.objs.size, rawInt 0, .none, .none] }
theorem enumT_new (t : Addr) (its : Array Value) :
    Meets (Builtin.«enumerate.__new__» ⟨[.type "enumerate", .ref t], []⟩) (fun _ R s => s.heap.IsTuple t its ∧ R (.ok (.ret (.ref (et1 s.heap t).objs.size))) { s with heap := et2 s.heap t }) :=
  .of_wp fun prog w A R s h => by
    obtain ⟨hp, g, d, tk, os⟩ := s; obtain ⟨g1, h⟩ := h
    have hsub := sub_enumerate
    have a1 : Heap.IsTuple (Shared.heap ⟨hp, g, d, tk, os⟩) t its := g1
    obtain ⟨⟨oc, od, odt, osl⟩, hl, hc, n, hd⟩ := id g1
    replace hc : oc = .type "tuple" := hc
    replace hd : odt = .seq its n := hd
    subst hc hd
    wp_walk using AutoSeq1.wpAny_loadPart' hl
    refine wpAny_stack_any fun st => wpAny_pure ?_
    split
    · rename_i c _ _ _ _ _
      cases (c == Value.type "enumerate")
      · wp_walk using AutoSeq1.wpAny_loadPart' hl, wpAny_pyIter_tuple a1
        exact ⟨_, rfl, h⟩
      · wp_walk using AutoSeq1.wpAny_loadPart' hl, wpAny_pyIter_tuple a1
        exact ⟨_, rfl, h⟩
    · wp_walk using AutoSeq1.wpAny_loadPart' hl, wpAny_pyIter_tuple a1
      exact ⟨_, rfl, h⟩
theorem call_enumT {t : Addr} {its : Array Value} {Q : Value → Shared → Prop} (g1 : s.heap.IsTuple t its)
    (h : ∀ h', IsEnum h' (s.heap.objs.size + 1) s.heap.objs.size 0 .none → h'.IsTupleIter s.heap.objs.size t 0 → (∀ c o, s.heap.get? c = some o → h'.get? c = some o) → Q (.ref (s.heap.objs.size + 1)) { s with heap := h' }) :
    wpAny (model prog w) A (call (.type "enumerate") [.ref t]) Q E s := by
  refine callType_new PySem.F.called_enumerate (by decide) (PySem.F.typeCall_enumerate_1 _) (PySem.F.newCall_enumerate_1 _) (fun obj => PySem.F.args_object_init_2 obj _) PySem.F.entry_enumerate_new (enumT_new t its) ⟨g1, ?_⟩
  have n1 : (et1 s.heap t).objs.size = s.heap.objs.size + 1 := Heap.size_push ..
  have q2 : (et2 s.heap t).get? (et1 s.heap t).objs.size = some _ := Heap.get?_push_size _ rfl
  have q1 : (et2 s.heap t).get? s.heap.objs.size = some _ := Heap.get?_push_of_some _ (Heap.get?_push_size _ rfl)
  show _ ∧ _
  rw [n1] at q2
  rw [n1]
  exact ⟨⟨_, q2, rfl⟩, h _ q2 ⟨_, q1, rfl, rfl⟩ fun c o q => Heap.get?_push_of_some _ (Heap.get?_push_of_some _ q)⟩
end
/-- the pairs (number, item) of a tuple -/
def Itet (K : PySem.W.Frag) (a : Addr) : It :=
  ⟨fun i H => ∃ xs x, SqT K H a xs ∧ xs[i]? = some x, fun i H v H' => ∃ T x, (∀ xs, SqT K H a xs → xs[i]? = some x) ∧ H T = none ∧ v = .ref T ∧ H' = upd H T (.tup [.int (i : Nat), x]), fun i H => ∃ xs, SqT K H a xs ∧ xs.length = i⟩
theorem turn_enumT {P : Program} {w : World} {K : PySem.W.Frag} {elts : List Expr} {k : Nat} {tp : Pos} (l e it : Addr) (hei : e ≠ it) : Turn P w K (.Tuple elts k tp) (Itet K l) [e, it] e (fun i h => (∃ old, IsEnum h e it ((i : Nat) : Int) old) ∧ h.IsTupleIter it l i) where
  mem := by simp
  obj := fun i h st b hb => by
    obtain ⟨⟨old, he⟩, o, ho, hc, hd⟩ := st
    simp only [List.mem_cons, List.not_mem_nil, or_false] at hb
    rcases hb with rfl | rfl
    · exact ⟨_, he, fun v z => by cases z⟩
    · exact ⟨o, ho, fun v z => by rw [hd] at z; cases z⟩
  keep := fun i h h' st kp => ⟨⟨_, kp e (by simp) _ st.1.choose_spec⟩, st.2.at fun o q => kp it (by simp) o q⟩
  item := by
    intro X hP hw hK hc i pins s σ H E I hf st hg
    subst hP hw hK
    obtain ⟨xs, x, hq, hx⟩ := hg
    obtain ⟨its, rv, p, hz⟩ := I.tuple hq
    obtain ⟨u, hu, ru⟩ := rv.get hx
    obtain ⟨⟨old, he⟩, hit⟩ := st
    have hlt : ∀ b ∈ [e, it], b ≠ s.heap.objs.size := fun b hb z => by
      simp only [List.mem_cons, List.not_mem_nil, or_false] at hb
      rcases hb with rfl | rfl
      · exact absurd (z ▸ Heap.lt_size he) (Nat.lt_irrefl _)
      · obtain ⟨_, ho, _⟩ := hit
        exact absurd (z ▸ Heap.lt_size ho) (Nat.lt_irrefl _)
    have fr : H s.heap.objs.size = none := I.hok.fresh (Nat.le_refl _)
    have p' : s.heap.IsTuple l its.toArray := p
    have hlen := rv.length
    have hil := (List.getElem?_eq_some_iff.mp hx).1
    refine wpAny_pyNext_enum_itemD (drawsT (show X.A.in1.handled = none from I.ok.hd hc) (tup_ne_it p' hit) its.toArray) he ⟨hit, p'⟩ (by rw [List.size_toArray]; omega) hei (by
      simp only [List.mem_cons, List.not_mem_nil, or_false, not_or]
      exact ⟨hei, enum_ne_tup he p'⟩) fun y h' tk hy ho hit2 hT hsz hk => ?_
    have hit' := hit2.1
    have ey : y = u := by
      rw [List.getElem?_toArray, hu] at hy
      exact (Option.some.inj hy).symm
    subst ey
    have I1 : Inv X pins σ H { s with heap := h', toks := tk + 1 } := I.turnedL (wr := [e, it]) (fun b o hb q => hk b o (fun z => hb (by simp [z])) (fun z => hb (by simp [z])) q) hf
    have I2 : Inv X pins σ (upd H s.heap.objs.size (.tup [.int (i : Nat), x])) { s with heap := h', toks := tk + 1 } := I.tracked I1 (Nat.le_refl _) ⟨by show 2 ≤ sizeLine; decide, [.int i tk, y], .cons ⟨_, rfl⟩ (.cons ru .nil), ⟨_, hT, rfl, _, rfl⟩⟩
    have hf2 : ∀ b ∈ [e, it], FpOk X pins (upd H s.heap.objs.size (.tup [.int (i : Nat), x])) b := fun b hb => by
      obtain ⟨f0, f1, f2, f3, f4, f5⟩ := hf b hb
      exact ⟨by rw [upd_ne (hlt b hb)]; exact f0, f1, f2, f3, f4, f5⟩
    refine ⟨_, rfl, wpAny_letOwnedTupleGo_enum ho fun h'' he' hs' => ?_⟩
    refine ⟨.ref s.heap.objs.size, _, I2.turnedL (wr := [e]) (t' := tk + 1) (fun b o hb q => (hs'.2 b (fun z => hb (by simp [z]))).trans q) (fun b hb => hf2 b (by rw [List.mem_singleton.mp hb]; simp)), rfl, ⟨_, x, fun ys hy => by rw [I.tuple_inj hy hq]; exact hx, fr, rfl, rfl⟩, ⟨⟨_, by simpa using he'⟩, hit'.at fun o q => (hs'.2 it hei.symm).trans q⟩, fun b hb => (hf2 b hb).1⟩
  done := by
    intro X hP hw hK hc i pins s σ H E I hf st hg
    subst hP hw hK
    obtain ⟨xs, hq, hx⟩ := hg
    obtain ⟨its, rv, p, hz⟩ := I.tuple hq
    have hl := rv.length
    obtain ⟨⟨old, he⟩, hit⟩ := st
    have p' : s.heap.IsTuple l its.toArray := p
    have hsz : its.toArray.size = i := by rw [List.size_toArray]; omega
    have D := drawsT (prog := X.prog) (w := X.w) (show X.A.in1.handled = none from I.ok.hd hc) (tup_ne_it p' hit) its.toArray
    rw [hsz] at D
    exact wpAny_pyNext_enum_endD D he ⟨hit, p'⟩ fun h' eb => ⟨rfl, I.turnedL (wr := [it]) (t' := s.toks) (fun b o hb q => eb b o (fun z => hb (by simp [z])) q) (fun b hb => hf b (by rw [List.mem_singleton.mp hb]; simp))⟩
  self := fun _ _ _ _ _ st h => wpAny_pyIter_enum st.1.choose_spec h
section
variable {X : Cx} {elts : List Expr} {k : Nat} {tp : Pos}
def iEnumT (K : PySem.W.Frag) (ta : TA) : TI := fun σ H R => ta σ H fun vs H1 => ∃ a, vs = [.ref a] ∧ (∃ xs, SqT K H1 a xs) ∧ R (Itet K a) H1
theorem pi_enumT {a : Expr} {ta : TA} {p pos : Pos} (hg : Gl X "enumerate") (hm : X.mg "enumerate" = none) (ha : PA X [a] ta) (hs : starEach [a] X.env = [(false, eval a X.env)] := by rfl) : PI X (.Tuple elts k tp) (.Call (.Name "enumerate" p) [a] [] pos) (iEnumT X.K ta) := by
  intro pins s σ H R I h
  refine Call_ (ld_blt I hg hm (show bootBuiltins "enumerate" = some (.type "enumerate") by decide +kernel) (PyProof.Rows.callWith_type1 (thn (ha pos pins s σ H _ I h) fun us s1 ⟨vs, H1, I1, r1, q1⟩ => ?_) (by rw [hs]; rfl) (by rfl)))
  obtain ⟨a, e, ⟨xs, hq⟩, q⟩ := q1
  subst e
  obtain ⟨u, rfl, rx⟩ := vals1 r1
  cases rx
  obtain ⟨its, rv, pl, hz⟩ := I1.tuple hq
  refine call_enumT pl fun h' he hit kp => ?_
  have I2 : Inv X pins σ H1 { s1 with heap := h' } := I1.kept (t' := s1.toks) kp
  refine wpAny_pyIter_enum he ?_
  refine ⟨s1.heap.objs.size + 1, [s1.heap.objs.size + 1, s1.heap.objs.size], _, _, H1, rfl, I2, turn_enumT a _ _ (Nat.succ_ne_self _), ⟨⟨_, he⟩, hit⟩, fun b hb => ?_, q⟩
  simp only [List.mem_cons, List.not_mem_nil, or_false] at hb
  rcases hb with rfl | rfl
  · exact I1.fpOk (Nat.le_succ _) (I1.hok.fresh (Nat.le_succ _))
  · exact I1.fpOk (Nat.le_refl _) (I1.hok.fresh (Nat.le_refl _))
theorem qi_enumT {a : Expr} {ta : TA} {p pos : Pos} (hg : Gl X "enumerate") (hm : X.mg "enumerate" = none) (ha : QA X [a] ta) (hs : starEach [a] X.env = [(false, eval a X.env)] := by rfl) : QI X (.Tuple elts k tp) (.Call (.Name "enumerate" p) [a] [] pos) (iEnumT X.K ta) := ⟨pi_enumT hg hm ha.h hs⟩
end
theorem for_enumT {K : PySem.W.Frag} {a : Addr} {xs : List V} {g : TG} {tb : TS} {D : Ends} {σ : St} {H : Hp} (Pv : Nat → St → Hp → Prop) (h0 : Pv 0 σ H) (hl : ∀ i σ H, i ≤ xs.length → Pv i σ H → SqT K H a xs)
    (hs : ∀ i x T σ H, xs[i]? = some x → Pv i σ H → H T = none → g (.ref T) σ (upd H T (.tup [.int (i : Nat), x])) fun σ2 H2 => tb { D with nx := Pv (i + 1), ct := Pv (i + 1), bk := D.nx } σ2 H2) (hd : ∀ σ H, Pv xs.length σ H → D.nx σ H) :
    ∃ W : Nat → Nat → St → Hp → Prop, (∃ m, W 0 m σ H) ∧ ∀ i m σ H, W i m σ H →
      ((Itet K a).stop i H ∧ D.nx σ H) ∨ ((Itet K a).go i H ∧ ∃ N : St → Hp → Prop, (∀ σ' H', N σ' H' → ∃ m', m' < m ∧ W (i + 1) m' σ' H') ∧ ∀ x H', (Itet K a).yld i H x H' → g x σ H' fun σ2 H2 => tb { D with nx := N, ct := N, bk := D.nx } σ2 H2) := by
  refine ⟨fun i m σ H => m = xs.length - i ∧ i ≤ xs.length ∧ Pv i σ H, ⟨xs.length, by simp, Nat.zero_le _, h0⟩, ?_⟩
  rintro i m σ H ⟨rfl, hi, p⟩
  have q := hl i σ H hi p
  by_cases hlt : i < xs.length
  · refine .inr ⟨⟨xs, xs[i], q, by simp [hlt]⟩, Pv (i + 1), fun σ' H' p' => ⟨xs.length - (i + 1), by omega, rfl, hlt, p'⟩, fun v H' y => ?_⟩
    obtain ⟨T, x, hx, hT, rfl, rfl⟩ := y
    exact hs i x T σ _ (hx xs q) p hT
  · have e : i = xs.length := by omega
    subst e
    exact .inl ⟨⟨xs, q, rfl⟩, hd σ H p⟩
end L2
/-! EvIdx: places in tuples and lists from a start on, tuples whose object is known, lists taken apart, values of an `or`. Behind EvEnt. -/
namespace L2
open PySem PySem.Spec PyProof.Rows
section
variable {prog : Program} {w : World} {A : Around} {E : Value → Shared → Prop} {s : Shared}
end
/-! ### places from a start on -/
end L2
/-! EvKw: enumerate(tuple, start=k), sum of a list of numbers. Behind EvIdx. -/
namespace L2
open PySem PySem.Spec PyProof.Rows
abbrev et2K (h : Heap) (t : Addr) (k : Nat) : Heap := (et1 h t).push { cls := .type "enumerate", data := .fields #[.none, .bool false, .ref h.objs.size, rawInt ((k : Nat) : Int), .none, .none] }
theorem initKw {T newId : String} {self a : Value} {kw : List (Str × Value)} (hl : typeLookup (.type T) "__init__" = pure (some (.builtin "object.__init__"))) (hm : Bind.madeBy (.type T) = pure (some newId)) (hne : (some newId != some "object.__new__") = true) :
    Meets (Builtin.«object.__init__» ⟨[self, a], kw⟩) (fun _ R s => s.TypeIs self T ∧ R (.ok (.ret .none)) s) := .of_wp fun prog w A R s hs => by
  obtain ⟨hT, hq⟩ := hs
  repeat (any_goals (first | assumption | wp_step))
  exact ⟨_, rfl, hq⟩
theorem fits_small {k : Nat} (hk : k < 1000) : (!Builtin.SmallTypes.fitsIndex ((k : Nat) : Int)) = false := by
  simp [Builtin.SmallTypes.fitsIndex]
  omega
theorem enumK_new (t : Addr) (its : Array Value) (k : Nat) (kt : Tok) (hk : k < 1000) :
    Meets (Builtin.«enumerate.__new__» ⟨[.type "enumerate", .ref t], [("start", .int ((k : Nat) : Int) kt)]⟩) (fun _ R s => s.heap.IsTuple t its ∧ R (.ok (.ret (.ref (et1 s.heap t).objs.size))) { s with heap := et2K s.heap t k }) :=
  .of_wp fun prog w A R s h => by
    obtain ⟨hp, g, d, tk, os⟩ := s; obtain ⟨g1, h⟩ := h
    have hsub := sub_enumerate
    have a1 : Heap.IsTuple (Shared.heap ⟨hp, g, d, tk, os⟩) t its := g1
    obtain ⟨⟨oc, od, odt, osl⟩, hl, hc, n, hd⟩ := id g1
    replace hc : oc = .type "tuple" := hc
    replace hd : odt = .seq its n := hd
    subst hc hd
    have hfit := fits_small hk
    wp_walk using AutoSeq1.wpAny_loadPart' hl
    refine wpAny_stack_any fun st => wpAny_pure ?_
    split
    · rename_i c _ _ _ _ _
      cases (c == Value.type "enumerate")
      · simp only [Bool.false_eq_true, if_false]
        refine wpAny_bind ?_; refine wpAny_of_eq (a := (Value.ref t, some (Value.int ((k : Nat) : Int) kt))) ?_ ?_
        · kernel_rfl
        revert hfit
        generalize Builtin.SmallTypes.fitsIndex = fi
        intro hfi
        wp_walk using wpAny_pyIter_tuple a1
        exact ⟨_, rfl, h⟩
      · simp only [if_true]
        refine wpAny_bind ?_; refine wpAny_of_eq (a := (Value.ref t, some (Value.int ((k : Nat) : Int) kt))) ?_ ?_
        · kernel_rfl
        revert hfit
        generalize Builtin.SmallTypes.fitsIndex = fi
        intro hfi
        wp_walk using wpAny_pyIter_tuple a1
        exact ⟨_, rfl, h⟩
    · simp only [Bool.false_eq_true, if_false]
      refine wpAny_bind ?_; refine wpAny_of_eq (a := (Value.ref t, some (Value.int ((k : Nat) : Int) kt))) ?_ ?_
      · kernel_rfl
      revert hfit
      generalize Builtin.SmallTypes.fitsIndex = fi
      intro hfi
      wp_walk using wpAny_pyIter_tuple a1
      exact ⟨_, rfl, h⟩
section
variable {prog : Program} {w : World} {A : Around} {E : Value → Shared → Prop} {s : Shared}
theorem callKw {T newId : String} {Bn : Builtin} {a : Value} {kw : List (Str × Value)} {S : PySem.Spec} {Q : Value → Shared → Prop} (ft : TypeCalled T newId "object.__init__") (hne : (some newId != some "object.__new__") = true)
    (hct : checkTypeCall T ⟨[a], kw⟩ = pure ()) (hcn : checkBuiltinCall newId ⟨[.type T, a], kw⟩ = pure ()) (hok : ∀ obj, argsOk "object.__init__" ⟨[obj, a], kw⟩) (entryN : entryFor table newId = some Bn) (g : Meets (Bn ⟨[.type T, a], kw⟩) S)
    (h : S A.in1 (wants (fun obj s1 => s1.TypeIs obj T ∧ Q obj s1) E) s) : wpAny (model prog w) A (call (.type T) [a] kw) Q E s := by
  obtain ⟨c, tl, hmro⟩ := ft.mro
  have hmade := ft.made; have hsub := ft.sub; have h1 := ft.notType; have h2 := ft.canCreate
  refine wpAny_call (codeAny_of_tree ?_); show wpAny _ _ (callAny (.type T) _) _ _ _
  refine wpAny_pure ⟨Code.quiet_builtin _ (by decide +kernel), codeAny_builtin PySem.F.entry_type_call ?_⟩
  rw [Around.under_plain (weight_type_call_type T [a] kw) (units_type_call_type T [a] kw)]
  repeat (any_goals (first | assumption | wp_step))
  refine codeAny_mono (codeAny_call_builtin ft.plain entryN (wpAny_of_eq hcn (g prog w A.in1 _ s h))) fun r s1 hr => ?_
  cases r with
  | error e => exact hr
  | ok fl =>
    cases fl with
    | ret obj =>
      obtain ⟨hT, hq0⟩ := hr
      have hli := ft.init.lookup; have hbi := ft.init.bind obj
      repeat (any_goals (first | assumption | wp_step))
      refine codeAny_mono (codeAny_call_builtin ft.init.plain PySem.F.entry_object_init (ft.init.check _ _ _ _ _ _ _ _ hT (hok obj) (initKw ft.init.lookup ft.made hne prog w A.in1 (wants (fun r s2 => r = .none ∧ Q obj s2) E) s1 ⟨hT, rfl, hq0⟩))) fun r2 s2 hr2 => ?_
      cases r2 with
      | error e => exact hr2
      | ok fl2 =>
        cases fl2 with
        | ret r =>
          obtain ⟨rfl, hq⟩ := hr2
          repeat (any_goals (first | assumption | wp_step))
        | _ => exact hr2.elim
    | _ => exact hr.elim
end
theorem drawsK {prog : Program} {w : World} {A : Around} {it : Addr} {fp : List Addr} {n : Nat} {Pd : Nat → Value → Prop} {St : Nat → Heap → Prop} (k0 : Nat) (D : Draws prog w A it fp n Pd St) : Draws prog w A it fp (k0 + n) (fun i v => Pd (i - k0) v) (fun i h => k0 ≤ i ∧ St (i - k0) h) where
  live := fun i h st => D.live _ _ st.2
  frame := fun i h h' st hk => ⟨st.1, D.frame _ _ _ st.2 hk⟩
  item := fun i s Q E hi st hQ => D.item (i - k0) s Q E (by have := st.1; omega) st.2 fun x h' tk hp hst hs => hQ x h' tk hp ⟨Nat.le_trans st.1 (Nat.le_succ _), by rw [show i + 1 - k0 = i - k0 + 1 by have := st.1; omega]; exact hst⟩ hs
  done := fun s Q E st hE => D.done s Q E (by have h2 := st.2; rw [Nat.add_sub_cancel_left] at h2; exact h2) hE
section
variable {prog : Program} {w : World} {A : Around} {E : Value → Shared → Prop} {s : Shared}
theorem call_enumK {t : Addr} {its : Array Value} {k : Nat} {kt : Tok} {Q : Value → Shared → Prop} (hk : k < 1000) (g1 : s.heap.IsTuple t its)
    (h : ∀ h', IsEnum h' (s.heap.objs.size + 1) s.heap.objs.size ((k : Nat) : Int) .none → h'.IsTupleIter s.heap.objs.size t 0 → (∀ c o, s.heap.get? c = some o → h'.get? c = some o) → Q (.ref (s.heap.objs.size + 1)) { s with heap := h' }) :
    wpAny (model prog w) A (call (.type "enumerate") [.ref t] [("start", .int ((k : Nat) : Int) kt)]) Q E s := by
  refine callKw PySem.F.called_enumerate (by decide) (by kernel_rfl) (by kernel_rfl) (fun obj => by unfold argsOk; rw [signature?_of (id := "object.__init__") (n := ['_', '_', 't', 'i', 'n', 'i', '_', '_']) (o := ['t', 'c', 'e', 'j', 'b', 'o']) (by kernel_rfl) PySem.F.owner_object]; kernel_rfl) PySem.F.entry_enumerate_new (enumK_new t its k kt hk) ⟨g1, ?_⟩
  have n1 : (et1 s.heap t).objs.size = s.heap.objs.size + 1 := Heap.size_push ..
  have q2 : (et2K s.heap t k).get? (et1 s.heap t).objs.size = some _ := Heap.get?_push_size _ rfl
  have q1 : (et2K s.heap t k).get? s.heap.objs.size = some _ := Heap.get?_push_of_some _ (Heap.get?_push_size _ rfl)
  show _ ∧ _
  rw [n1] at q2
  rw [n1]
  exact ⟨⟨_, q2, rfl⟩, h _ q2 ⟨_, q1, rfl, rfl⟩ fun c o q => Heap.get?_push_of_some _ (Heap.get?_push_of_some _ q)⟩
end
section
variable {M : Model} {A : Around} {E : Value → Shared → Prop} {s : Shared} {env : Env}
theorem callWithTK {pos : Pos} {T : String} {e : Expr} {rest : List Expr} {kws : List Keyword} {Q : Value → Shared → Prop}
    (h : wpAny M A (spliced (backTo pos (starEach (e :: rest) env))) (fun vs s1 => wpAny M A (evalAll ((backToKw pos (keywordEach kws env)).map (·.2))) (fun kvs s2 => wpAny M A (call (.type T) vs (((backToKw pos (keywordEach kws env)).filterMap (·.1)).zip kvs)) Q E s2) E s1) E s)
    (he : backTo pos (starEach (e :: rest) env) = (false, eval e env) :: backTo pos (starEach rest env)) (hplain : (backTo pos (starEach (e :: rest) env)).any (·.1) = false) (hall : (backToKw pos (keywordEach kws env)).all (·.1.isSome) = true) (hkw : (backToKw pos (keywordEach kws env)).any (·.1.isNone) = false) :
    wpAny M A (callWith pos (.type T) [] (backTo pos (starEach (e :: rest) env)) (backToKw pos (keywordEach kws env))) Q E s := by
  have h0 : wpAny M A (evalArgs (.type T) true (backTo pos (starEach (e :: rest) env)) (backToKw pos (keywordEach kws env))) (fun a s1 => wpAny M A (call (.type T) ([] ++ a.pos) a.kw) Q E s1) E s := by
    rw [he] at h ⊢
    exact evalArgs_kwB hall h
  unfold callWith
  refine wpAny_bind (wpAny_holding (wpAny_mono h0 (fun a s1 h1 => wpAny_bind (wpAny_standAt ?_)) fun _ _ x => x)); simp only [hplain, hkw, Bool.or_false]
  exact wpAny_bind (wpAny_pure (wpAny_bind (wpAny_mono h1 (fun r s2 hr => wpAny_bind (wpAny_holding (wpAny_point (wpAny_pure hr)))) fun _ _ x => x)))
end
/-- the pairs (number, item) of a tuple, the numbers from k0 on -/
def Itek (K : PySem.W.Frag) (a : Addr) (k0 : Nat) : It :=
  ⟨fun i H => ∃ xs x, SqT K H a xs ∧ xs[i]? = some x, fun i H v H' => ∃ T x, (∀ xs, SqT K H a xs → xs[i]? = some x) ∧ H T = none ∧ v = .ref T ∧ H' = upd H T (.tup [.int ((k0 + i : Nat) : Int), x]), fun i H => ∃ xs, SqT K H a xs ∧ xs.length = i⟩
theorem turn_enumK {k0 : Nat} {P : Program} {w : World} {K : PySem.W.Frag} {elts : List Expr} {k : Nat} {tp : Pos} (l e it : Addr) (hei : e ≠ it) : Turn P w K (.Tuple elts k tp) (Itek K l k0) [e, it] e (fun i h => (∃ old, IsEnum h e it ((k0 + i : Nat) : Int) old) ∧ h.IsTupleIter it l i) where
  mem := by simp
  obj := fun i h st b hb => by
    obtain ⟨⟨old, he⟩, o, ho, hc, hd⟩ := st
    simp only [List.mem_cons, List.not_mem_nil, or_false] at hb
    rcases hb with rfl | rfl
    · exact ⟨_, he, fun v z => by cases z⟩
    · exact ⟨o, ho, fun v z => by rw [hd] at z; cases z⟩
  keep := fun i h h' st kp => ⟨⟨_, kp e (by simp) _ st.1.choose_spec⟩, st.2.at fun o q => kp it (by simp) o q⟩
  item := by
    intro X hP hw hK hc i pins s σ H E I hf st hg
    subst hP hw hK
    obtain ⟨xs, x, hq, hx⟩ := hg
    obtain ⟨its, rv, p, hz⟩ := I.tuple hq
    obtain ⟨u, hu, ru⟩ := rv.get hx
    obtain ⟨⟨old, he⟩, hit⟩ := st
    have hlt : ∀ b ∈ [e, it], b ≠ s.heap.objs.size := fun b hb z => by
      simp only [List.mem_cons, List.not_mem_nil, or_false] at hb
      rcases hb with rfl | rfl
      · exact absurd (z ▸ Heap.lt_size he) (Nat.lt_irrefl _)
      · obtain ⟨_, ho, _⟩ := hit
        exact absurd (z ▸ Heap.lt_size ho) (Nat.lt_irrefl _)
    have fr : H s.heap.objs.size = none := I.hok.fresh (Nat.le_refl _)
    have p' : s.heap.IsTuple l its.toArray := p
    have hlen := rv.length
    have hil := (List.getElem?_eq_some_iff.mp hx).1
    refine wpAny_pyNext_enum_itemD (drawsK k0 (drawsT (show X.A.in1.handled = none from I.ok.hd hc) (tup_ne_it p' hit) its.toArray)) he ⟨Nat.le_add_right _ _, by rw [Nat.add_sub_cancel_left]; exact ⟨hit, p'⟩⟩ (by rw [List.size_toArray]; omega) hei (by
      simp only [List.mem_cons, List.not_mem_nil, or_false, not_or]
      exact ⟨hei, enum_ne_tup he p'⟩) fun y h' tk hy ho hit2 hT hsz hk => ?_
    have hit3 := hit2.2
    rw [show k0 + i + 1 - k0 = i + 1 by omega] at hit3
    have hit' := hit3.1
    rw [Nat.add_sub_cancel_left] at hy
    have ey : y = u := by
      rw [List.getElem?_toArray, hu] at hy
      exact (Option.some.inj hy).symm
    subst ey
    have I1 : Inv X pins σ H { s with heap := h', toks := tk + 1 } := I.turnedL (wr := [e, it]) (fun b o hb q => hk b o (fun z => hb (by simp [z])) (fun z => hb (by simp [z])) q) hf
    have I2 : Inv X pins σ (upd H s.heap.objs.size (.tup [.int ((k0 + i : Nat) : Int), x])) { s with heap := h', toks := tk + 1 } := I.tracked I1 (Nat.le_refl _) ⟨by show 2 ≤ sizeLine; decide, [.int ((k0 + i : Nat) : Int) tk, y], .cons ⟨_, rfl⟩ (.cons ru .nil), ⟨_, hT, rfl, _, rfl⟩⟩
    have hf2 : ∀ b ∈ [e, it], FpOk X pins (upd H s.heap.objs.size (.tup [.int ((k0 + i : Nat) : Int), x])) b := fun b hb => by
      obtain ⟨f0, f1, f2, f3, f4, f5⟩ := hf b hb
      exact ⟨by rw [upd_ne (hlt b hb)]; exact f0, f1, f2, f3, f4, f5⟩
    refine ⟨_, rfl, wpAny_letOwnedTupleGo_enum ho fun h'' he' hs' => ?_⟩
    refine ⟨.ref s.heap.objs.size, _, I2.turnedL (wr := [e]) (t' := tk + 1) (fun b o hb q => (hs'.2 b (fun z => hb (by simp [z]))).trans q) (fun b hb => hf2 b (by rw [List.mem_singleton.mp hb]; simp)), rfl, ⟨_, x, fun ys hy => by rw [I.tuple_inj hy hq]; exact hx, fr, rfl, rfl⟩, ⟨⟨_, by rw [show ((k0 + (i + 1) : Nat) : Int) = ((k0 + i : Nat) : Int) + 1 by omega]; exact he'⟩, hit'.at fun o q => (hs'.2 it hei.symm).trans q⟩, fun b hb => (hf2 b hb).1⟩
  done := by
    intro X hP hw hK hc i pins s σ H E I hf st hg
    subst hP hw hK
    obtain ⟨xs, hq, hx⟩ := hg
    obtain ⟨its, rv, p, hz⟩ := I.tuple hq
    have hl := rv.length
    obtain ⟨⟨old, he⟩, hit⟩ := st
    have p' : s.heap.IsTuple l its.toArray := p
    have hsz : its.toArray.size = i := by rw [List.size_toArray]; omega
    have D := drawsT (prog := X.prog) (w := X.w) (show X.A.in1.handled = none from I.ok.hd hc) (tup_ne_it p' hit) its.toArray
    rw [hsz] at D
    exact wpAny_pyNext_enum_endD D he ⟨hit, p'⟩ fun h' eb => ⟨rfl, I.turnedL (wr := [it]) (t' := s.toks) (fun b o hb q => eb b o (fun z => hb (by simp [z])) q) (fun b hb => hf b (by rw [List.mem_singleton.mp hb]; simp))⟩
  self := fun _ _ _ _ _ st h => wpAny_pyIter_enum st.1.choose_spec h
section
variable {X : Cx} {elts : List Expr} {k : Nat} {tp : Pos}
def iEnumK (K : PySem.W.Frag) (ta tk : TA) : TI := fun σ H R => ta σ H fun vs H1 => tk σ H1 fun zs H2 => ∃ (a : Addr) (k0 : Nat), vs = [.ref a] ∧ zs = [.int ((k0 : Nat) : Int)] ∧ k0 < 1000 ∧ (∃ xs, SqT K H2 a xs) ∧ R (Itek K a k0) H2
theorem pi_enumK {a e : Expr} {ta tk : TA} {p pos kpos : Pos} (hg : Gl X "enumerate") (hm : X.mg "enumerate" = none) (ha : PA X [a] ta) (hkw : PK X [⟨some "start", e, kpos⟩] tk) (hs : starEach [a] X.env = [(false, eval a X.env)] := by rfl) : PI X (.Tuple elts k tp) (.Call (.Name "enumerate" p) [a] [⟨some "start", e, kpos⟩] pos) (iEnumK X.K ta tk) := by
  intro pins s σ H R I h
  refine wpAny_Call_Name_kw (ld_blt I hg hm (show bootBuiltins "enumerate" = some (.type "enumerate") by decide +kernel) (callWithTK (thn (ha pos pins s σ H _ I h) fun us s1 ⟨vs, H1, I1, r1, q1⟩ => thn (hkw pos pins s1 σ H1 _ I1 q1) fun ks s2 ⟨zs, H2, I2, r2, q2⟩ => ?_) (by rw [hs]; rfl) (by rw [hs]; rfl) (by rfl) (by rfl)))
  obtain ⟨b, k0, e1, e2, hk0, ⟨xs, hq⟩, q⟩ := q2
  subst e1 e2
  obtain ⟨u, rfl, rx⟩ := vals1 r1
  cases rx
  obtain ⟨u2, rfl, rx2⟩ := vals1 r2
  obtain ⟨tk, rfl⟩ := rx2
  obtain ⟨its, rv, pl, hz⟩ := I2.tuple hq
  show wpAny _ _ (call (.type "enumerate") [.ref b] [("start", .int ((k0 : Nat) : Int) tk)]) _ _ _
  refine call_enumK hk0 pl fun h' he hit kp => ?_
  have I3 : Inv X pins σ H2 { s2 with heap := h' } := I2.kept (t' := s2.toks) kp
  refine wpAny_pyIter_enum he ⟨s2.heap.objs.size + 1, [s2.heap.objs.size + 1, s2.heap.objs.size], _, _, H2, rfl, I3, turn_enumK (k0 := k0) b _ _ (Nat.succ_ne_self _), ⟨⟨_, he⟩, hit⟩, fun c hc => ?_, q⟩
  simp only [List.mem_cons, List.not_mem_nil, or_false] at hc
  rcases hc with rfl | rfl
  · exact I2.fpOk (Nat.le_succ _) (I2.hok.fresh (Nat.le_succ _))
  · exact I2.fpOk (Nat.le_refl _) (I2.hok.fresh (Nat.le_refl _))
theorem qi_enumK {a e : Expr} {ta te : TE} {p pos kpos : Pos} (hg : Gl X "enumerate") (hm : X.mg "enumerate" = none) (ha : QE X a ta) (hk : QE X e te) (hs : notStar a = true := by rfl) : QI X (.Tuple elts k tp) (.Call (.Name "enumerate" p) [a] [⟨some "start", e, kpos⟩] pos) (iEnumK X.K (tCons ta tNil) (tCons te tNil)) := ⟨pi_enumK hg hm (qac ha qa_nil hs).h (pk_cons hk.h pk_nil) (starEach_cons hs)⟩
end
theorem for_enumK {k0 : Nat} {K : PySem.W.Frag} {a : Addr} {xs : List V} {g : TG} {tb : TS} {D : Ends} {σ : St} {H : Hp} (Pv : Nat → St → Hp → Prop) (h0 : Pv 0 σ H) (hl : ∀ i σ H, i ≤ xs.length → Pv i σ H → SqT K H a xs)
    (hs : ∀ i x T σ H, xs[i]? = some x → Pv i σ H → H T = none → g (.ref T) σ (upd H T (.tup [.int ((k0 + i : Nat) : Int), x])) fun σ2 H2 => tb { D with nx := Pv (i + 1), ct := Pv (i + 1), bk := D.nx } σ2 H2) (hd : ∀ σ H, Pv xs.length σ H → D.nx σ H) :
    ∃ W : Nat → Nat → St → Hp → Prop, (∃ m, W 0 m σ H) ∧ ∀ i m σ H, W i m σ H →
      ((Itek K a k0).stop i H ∧ D.nx σ H) ∨ ((Itek K a k0).go i H ∧ ∃ N : St → Hp → Prop, (∀ σ' H', N σ' H' → ∃ m', m' < m ∧ W (i + 1) m' σ' H') ∧ ∀ x H', (Itek K a k0).yld i H x H' → g x σ H' fun σ2 H2 => tb { D with nx := N, ct := N, bk := D.nx } σ2 H2) := by
  refine ⟨fun i m σ H => m = xs.length - i ∧ i ≤ xs.length ∧ Pv i σ H, ⟨xs.length, by simp, Nat.zero_le _, h0⟩, ?_⟩
  rintro i m σ H ⟨rfl, hi, p⟩
  have q := hl i σ H hi p
  by_cases hlt : i < xs.length
  · refine .inr ⟨⟨xs, xs[i], q, by simp [hlt]⟩, Pv (i + 1), fun σ' H' p' => ⟨xs.length - (i + 1), by omega, rfl, hlt, p'⟩, fun v H' y => ?_⟩
    obtain ⟨T, x, hx, hT, rfl, rfl⟩ := y
    exact hs i x T σ _ (hx xs q) p hT
  · have e : i = xs.length := by omega
    subst e
    exact .inl ⟨⟨xs, q, rfl⟩, hd σ H p⟩
end L2
namespace L2
open PySem PySem.Spec PyProof.Rows
/-! ### lists of pairs as tables -/
section
variable {κ : Type} [DecidableEq κ]
end


/-! ### a tracked dict, its keys ints and texts or tuples of these -/
section
variable {P : Program} {w : World} {H : Hp} {h : Heap} {a : Addr}
end

section
variable {X : Cx} {pins : List (Addr × Obj)} {σ : St} {H : Hp} {s : Shared} {a : Addr} {y v : V} {u r : Value} {o : Option V} {A : Around} {E : Value → Shared → Prop}


end

section
variable {X : Cx} {pins : List (Addr × Obj)} {σ : St} {H : Hp} {s : Shared} {a : Addr} {kvs : List (Key × V)} {k : Key} {u : Value} {A : Around} {E : Value → Shared → Prop}
end


/-! ### readings and rules -/
section
variable {X : Cx} {o i e value : Expr} {pos pos' tpos : Pos} {td ty tv : TE}
end
section
variable {X : Cx} {pos : Pos}
end
end L2
/-! EvDq: dicts with tuples as keys, data in a list and its place. Behind the dict part of the layer (mk.py's dictpart). -/
namespace L2
open PySem PySem.Spec PyProof.Rows
section
variable {X : Cx} {o i value : Expr} {pos pos' : Pos} {td ty tv : TE}
end
end L2
/-! EvDit: a dict with numbers as keys: made, walked while it is frozen, asked with a default. Behind EvDq. -/
namespace L2
open PySem PySem.Spec PyProof.Rows
section
variable {X : Cx} {o e : Expr} {es : List Expr} {to : TE} {t : TA} {apos cpos : Pos}
end
end L2
/-! EvVal: functions as values, a try whose clause has no name, () + t. Behind EvDit. -/
namespace L2
open PySem PySem.Spec PyProof.Rows
end L2
/-! EvRev: t[::-1] and reversed(t) of a tuple t. Behind EvLay. -/
namespace L2
open PySem PySem.Spec PyProof.Rows
section
variable {prog : Program} {w : World} {A : Around} {E : Value → Shared → Prop} {s : Shared}
theorem adj_rev (n : Nat) : Builtin.Slice.sliceAdjust none none (-1) ((n : Nat) : Int) = (((n : Nat) : Int) - 1, -1) := by
  unfold Builtin.Slice.sliceAdjust
  simp
theorem places_rev (n : Nat) : Builtin.Slice.slicePlaces (((n : Nat) : Int) - 1) (-1) (-1) = n := by
  unfold Builtin.Slice.slicePlaces
  rw [if_neg (by decide)]
  by_cases h : n = 0
  · subst h; rfl
  · rw [if_pos (by omega)]
    show (((((n : Nat) : Int) - 1 - -1 - 1) / 1) + 1).toNat = n
    rw [Int.ediv_one]
    omega
theorem pick_rev (xs : List Value) : ((List.range xs.length).filterMap fun (k : Nat) => xs.toArray[(((xs.length : Nat) : Int) - 1 + (k : Int) * (-1)).toNat]?).toArray = xs.reverse.toArray := by
  have e : (fun (k : Nat) => xs.toArray[(((xs.length : Nat) : Int) - 1 + (k : Int) * (-1)).toNat]?) = (fun j => xs.toArray[j]?) ∘ fun k => xs.length - 1 - k := by
    funext k
    have : (((xs.length : Nat) : Int) - 1 + (k : Int) * (-1)).toNat = xs.length - 1 - k := by omega
    rw [this]
    rfl
  have h := PySem.W.krv_all xs.toArray
  rw [List.size_toArray] at h
  rw [e, ← List.filterMap_map, PySem.W.krv_range, List.filterMap_reverse, h]
theorem getItem_tuple_rev {t sl : Addr} {xs : List Value} {tk : Tok} {Q : Value → Shared → Prop} (ht : IsTup s.heap t xs.toArray) (hs : s.heap.IsSliceOf sl .none .none (.int (-1) tk))
    (h : Q (.ref s.heap.objs.size) { s with heap := s.heap.push { cls := .type "tuple", data := .seq xs.reverse.toArray } }) (hz : xs.length ≤ sizeLine) : wpAny (model prog w) A (getItem (.ref t) (.ref sl)) Q E s := by
  have hk : sizeOk (.seq xs.reverse.toArray) := by
    show xs.reverse.toArray.size ≤ sizeLine
    rw [List.size_toArray, List.length_reverse]
    exact hz
  obtain ⟨os, hos, hcs, hds⟩ := id hs
  have hTs : s.TypeIs (.ref sl) "slice" := ⟨os, hos, hcs⟩
  unfold getItem
  try with_reducible refine wpAny_holding ?_
  first | refine wpAny_bind (wpAny_pure ?_) | skip
  refine wpAny_bind (wpAny_sequenceKey ht.typeIs (by decide) (wpAny_bind (wpAny_callSpecial?_slot (name := Str.ofString "__getitem__") ht.typeIs PyProof.Rows.slot_tuple_getitem (wpAny_call_entry PyProof.Rows.slot_tuple_getitem ht.typeIs entry_tuple_getitem ?_ (args_tuple_getitem _ _)))))
  show wpAny _ _ (Builtin.Tuple.tupleItemsOf (.ref t) >>= _) _ _ s
  refine wpAny_bind (tupleItemsOf_ ht (wpAny_bind (wpAny_typeOf hTs ?_)))
  rw [if_pos (by decide)]
  refine wpAny_bind ?_
  unfold Builtin.Slice.sliceApplied Builtin.Slice.sliceFields
  refine wpAny_bind (wpAny_bind (wpAny_field hos hds (x := .none) rfl (wpAny_bind (wpAny_field hos hds (x := .none) rfl (wpAny_bind (wpAny_field hos hds (x := .int (-1) tk) rfl (wpAny_pure ?_)))))))
  refine wpAny_bind (HT.slicePart_ (.int (-1) tk) ?_)
  show wpAny _ _ (if ((-1 : Int) == 0) = true then _ else _) _ _ s
  rw [if_neg (by decide)]
  refine wpAny_bind (HT.slicePart_ .none (wpAny_bind (HT.slicePart_ .none (wpAny_bind (wpAny_pure ?_)))))
  show wpAny _ _ (match Builtin.Slice.sliceAdjust none none (-1) ((xs.toArray.size : Nat) : Int) with | (lo, hi) => pure (lo, (-1 : Int), Builtin.Slice.slicePlaces lo hi (-1))) _ _ s
  rw [adj_rev]
  show wpAny _ _ (pure (((xs.toArray.size : Nat) : Int) - 1, (-1 : Int), Builtin.Slice.slicePlaces (((xs.toArray.size : Nat) : Int) - 1) (-1) (-1))) _ _ s
  rw [places_rev]
  refine wpAny_pure ?_
  show wpAny _ _ (if ((((xs.toArray.size : Nat) : Int) - 1 == 0 && (-1 : Int) == 1 && xs.toArray.size == xs.toArray.size) = true) then _ else _) _ _ s
  rw [if_neg (by simp), List.size_toArray, pick_rev]
  first
    | exact wpAny_bind (m := Builtin.Tuple.tupleExact _) (wpAny_newObj_type (wpAny_pure ⟨_, rfl, wpAny_pure h⟩) hk)
    | exact wpAny_bind (m := Builtin.Tuple.tupleExact _) (wpAny_newObj_type (wpAny_bind (wpAny_pure (wpAny_pure ⟨_, rfl, wpAny_pure h⟩))) hk)
    | exact wpAny_bind (wpAny_bind (m := Builtin.Tuple.tupleExact _) (wpAny_newObj_type (wpAny_pure (wpAny_pure ⟨_, rfl, wpAny_pure h⟩)) hk))
    | exact wpAny_bind (wpAny_bind (m := Builtin.Tuple.tupleExact _) (wpAny_newObj_type (wpAny_pure ⟨_, rfl, wpAny_pure h⟩) hk))
end
def rRevT (K : PySem.W.Frag) : V → Hp → VK → Prop := fun x H Q => ∃ (a : Addr) (xs : List V), x = .ref a ∧ SqT K H a xs ∧ ∀ l, H l = none → Q (.ref l) (upd H l (.tup xs.reverse))
/-- a[::-1], a a list or a tuple -/
def tRevB (K : PySem.W.Frag) (te : TE) : TE := fun σ H Q => te σ H fun x H1 => rRev K x H1 Q ∨ rRevT K x H1 Q
theorem pe_revB {X : Cx} {e : Expr} {te : TE} {j : Nat} {p1 p2 p3 pos : Pos} (he : PE X e te) : PE X (.Subscript e (.Slice none none (some (.UnaryOp .USub (.Constant (.int 1) j p1) p2)) p3) pos) (tRevB X.K te) := by
  intro pins s σ H Q I h
  refine Subscript_ (thn (he pins s σ H _ I h) fun v s1 ⟨x, H1, I1, r1, q1⟩ => ?_)
  refine wpAny_Slice ?_
  rw [evalPart_none]
  refine wpAny_pure (wpAny_pure ?_)
  rw [evalPart_some]
  refine thn (pe_un un_neg pe_int pins s1 σ H1 (fun x H' => x = .int (-1) ∧ H' = H1) I1 ⟨1, rfl, rfl, rfl⟩) fun vk s3 ⟨x3, H3, I3, r3, e3, e4⟩ => ?_
  subst e3 e4
  obtain ⟨tk, rfl⟩ := r3
  have I4 : Inv X pins σ H3 { s3 with heap := s3.heap.push { cls := .type "slice", data := .fields #[.none, .none, .int (-1) tk] } } := I3.kept (t' := s3.toks) fun b ob q => Heap.get?_push_of_some _ q
  rcases q1 with ⟨a, xs, rfl, hx, q⟩ | ⟨a, xs, rfl, hx, q⟩
  · cases r1
    obtain ⟨its, r, ht, hz⟩ := I4.list hx
    have hlen := r.length
    show wpAny (model X.prog X.w) X.A (subscriptTail e (.Slice none none (some (.UnaryOp .USub (.Constant (.int 1) j p1) p2)) p3) (.ref a) (.ref s3.heap.objs.size)) (EP X pins σ Q) X.xe { s3 with heap := s3.heap.push { cls := .type "slice", data := .fields #[.none, .none, .int (-1) tk] } }
    refine tail_any (ops := [.ref a, .ref s3.heap.objs.size]) ht.isList.typeIs slot_list_getitem.lookup ?_ (by with_unfolding_all rfl)
    refine wpAny_getItem_list_slice ht.isList (Heap.IsSliceOf.new ..) .none .none (.int (-1) tk) (by simp) ?_ (by rw [List.size_toArray] <;> omega)
    rw [PySem.W.krv_pick, List.toList_toArray]
    exact ⟨.ref _, _, I4.laid (t' := s3.toks) (o := .lst xs.reverse) (fun b ob q => Heap.get?_push_of_some _ q) (Nat.le_refl _) ⟨by rw [List.length_reverse]; exact hz, its.reverse, 0, vals_rev r, Heap.get?_push_size _ rfl⟩, rfl, q _ (I4.hok.fresh (Nat.le_refl _))⟩
  · cases r1
    obtain ⟨its, r, ht, hz⟩ := I4.tuple hx
    have hlen := r.length
    show wpAny (model X.prog X.w) X.A (subscriptTail e (.Slice none none (some (.UnaryOp .USub (.Constant (.int 1) j p1) p2)) p3) (.ref a) (.ref s3.heap.objs.size)) (EP X pins σ Q) X.xe { s3 with heap := s3.heap.push { cls := .type "slice", data := .fields #[.none, .none, .int (-1) tk] } }
    refine tail_any (ops := [.ref a, .ref s3.heap.objs.size]) ht.typeIs slot_tuple_getitem.lookup ?_ (by with_unfolding_all rfl)
    refine getItem_tuple_rev ht (Heap.IsSliceOf.new ..) ?_ (by omega)
    exact ⟨.ref _, _, I4.laid (t' := s3.toks) (o := .tup xs.reverse) (fun b ob q => Heap.get?_push_of_some _ q) (Nat.le_refl _) ⟨by rw [List.length_reverse]; exact hz, its.reverse, vals_rev r, IsTup.new _ _⟩, rfl, q _ (I4.hok.fresh (Nat.le_refl _))⟩
theorem qe_revB {X : Cx} {e : Expr} {te : TE} {j : Nat} {p1 p2 p3 pos : Pos} (he : QE X e te) : QE X (.Subscript e (.Slice none none (some (.UnaryOp .USub (.Constant (.int 1) j p1) p2)) p3) pos) (tRevB X.K te) := ⟨pe_revB he.h⟩
/-! ### reversed(t) -/
theorem rv_slot_next : Slot "reversed" "__next__" "reversed.__next__" := .of (owner := "reversed") (n := "__next__") (by rw [typeLookup_type, builtinLookup_eq_fast]; kernel_rfl) (by decide +kernel) (by decide +kernel) (by decide +kernel) (by first | exact .inl (by decide +kernel) | exact .inr (by decide +kernel)) (by rw [isSubtype_type]; kernel_rfl)
theorem rv_slot_iter : Slot "reversed" "__iter__" "reversed.__iter__" := .of (owner := "reversed") (n := "__iter__") (by rw [typeLookup_type, builtinLookup_eq_fast]; kernel_rfl) (by decide +kernel) (by decide +kernel) (by decide +kernel) (by first | exact .inl (by decide +kernel) | exact .inr (by decide +kernel)) (by rw [isSubtype_type]; kernel_rfl)
theorem rv_entry_next : entryFor table "reversed.__next__" = some Builtin.«reversed.__next__» := entryFor_of_tree (by kernel_rfl)
theorem rv_entry_iter : entryFor table "reversed.__iter__" = some Builtin.«dict_keyiterator.__iter__» := entryFor_alias (id' := "dict_keyiterator.__iter__") (by kernel_rfl) (by first | rfl | decide +kernel | (unfold String.splitOn; simp +decide [String.splitOnAux])) (by decide +kernel) (by kernel_rfl)
theorem rv_args_next (a : Value) : argsOk "reversed.__next__" ⟨[a], []⟩ := by unfold argsOk; kernel_rfl
theorem rv_args_iter (a : Value) : argsOk "reversed.__iter__" ⟨[a], []⟩ := by unfold argsOk; kernel_rfl
theorem rv_no_tuple : typeLookup (.type "tuple") "__reversed__" = pure none := by rw [typeLookup_type, builtinLookup_eq_fast]; kernel_rfl
theorem rv_sub_tuple : isSubtype (.type "tuple") (.type "dict") = pure false := by rw [isSubtype_type]; kernel_rfl
theorem rv_slot_init : Slot "reversed" "__init__" "object.__init__" := .of (owner := "object") (n := "__init__") (by rw [typeLookup_type, builtinLookup_eq_fast]; kernel_rfl) (by decide +kernel) (by decide +kernel) (by decide +kernel) (by first | exact .inl (by decide +kernel) | exact .inr (by decide +kernel)) (by rw [isSubtype_type]; kernel_rfl)
theorem rv_called : TypeCalled "reversed" "reversed.__new__" "object.__init__" := ⟨by decide +kernel, by decide +kernel, ⟨_, _, PySem.F.mro_reversed⟩, PySem.F.made_reversed, by decide +kernel, by rw [isSubtype_type]; kernel_rfl, rv_slot_init⟩
/-- the walker of reversed(t), due to give the item at i -/
def IsRvT (h : Heap) (it l : Addr) (i : Int) : Prop := ∃ o, h.get? it = some o ∧ o.cls = .type "reversed" ∧ o.data = .fields #[.ref l, rawInt i]
def rvObj (l : Addr) (i : Int) : Obj := { cls := .type "reversed", data := .fields #[.ref l, rawInt i] }
section
variable {prog : Program} {w : World} {A : Around} {E : Value → Shared → Prop} {s : Shared}
theorem IsRvT.ty {it l : Addr} {i : Int} (x : IsRvT s.heap it l i) : s.TypeIs (.ref it) "reversed" := let ⟨o, e, c, _⟩ := x; ⟨o, e, c⟩
theorem rv_new {l : Addr} {items : Array Value} {Q₁ : Value → Shared → Prop} (hl : IsTup s.heap l items) (hz : items.size ≤ sizeLine)
    (h : ∀ tk, Q₁ (.ref s.heap.objs.size) { s with heap := s.heap.push (rvObj l ((items.size : Int) - 1)), toks := tk }) :
    codeAny (model prog w) A (.call (.builtin "reversed.__new__") ⟨[.type "reversed", .ref l], []⟩) (wants Q₁ E) s := by
  have hn := line63
  refine codeAny_of_tree ?_
  show wpAny _ A.in1 (do checkBuiltinCall "reversed.__new__" ⟨[.type "reversed", .ref l], []⟩; again (.builtin "reversed.__new__" ⟨[.type "reversed", .ref l], []⟩)) _ _ s
  refine wpAny_bind (wpAny_of_eq (PySem.F.newCall_reversed_1 _) (wpAny_pure ⟨plainId_quiet PySem.F.plain_reversed_new _, codeAny_builtin PySem.F.entry_reversed_new ?_⟩))
  rw [Around.under_plainId PySem.F.plain_reversed_new _]
  unfold Builtin.«reversed.__new__»
  refine wpAny_bind (wpAny_of_eq (PySem.newClass_reversed _) ?_)
  try dsimp only
  refine wpAny_bind (wpAny_of_eq (a := ()) (by first | rfl | kernel_rfl) (wpAny_bind (wpAny_of_eq (a := ()) (by first | rfl | kernel_rfl) ?_)))
  try dsimp only
  refine wpAny_bind (wpAny_specialOf hl.typeIs rv_no_tuple ?_)
  try dsimp only
  refine wpAny_bind ?_
  show wpAny _ _ (isInstance (.ref l) (.type "dict") >>= _) _ _ s
  refine wpAny_bind (wpAny_isInstance hl.typeIs rv_sub_tuple ?_)
  try dsimp only
  rw [if_neg (by decide)]
  refine wpAny_bind (wpAny_specialOf hl.typeIs PyProof.Rows.slot_tuple_getitem.lookup ?_)
  try dsimp only
  rw [if_pos (by decide +kernel)]
  refine wpAny_pure ?_
  try dsimp only
  rw [if_neg (by decide)]
  refine wpAny_bind (len_tuple hl (by omega) ?_)
  show wpAny _ _ (pure (some (items.size : Int)) >>= _) _ _ _
  refine wpAny_bind (wpAny_pure ?_)
  try dsimp only
  show wpAny _ _ (newObj (.type "reversed") (.fields #[.ref l, rawInt ((items.size : Int) - 1)]) >>= _) _ _ _
  refine wpAny_bind (wpAny_newObj_type ?_ (by size_fits))
  first
  | exact wpAny_pure (h _)
  | exact wpAny_bind (wpAny_pure (wpAny_pure (h _)))
theorem rv_call {l : Addr} {items : Array Value} {Q : Value → Shared → Prop} (hl : IsTup s.heap l items) (hz : items.size ≤ sizeLine)
    (h : ∀ tk, Q (.ref s.heap.objs.size) { s with heap := s.heap.push (rvObj l ((items.size : Int) - 1)), toks := tk }) : wpAny (model prog w) A (call (.type "reversed") [.ref l]) Q E s := by
  refine callType_codes (T := "reversed") (Bi := Builtin.«object.__init__») (Q₁ := fun r s₁ => r = .ref s.heap.objs.size ∧ ∃ tk, s₁ = { s with heap := s.heap.push (rvObj l ((items.size : Int) - 1)), toks := tk }) rv_called (PySem.F.typeCall_reversed_1 _) PySem.F.entry_object_init
    (rv_new hl hz fun tk => ⟨rfl, tk, rfl⟩) ?_
  rintro obj s₁ ⟨rfl, tk, rfl⟩
  have hT : ({ s with heap := s.heap.push (rvObj l ((items.size : Int) - 1)), toks := tk } : Shared).TypeIs (.ref s.heap.objs.size) "reversed" := ⟨_, Heap.get?_push_size _ rfl, rfl⟩
  exact ⟨hT, PySem.F.args_object_init_2 _ _, object_init_meets rv_called.init.lookup rv_called.made (by decide) prog w A.in1 _ _ ⟨hT, rfl, h tk⟩⟩
theorem rv_next {it l : Addr} {i : Nat} {items : Array Value} {x : Value} {Q : Option Value → Shared → Prop} (hit : IsRvT s.heap it l (i : Int)) (hl : IsTup s.heap l items) (hx : items[i]? = some x) (hz : items.size ≤ sizeLine)
    (hQ : ∀ h' tk, IsRvT h' it l ((i : Int) - 1) → Heap.SameBut it s.heap h' → Q (some x) { s with heap := h', toks := tk }) : wpAny (model prog w) A (pyNext (.ref it)) Q E s := by
  have hn := line63
  obtain ⟨o, ho, hc, hd⟩ := id hit
  have hi : i < items.size := (Array.getElem?_eq_some_iff.mp hx).1
  unfold pyNext
  refine wpAny_bind (wpAny_attempt (wpAny_callSpecial?_slot (name := Str.ofString "__next__") hit.ty rv_slot_next (wpAny_call_entry rv_slot_next hit.ty rv_entry_next ?_ (rv_args_next _))))
  unfold Builtin.«reversed.__next__»
  refine wpAny_bind (wpAny_of_eq (a := (Value.ref it, [])) rfl ?_)
  try dsimp only
  refine wpAny_bind (wpAny_field ho hd (x := .ref l) rfl (wpAny_bind (wpAny_field ho hd (x := rawInt (i : Int)) rfl ?_)))
  show wpAny _ _ (if (i : Int) < 0 then _ else _) _ _ s
  rw [if_neg (by omega)]
  refine wpAny_bind (wpAny_specialOf hl.typeIs PyProof.Rows.slot_tuple_getitem.lookup ?_)
  try dsimp only
  rw [if_neg (by decide)]
  refine wpAny_bind (wpAny_mkInt ?_)
  have hsq : seqIndex? (i : Int) items.size = some i := by
    unfold seqIndex?
    simp
    omega
  refine wpAny_bind (wpAny_attempt (PyProof.Rows.getItem_tuple (s := { s with toks := s.toks + 1 }) (k := (i : Int)) (j := i) hl (by omega) (by omega) hsq hx ?_))
  try dsimp only
  refine wpAny_bind (wpAny_field (s := { s with toks := s.toks + 1 }) ho hd (x := rawInt (i : Int)) rfl ?_)
  show wpAny _ _ (setField (.ref it) 1 (rawInt ((i : Int) - 1)) >>= _) _ _ _
  refine wpAny_bind (wpAny_setField (s := { s with toks := s.toks + 1 }) ho hd (by simp) ?_)
  have hend : Q (some x) { s with heap := s.heap.update it (Obj.mapFields fun vs => vs.setIfInBounds 1 (rawInt ((i : Int) - 1))), toks := s.toks + 1 } := hQ _ _ ⟨_, Heap.get?_update_self _ ho (Obj.isFreed_of_fields (Obj.data_mapFields hd _)), (Obj.cls_mapFields ..).trans hc, by rw [Obj.data_mapFields hd]; simp⟩ (Heap.SameBut.update ..)
  first
  | exact wpAny_pure ⟨x, rfl, wpAny_pure hend⟩
  | exact wpAny_bind (wpAny_pure (wpAny_pure ⟨x, rfl, wpAny_pure hend⟩))
theorem rv_end {it l : Addr} {Q : Option Value → Shared → Prop} (hh : A.handled = none) (hit : IsRvT s.heap it l (-1)) (hQ : ∀ h', Heap.ExtBut it s.heap h' → Q none { s with heap := h' }) : wpAny (model prog w) A (pyNext (.ref it)) Q E s := by
  obtain ⟨o, ho, hc, hd⟩ := id hit
  unfold pyNext
  refine wpAny_bind (wpAny_attempt (wpAny_callSpecial?_slot (name := Str.ofString "__next__") hit.ty rv_slot_next (wpAny_call_entry rv_slot_next hit.ty rv_entry_next ?_ (rv_args_next _))))
  unfold Builtin.«reversed.__next__»
  refine wpAny_bind (wpAny_of_eq (a := (Value.ref it, [])) rfl ?_)
  try dsimp only
  refine wpAny_bind (wpAny_field ho hd (x := .ref l) rfl (wpAny_bind (wpAny_field ho hd (x := rawInt (-1)) rfl ?_)))
  show wpAny _ _ (if (-1 : Int) < 0 then _ else _) _ _ s
  rw [if_pos (by decide)]
  refine wpAny_bind (wpAny_rule ?_)
  refine wpAny_bind ?_
  show wpAny _ _ (setField (.ref it) 1 (rawInt (-1)) >>= fun _ => setField (.ref it) 0 .none) _ _ s
  refine wpAny_bind (wpAny_setField ho hd (by simp) ?_)
  have ho2 : (s.heap.update it (Obj.mapFields fun vs => vs.setIfInBounds 1 (rawInt (-1)))).get? it = some (Obj.mapFields (fun vs => vs.setIfInBounds 1 (rawInt (-1))) o) := Heap.get?_update_self _ ho (Obj.isFreed_of_fields (Obj.data_mapFields hd _))
  refine wpAny_setField (s := { s with heap := s.heap.update it (Obj.mapFields fun vs => vs.setIfInBounds 1 (rawInt (-1))) }) ho2 (Obj.data_mapFields hd _) (by simp) ?_
  have hb : Heap.ExtBut it s.heap ((s.heap.update it (Obj.mapFields fun vs => vs.setIfInBounds 1 (rawInt (-1)))).update it (Obj.mapFields fun vs => vs.setIfInBounds 0 .none)) := fun b u hne e => by
    rw [(Heap.SameBut.update ..).2 b hne, (Heap.SameBut.update ..).2 b hne]
    exact e
  generalize (s.heap.update it (Obj.mapFields fun vs => vs.setIfInBounds 1 (rawInt (-1)))).update it (Obj.mapFields fun vs => vs.setIfInBounds 0 .none) = h2 at hb ⊢
  refine wpAny_bind ?_
  show wpAny _ _ (newExc (.type "StopIteration") [] >>= fun x => raiseNew x) _ _ _
  refine wpAny_bind ?_
  simp only [newExc, newTuple]
  refine wpAny_bind (wpAny_newObj_type (wpAny_bind (m := firstArgMember _ _) (wpAny_of_eq (a := Value.none) (by first | rfl | (simp only [firstArgMember]; rfl)) (wpAny_newObj_type ?_ (by size_fits)))) (by size_fits))
  simp only [raiseNew]
  refine wpAny_bind (wpAny_handled ?_)
  first | rw [show A.in1.handled = none from hh] | rw [hh]
  refine wpAny_bind (wpAny_pure (wpAny_throw ?out))
  case out => exact wpAny_bind (wpAny_isInstance (T := "StopIteration") (b := true) ⟨_, Heap.get?_push_size _ rfl, rfl⟩ isSubtype_stop (wpAny_pure (hQ _ ((hb.push _).push _))))
theorem rv_iter {it l : Addr} {i : Int} {Q : Value → Shared → Prop} (hit : IsRvT s.heap it l i) (h : Q (.ref it) s) : wpAny (model prog w) A (pyIter (.ref it)) Q E s := by
  refine wpAny_pyIter_slot hit.ty rv_slot_iter (wpAny_call_entry rv_slot_iter hit.ty rv_entry_iter ?_ (rv_args_iter _))
  show wpAny _ _ (ret (.ref it)) _ _ s
  exact wpAny_pure ⟨_, rfl, "reversed", _, hit.ty, rv_slot_next.lookup, h⟩
end
/-- the items of a tuple of n, from behind -/
def ItRv (K : PySem.W.Frag) (a : Addr) (n : Nat) : It :=
  ⟨fun i H => (∃ xs x, SqT K H a xs ∧ xs.length = n ∧ xs.reverse[i]? = some x), fun i H v H' => H' = H ∧ ∀ xs, SqT K H a xs → xs.reverse[i]? = some v, fun i H => ∃ xs, SqT K H a xs ∧ xs.length = n ∧ i = n⟩
theorem turn_rev {P : Program} {w : World} {K : PySem.W.Frag} {tg : Expr} (a it : Addr) (n : Nat) : Turn P w K tg (ItRv K a n) [it] it (fun i h => IsRvT h it a ((n : Int) - 1 - (i : Int))) where
  mem := by simp
  obj := fun i h st b hb => by
    have e : b = it := by simpa using hb
    subst e
    obtain ⟨o, e, c, d⟩ := st
    exact ⟨o, e, fun v z => by rw [d] at z; cases z⟩
  keep := fun i h h' st k => let ⟨o, e, r⟩ := st; ⟨o, k it (by simp) o e, r⟩
  item := by
    intro X hP hw hK hc i pins s σ H E I hf st hg
    subst hP hw hK
    obtain ⟨xs, x, hq, hn, hx⟩ := hg
    obtain ⟨its, rv, p, hz⟩ := I.tuple hq
    have hlt : i < xs.length := by
      have := (List.getElem?_eq_some_iff.mp hx).1
      rwa [List.length_reverse] at this
    have hx' : xs[xs.length - 1 - i]? = some x := by rw [← hx, List.getElem?_reverse hlt]
    obtain ⟨u, hu, ru⟩ := rv.get hx'
    have hl := rv.length
    obtain ⟨f0, f1, f2, f3, f4, f5⟩ := hf it (by simp)
    have st2 : IsRvT s.heap it a ((xs.length - 1 - i : Nat) : Int) := by
      have e : ((xs.length - 1 - i : Nat) : Int) = (n : Int) - 1 - (i : Int) := by omega
      rw [e]
      exact st
    refine rv_next st2 p (x := u) (by simpa using hu) (by rw [List.size_toArray]; omega) fun h' tk st' sb => ?_
    have I1 : Inv X pins σ H { s with heap := h', toks := tk } := I.turned (t' := tk) (fun b o hb e => (sb.2 b hb).trans e) f0 f1 f3 f4 f5
    obtain ⟨o, e, c, d⟩ := id st'
    refine ⟨u, rfl, go_of (s := { s with heap := h', toks := tk }) e c d (by decide) ⟨x, H, I1, ru, ⟨rfl, fun ys hy => by rw [I.tuple_inj hy hq]; exact hx⟩, ?_, fun b hb => (hf b hb).1⟩⟩
    have e2 : ((xs.length - 1 - i : Nat) : Int) - 1 = (n : Int) - 1 - ((i + 1 : Nat) : Int) := by omega
    rw [e2] at st'
    exact st'
  done := by
    intro X hP hw hK hc i pins s σ H E I hf st hg
    subst hP hw hK
    obtain ⟨xs, hq, hn, hi⟩ := hg
    obtain ⟨f0, f1, f2, f3, f4, f5⟩ := hf it (by simp)
    have st2 : IsRvT s.heap it a (-1) := by
      have e : (-1 : Int) = (n : Int) - 1 - (i : Int) := by omega
      rw [e]
      exact st
    exact rv_end (I.ok.hd hc) st2 fun h' eb => ⟨rfl, I.turned (t' := s.toks) (fun b o hb e => eb b o hb e) f0 f1 f3 f4 f5⟩
  self := fun _ _ _ _ _ st h => rv_iter st h
def iRevT (K : PySem.W.Frag) (ta : TA) : TI := fun σ H R => ta σ H fun vs H1 => ∃ a xs, vs = [.ref a] ∧ SqT K H1 a xs ∧ R (ItRv K a xs.length) H1
theorem pi_revT {X : Cx} {tg a : Expr} {ta : TA} {p pos : Pos} (hg : Gl X "reversed") (hm : X.mg "reversed" = none) (ha : PA X [a] ta) (hs : starEach [a] X.env = [(false, eval a X.env)] := by rfl) : PI X tg (.Call (.Name "reversed" p) [a] [] pos) (iRevT X.K ta) := by
  intro pins s σ H R I h
  refine Call_ (ld_blt I hg hm (show bootBuiltins "reversed" = some (.type "reversed") by decide +kernel) (PyProof.Rows.callWith_type1 (thn (ha pos pins s σ H _ I h) fun us s1 ⟨vs, H1, I1, r1, q1⟩ => ?_) (by rw [hs]; rfl) (by rfl)))
  obtain ⟨a, xs, e, hq, q⟩ := q1
  subst e
  obtain ⟨u, rfl, rx⟩ := vals1 r1
  cases rx
  obtain ⟨its, rv, pl, hz⟩ := I1.tuple hq
  have hlen := rv.length
  refine rv_call pl (by rw [List.size_toArray]; omega) fun tk => ?_
  have I2 : Inv X pins σ H1 { s1 with heap := s1.heap.push (rvObj a ((its.toArray.size : Int) - 1)), toks := tk } := I1.kept (t' := tk) fun b o q => Heap.get?_push_of_some _ q
  have hrv : IsRvT (s1.heap.push (rvObj a ((its.toArray.size : Int) - 1))) s1.heap.objs.size a ((xs.length : Int) - 1 - ((0 : Nat) : Int)) := ⟨_, Heap.get?_push_size _ rfl, rfl, by show Data.fields #[.ref a, rawInt ((its.toArray.size : Int) - 1)] = _; rw [List.size_toArray, ← hlen]; simp⟩
  refine rv_iter (s := { s1 with heap := s1.heap.push (rvObj a ((its.toArray.size : Int) - 1)), toks := tk }) hrv ?_
  refine ⟨s1.heap.objs.size, [s1.heap.objs.size], _, _, H1, rfl, I2, turn_rev a _ xs.length, hrv, fun b hb => ?_, q⟩
  rw [List.mem_singleton.mp hb]
  exact I1.fpOk (Nat.le_refl _) (I1.hok.fresh (Nat.le_refl _))
theorem qi_revT {X : Cx} {tg a : Expr} {ta : TA} {p pos : Pos} (hg : Gl X "reversed") (hm : X.mg "reversed" = none) (ha : QA X [a] ta) (hs : starEach [a] X.env = [(false, eval a X.env)] := by rfl) : QI X tg (.Call (.Name "reversed" p) [a] [] pos) (iRevT X.K ta) := ⟨pi_revT hg hm ha.h hs⟩
theorem for_rev {K : PySem.W.Frag} {a : Addr} {xs : List V} {g : TG} {tb : TS} {D : Ends} {σ : St} {H : Hp} (Pv : Nat → St → Hp → Prop) (h0 : Pv 0 σ H) (hl : ∀ i σ H, i ≤ xs.length → Pv i σ H → SqT K H a xs)
    (hs : ∀ i x σ H, xs.reverse[i]? = some x → Pv i σ H → g x σ H fun σ2 H2 => tb { D with nx := Pv (i + 1), ct := Pv (i + 1), bk := D.nx } σ2 H2) (hd : ∀ σ H, Pv xs.length σ H → D.nx σ H) :
    ∃ W : Nat → Nat → St → Hp → Prop, (∃ m, W 0 m σ H) ∧ ∀ i m σ H, W i m σ H →
      ((ItRv K a xs.length).stop i H ∧ D.nx σ H) ∨ ((ItRv K a xs.length).go i H ∧ ∃ N : St → Hp → Prop, (∀ σ' H', N σ' H' → ∃ m', m' < m ∧ W (i + 1) m' σ' H') ∧ ∀ x H', (ItRv K a xs.length).yld i H x H' → g x σ H' fun σ2 H2 => tb { D with nx := N, ct := N, bk := D.nx } σ2 H2) := by
  refine ⟨fun i m σ H => m = xs.length - i ∧ i ≤ xs.length ∧ Pv i σ H, ⟨xs.length, by simp, Nat.zero_le _, h0⟩, ?_⟩
  rintro i m σ H ⟨rfl, hi, p⟩
  have q := hl i σ H hi p
  by_cases hlt : i < xs.length
  · refine .inr ⟨⟨xs, xs.reverse[i]'(by rw [List.length_reverse]; exact hlt), q, rfl, List.getElem?_eq_getElem _⟩, Pv (i + 1), fun σ' H' p' => ⟨xs.length - (i + 1), by omega, rfl, hlt, p'⟩, fun v H' y => ?_⟩
    obtain ⟨rfl, hx⟩ := y
    exact hs i v σ _ (hx xs q) p
  · have e : i = xs.length := by omega
    subst e
    exact .inl ⟨⟨xs, q, rfl, rfl⟩, hd σ H p⟩
end L2
/-! EvCls: own classes: fields, methods, makings, as rules with the promise bundled. Behind EvLay. -/
namespace L2
open PySem PySem.Spec PyProof.Rows
/-- a method's promise -/
def Mp (P : Program) (w : World) (K : PySem.W.Frag) (mg : Str → Option Value) (base : Heap) (CX : CXT) (k : Nat) (C : Addr) (m : Str) (ps : List Str) (sp : Sp) : Prop :=
  ∃ (f : Addr) (fd : FuncData), Meth K C m f ∧ Binds K fd ps [] ∧ FnOk P w K mg base CX k f fd ps sp
section
variable {X : Cx} {CX : CXT} {k : Nat} {C : Addr} {m : Str} {ps : List Str} {sp : Sp} {E : XK} {pos apos : Pos} {e o : Expr} {es : List Expr} {ta : TE} {t : TA}
theorem qe_methP {pl : Sem Bool} (h : Mp X.prog X.w X.K X.mg X.base CX k C m ps sp) (c : Cls X.K C) (hr : Room k X.A) (he : QE X o ta) (hx : Passes CX X E) (ha : QA X (e :: es) t)
    (hst : starEach (e :: es) X.env = (false, eval e X.env) :: starEach es X.env := by rfl) (hpl : (backTo pos (starEach es X.env)).any (·.1) = false := by rfl)
    (ht : eval (.Call (.Attribute o m apos) (e :: es) [] pos) X.env = (do
      let ov ← eval o X.env; standAt apos.atName; let (f, first) ← holding [ov] (getMethod ov m pl)
      callWith pos f first (backTo pos (starEach (e :: es) X.env)) (backToKw pos (keywordEach [] X.env))) := by rfl) :
    QE X (.Call (.Attribute o m apos) (e :: es) [] pos) (tMeth C m sp [] E ta t) := by
  obtain ⟨f, fd, hm, hb, F⟩ := h
  exact ⟨pe_meth he.h c hm F hr hb .nil hx ha.h hst hpl ht⟩
theorem qe_methP0 {pl : Sem Bool} (h : Mp X.prog X.w X.K X.mg X.base CX k C m ps sp) (c : Cls X.K C) (hr : Room k X.A) (he : QE X o ta) (hx : Passes CX X E)
    (ht : eval (.Call (.Attribute o m apos) [] [] pos) X.env = (do
      let ov ← eval o X.env; standAt apos.atName; let (f, first) ← holding [ov] (getMethod ov m pl)
      callWith pos f first (backTo pos (starEach [] X.env)) (backToKw pos (keywordEach [] X.env))) := by rfl) :
    QE X (.Call (.Attribute o m apos) [] [] pos) (tMeth C m sp [] E ta tNil) := by
  obtain ⟨f, fd, hm, hb, F⟩ := h
  exact ⟨pe_meth0 he.h c hm F hr hb .nil hx ht⟩
/-- a class's making -/
def Mkp (P : Program) (w : World) (K : PySem.W.Frag) (mg : Str → Option Value) (base : Heap) (CX : CXT) (k : Nat) (x : Str) (C : Addr) (ps : List Str) (sp : Sp) : Prop :=
  ∃ (f : Addr) (fd : FuncData), mg x = some (.ref C) ∧ Mk K C f ∧ Binds K fd ps [] ∧ FnOk P w K mg base CX k f fd ps sp
theorem qe_makeP {x : Str} {p : Pos} (h : Mkp X.prog X.w X.K X.mg X.base CX k x C ps sp) (hr : Room (k + 1) X.A) (hg : Gl X x) (hx : Passes CX X E) (ha : QA X (e :: es) t) (hdb : (x == ("__debug__" : Str)) = false := by decide)
    (he : starEach (e :: es) X.env = (false, eval e X.env) :: starEach es X.env := by rfl) (hpl : (backTo pos (starEach es X.env)).any (·.1) = false := by rfl) : QE X (.Call (.Name x p) (e :: es) [] pos) (tMake C sp [] E t) := by
  obtain ⟨f, fd, hm, M, hb, F⟩ := h
  exact ⟨pe_make M F hr hg hm hb .nil hx ha.h hdb he hpl⟩
end
end L2
/-! EvTr: tuple(range(i, j)). Behind EvLay. -/
namespace L2
open PySem PySem.Spec PyProof.Rows
section
variable {prog : Program} {w : World} {A : Around} {E : Value → Shared → Prop} {s : Shared}
end
end L2
namespace E1
open PySem L2
abbrev pw : Program := PySem.Challenge.pw_evenmeet_k27_whole_fields_of_one_size
def top (i : Nat) : Stmt := pw.main.body.getD i (.Pass ⟨0, 0, 0, 0⟩)
abbrev sWhole : Stmt := top 6
abbrev sIsBelow : Stmt := top 7
abbrev sMust : Stmt := top 8
abbrev sFrom : Stmt := top 9
abbrev sPrimes : Stmt := top 10
abbrev sIsPrime : Stmt := top 11
abbrev sRowTimes : Stmt := top 13
abbrev sRowRest : Stmt := top 14
abbrev sRowFactor : Stmt := top 15
abbrev sTrimmed : Stmt := top 16
abbrev sDigitsOf : Stmt := top 17
abbrev sNumberOf : Stmt := top 18
abbrev sMustBeRow : Stmt := top 22
abbrev sSizeWithin : Stmt := top 23
abbrev sMustBePrime : Stmt := top 24
abbrev sMustBeNoProduct : Stmt := top 25
abbrev sJoined : Stmt := top 26
abbrev sCell : Stmt := top 28
abbrev sLNumbers : Stmt := top 29
abbrev sLDivided : Stmt := top 30
abbrev sLRowBy : Stmt := top 31
abbrev sLTotal : Stmt := top 32
abbrev sLStays : Stmt := top 33
abbrev sLRowFrom : Stmt := top 34
abbrev sLPower : Stmt := top 35
abbrev sLValue : Stmt := top 36
abbrev sLLed : Stmt := top 37
abbrev sLPairs : Stmt := top 38
abbrev sLaw : Stmt := top 39
abbrev sMInit : Stmt := inClass (top 21) 0
abbrev sMSize : Stmt := inClass (top 21) 1
abbrev sMPlus : Stmt := inClass (top 21) 2
abbrev sMTimes : Stmt := inClass (top 21) 4
abbrev sMMustHave : Stmt := inClass (top 21) 8
section
variable {P : Program} {w : World} {K : PySem.W.Frag} {mg : Str → Option Value} {base : Heap} {M C : Addr}
theorem scWhole : FnScope ["thing"] ["thing"] (defScope sWhole) := ⟨rfl, rfl, rfl, by decide +kernel, rfl, by decide +kernel, by decide +kernel⟩
theorem ok_whole {f : Addr} {fd : FuncData} (F : Fun K "is_whole" "is_whole" sWhole f fd) (T : TxtB mg) : FnOk P w K mg base CX0 1 f fd ["thing"] (spWhole K) := by
  refine F.okQ scWhole (fun vs H Q E h => ?_) (fun cdv A outer s H vs Q E hr h => ?_)
  · obtain ⟨v, b, rfl, _⟩ := h
    rfl
  · obtain ⟨v, b, rfl, hw, k⟩ := h
    refine ⟨_, qss_one (qs_ret (qe_and (qe_callB call_isinst (by rfl) T.isi PyProof.Rows.boot_isinstance (qac (qv 0) (qac (qe_bltn (v := .ty "int") rfl T.int PyProof.Rows.boot_int rfl) qa_nil)))
      (qe_one (qe_not (qe_callB call_isinst (by rfl) T.isi PyProof.Rows.boot_isinstance (qac (qv 0) (qac (qe_bltn (v := .ty "bool") rfl T.bool PyProof.Rows.boot_bool rfl) qa_nil))))))), ?_⟩
    cases hw with
    | int i =>
      refine ⟨_, rfl, _, _, _, _, rfl, .int i, rel_ty (kit_int_int K), true, rfl, iteT ?_⟩
      exact ⟨_, rfl, _, _, _, _, rfl, .int i, rel_ty (kit_int_bool K), false, rfl, k⟩
    | bl x =>
      refine ⟨_, rfl, _, _, _, _, rfl, .bl x, rel_ty (kit_bool_int K), true, rfl, iteT ?_⟩
      exact ⟨_, rfl, _, _, _, _, rfl, .bl x, rel_ty (kit_bool_bool K), true, rfl, k⟩
    | odd ty kk =>
      exact ⟨_, rfl, _, _, _, _, rfl, ty, rel_ty kk, false, rfl, iteF k⟩
def spBelow : Sp := fun vs H Q _ => ∃ x m : Int, vs = [.int x, .int m] ∧ 0 ≤ x ∧ x < m ∧ Q (.bl true) H
theorem scIsBelow : FnScope ["thing", "many"] ["thing", "many"] (defScope sIsBelow) := ⟨rfl, rfl, rfl, by decide +kernel, rfl, by decide +kernel, by decide +kernel⟩
theorem ok_below {f : Addr} {fd : FuncData} (F : Fun K "is_below" "is_below" sIsBelow f fd) (pWhole : Pm P w K mg base CX0 1 "is_whole" ["thing"] (spWhole K)) : FnOk P w K mg base CX0 2 f fd ["thing", "many"] spBelow := by
  refine F.okQ scIsBelow (fun vs H Q E h => ?_) (fun cdv A outer s H vs Q E hr1 h => ?_)
  · obtain ⟨x, m, rfl, _⟩ := h
    rfl
  · obtain ⟨x, m, rfl, h0, h1, q⟩ := h
    refine ⟨_, (qss_one (qs_ret (qe_and (qe_callP pWhole hr1 rfl pass0 (qac (qv 0) qa_nil)) (qe_one (qe_chain op_le op_lt qe_int (qv 0) (qv 1)))))), ?_⟩
    refine ⟨_, rfl, .int x, true, rfl, .int x, true, rfl, iteT ?_⟩
    refine ⟨_, rfl, _, _, rfl, rfl, _, rfl, ifT h0 ?_⟩
    exact ⟨_, rfl, _, _, rfl, rfl, blT h1 q⟩
def spCell2 (K : PySem.W.Frag) : Sp := fun vs H Q _ => ∃ (a : Addr) (ns : List Int) (k : Nat), vs = [.ref a, .int (k : Int)] ∧ SqL K H a (ns.map V.int) ∧ k ≤ 1000 ∧ ∀ (z : Int) (H' : Hp), Same H H' → Q (.int z) H'
theorem scCell : FnScope ["_law_script", "_law_k", "_law_state", "_law_cell_here"] ["_law_script", "_law_k"] (defScope sCell) := ⟨rfl, rfl, rfl, by decide +kernel, rfl, by decide +kernel, by decide +kernel⟩
theorem ok_cell2 {f : Addr} {fd : FuncData} (F : Fun K "_law_cell" "_law_cell" sCell f fd) (T : TxtB mg) : FnOk P w K mg base CX0 1 f fd ["_law_script", "_law_k"] (spCell2 K) := by
  refine F.okQ scCell (fun vs H Q E h => ?_) (fun cdv A outer s H vs Q E hr h => ?_)
  · obtain ⟨a, ns, k, rfl, _⟩ := h
    rfl
  · obtain ⟨a, ns, k, rfl, hS, hk, q⟩ := h
    refine ⟨_, (qss_cons (qs_if (qt_cmpR op_lt (qv 1) (qe_callB call_len_seq (by rfl) T.len PySem.boot_len (qac (qv 0) qa_nil)) (nomark _)) (qss_one (qs_ret (qe_ix ix_list (qv 0) (qv 1) (fun _ _ => rfl)))) qss_nil)
      (qss_cons (qs_set (i := 2) scCell.nd rfl (Or.inl rfl) (qe_op op_mod (qe_op op_mul qe_int (qe_op op_add (qe_op op_add (qe_op op_mul (qv 1) (qv 1)) (qe_op op_mul qe_int (qv 1))) qe_int)) qe_int))
      (qss_cons (qs_for PassesOwn.never rfl (qi_list (qe_slice sl_list (qv 0) qo_none (qo_some qe_int))) (qg_name (i := 3) scCell.nd rfl (Or.inl rfl))
        (qss_one (qs_set (i := 2) scCell.nd rfl (Or.inl rfl) (qe_op op_mod (qe_op op_add (qe_op op_mul (qv 2) qe_int) (qv 3)) qe_int))))
      (qss_one (qs_ret (qv 2)))))), ?_⟩
    refine ⟨_, rfl, _, rfl, a, _, rfl, .inl hS, _, _, rfl, rfl, _, rfl, ?_⟩
    refine ite2 (fun hc => ?_) (fun hc => ?_)
    · have hlt : k < ns.length := by
        have := of_decide_eq_true hc
        rw [List.length_map] at this
        omega
      refine ⟨_, rfl, _, rfl, a, _, _, V.int ns[k], rfl, rfl, hS, atI_nat (by rw [List.getElem?_map, List.getElem?_eq_getElem hlt]; rfl), q _ _ (Same.refl _)⟩
    · refine ⟨_, rfl, _, rfl, _, _, rfl, rfl, .inr ⟨by omega, by omega⟩, _, rfl, _, _, rfl, rfl, .inl ⟨by decide, by decide⟩, _, _, rfl, rfl, _, _, rfl, rfl, _, _, rfl, rfl, .inl ⟨by decide, by decide⟩, _, _, rfl, rfl, by show (0 : Int) < 2147483647; decide, ?_⟩
      refine ⟨_, rfl, _, rfl, a, _, rfl, hS, fun l hl => ?_⟩
      refine ⟨l, rfl, ⟨_, SqL.of upd_same⟩, for_list (K := K) (a := l) (xs := cutV (ns.map V.int) none (some 3)) (fun i σ H2 => H2 = upd H l (.lst (cutV (ns.map V.int) none (some 3))) ∧ ∃ (z : Int) (x3 : Option V), σ = [some (.ref a), some (.int k), some (.int z), x3]) ⟨rfl, _, _, rfl⟩ (fun i σ H2 _ ⟨e, _⟩ => SqL.of (e ▸ upd_same)) ?_ ?_⟩
      · rintro i v σ H2 hi ⟨rfl, z, x3, rfl⟩
        obtain ⟨c, rfl⟩ := cut_ints v (List.mem_of_getElem? hi)
        exact ⟨_, rfl, _, _, rfl, rfl, .inr ⟨by decide, by decide⟩, _, rfl, _, _, rfl, rfl, _, _, rfl, rfl, by show (0 : Int) < 2147483647; decide, rfl, _, _, rfl⟩
      · rintro σ H2 ⟨rfl, z, x3, rfl⟩
        exact ⟨_, rfl, q _ _ (same_new hl)⟩
theorem pickB {x y : Int} (b : Bool) : atI [V.int x, V.int y] (if b then 1 else 0) = some (V.int (if b then y else x)) := by cases b <;> rfl
def spNums : Sp := fun vs H Q _ => ∃ (c : Int) (m : Nat), vs = [.int c, .int (m : Nat)] ∧ m ≤ 1000 ∧ ∀ (l : Addr) (ns : List Int) (H' : Hp), H l = none → Same H H' → H' l = some (.lst (ns.map V.int)) → ns.length = m → (∀ x ∈ ns, 0 ≤ x ∧ x < 2000000000) → Q (.ref l) H'
theorem scLNumbers : FnScope ["_law_cell_here", "_law_many", "_law_found", "_law_state", "_law_digits", "_law_k"] ["_law_cell_here", "_law_many"] (defScope sLNumbers) := ⟨rfl, rfl, rfl, by decide +kernel, rfl, by decide +kernel, by decide +kernel⟩
theorem ok_numbers {f : Addr} {fd : FuncData} (F : Fun K "_law_numbers" "_law_numbers" sLNumbers f fd) (T : TxtB mg) : FnOk P w K mg base CX0 1 f fd ["_law_cell_here", "_law_many"] spNums := by
  refine F.okQ scLNumbers (fun vs H Q E h => ?_) (fun cdv A outer s H vs Q E hr h => ?_)
  · obtain ⟨c, m, rfl, _⟩ := h
    rfl
  · obtain ⟨c, m, rfl, hm, q⟩ := h
    refine ⟨_, (qss_cons (qs_set (i := 2) scLNumbers.nd rfl (Or.inl rfl) (qe_lst qa_nil))
      (qss_cons (qs_set (i := 3) scLNumbers.nd rfl (Or.inl rfl) (qe_op op_mod (qe_op op_mul (qe_op op_add (qe_op op_mod (qv 0) qe_int) qe_int) qe_int) qe_int))
      (qss_cons (qs_set (i := 4) scLNumbers.nd rfl (Or.inl rfl) qe_int)
      (qss_cons (qs_if (QW.pt (qw_or (qt_cmpR op_lt (qv 0) qe_int (nomark _)) (qw_or1 (qt_cmpR op_ge (qv 0) (qe_op op_pow qe_int qe_int) (nomark _))))) (qss_one (qs_set (i := 4) scLNumbers.nd rfl (Or.inl rfl) (qe_callB call_abs (by rfl) T.abs PyProof.Rows.boot_abs (qac (qv 0) qa_nil)))) qss_nil)
      (qss_cons (qs_for PassesOwn.never rfl (qi_range1 rfl T.range (qac (qv 1) qa_nil)) (qg_name (i := 5) scLNumbers.nd rfl (Or.inl rfl))
        (qss_cons (qs_set (i := 3) scLNumbers.nd rfl (Or.inl rfl) (qe_op op_mod (qe_op op_add (qe_op op_add (qe_op op_mul (qv 3) (qe_op op_add (qe_op op_mod (qv 3) qe_int) qe_int)) (qe_op op_mul qe_int (qv 5))) qe_int) qe_int))
        (qss_cons (qs_expr (qe_bm PySem.F.plainAttrs_list PySem.F.slot_list_append PySem.F.type_list_append mt_append (qv 2) (qac (qe_ix ix_list (qe_lst (qac (qv 3) (qac (qe_op op_mod (qv 4) qe_int) qa_nil))) (qe_callTy call_int1 (by rfl) T.int PyProof.Rows.boot_int (qac (qe_cmpR op_gt (qv 4) qe_int (nomark _)) qa_nil)) (fun _ _ => rfl)) qa_nil)))
        (qss_one (qs_set (i := 4) scLNumbers.nd rfl (Or.inl rfl) (qe_op op_fdiv (qv 4) qe_int))))))
      (qss_one (qs_ret (qv 2)))))))), ?_⟩
    refine ⟨by show 0 ≤ sizeLine; decide, fun l hl => ?_⟩
    have big : (0 : Int) < 1999999973 := by decide
    have c1 := Int.emod_nonneg c (show (1999999973 : Int) ≠ 0 by decide)
    have c2 := Int.emod_lt_of_pos c big
    refine ⟨_, rfl, _, _, rfl, rfl, (by show (0 : Int) < 1999999973; decide), _, _, rfl, rfl, _, _, rfl, rfl, .inr ⟨by decide, by decide⟩, _, _, rfl, rfl, (by show (0 : Int) < 1999999973; decide), ?_⟩
    generalize hst : (c % 1999999973 + 31) * 765432101 % 1999999973 = st0
    have st1 : 0 ≤ st0 ∧ st0 < 1999999973 := by
      rw [← hst]
      exact ⟨Int.emod_nonneg _ (by decide), Int.emod_lt_of_pos _ (by decide)⟩
    refine ⟨_, rfl, _, _, rfl, rfl, _, rfl, ?_⟩
    obtain ⟨dg, hdg, hw⟩ : ∃ dg : Int, 0 ≤ dg ∧ ((c < 0 ∧ dg = (if c < 0 then -c else c)) ∨ (¬ c < 0 ∧ c ≥ 10 ^ (18 : Int).toNat ∧ dg = (if c < 0 then -c else c)) ∨ (¬ c < 0 ∧ ¬ c ≥ 10 ^ (18 : Int).toNat ∧ dg = 0)) := by
      by_cases h1 : c < 0
      · exact ⟨_, abs_nn c, .inl ⟨h1, rfl⟩⟩
      · by_cases h2 : c ≥ 10 ^ (18 : Int).toNat
        · exact ⟨_, abs_nn c, .inr (.inl ⟨h1, h2, rfl⟩)⟩
        · exact ⟨0, Int.le_refl 0, .inr (.inr ⟨h1, h2, rfl⟩)⟩
    rcases hw with ⟨h1, e⟩ | ⟨h1, h2, e⟩ | ⟨h1, h2, e⟩
    all_goals first | refine ifF h1 ⟨_, rfl, _, _, rfl, rfl, ⟨by decide, by decide, by decide⟩, _, _, rfl, rfl, _, rfl, ifT h2 ⟨_, rfl, c, rfl, ?_⟩⟩ | refine ifF h1 ⟨_, rfl, _, _, rfl, rfl, ⟨by decide, by decide, by decide⟩, _, _, rfl, rfl, _, rfl, ifF h2 ?_⟩ | refine ifT h1 ⟨_, rfl, c, rfl, ?_⟩
    all_goals
      refine ⟨_, rfl, ((m : Nat) : Int), rfl, by omega, by omega, for_range (n := m) (fun i σ H2 => Same H H2 ∧ ∃ (ns : List Int) (sd dg : Int) (x : Option V), σ = [some (.int c), some (.int (m : Nat)), some (.ref l), some (.int sd), some (.int dg), x] ∧ H2 l = some (.lst (ns.map V.int)) ∧ ns.length = i ∧ (∀ x ∈ ns, 0 ≤ x ∧ x < 2000000000) ∧ 0 ≤ sd ∧ sd < 1999999973 ∧ 0 ≤ dg)
        ⟨same_new hl, [], st0, dg, none, by rw [e, ← hst]; rfl, upd_same, rfl, by simp, st1.1, st1.2, hdg⟩ ?_ ?_⟩
      · rintro i σ H2 hi ⟨s2, ns, sd, dg, x, rfl, hl2, hlen, hns, h1, h2, h3⟩
        have a1 := Int.emod_nonneg sd (show (65521 : Int) ≠ 0 by decide)
        have a2 := Int.emod_lt_of_pos sd (show (0 : Int) < 65521 by decide)
        refine ⟨_, rfl, _, rfl, _, _, rfl, rfl, (by show (0 : Int) < 65521; decide), _, _, rfl, rfl, _, _, rfl, rfl, .inl ⟨by omega, by omega⟩, _, rfl, _, _, rfl, rfl, .inl ⟨by decide, by decide⟩, _, _, rfl, rfl, _, _, rfl, rfl, _, _, rfl, rfl, (by show (0 : Int) < 1999999973; decide), ?_⟩
        refine ⟨_, rfl, .inl ⟨rfl, _, SqL.of hl2⟩, _, rfl, _, rfl, _, _, rfl, rfl, (by show (0 : Int) < 1000000; decide), by show 2 ≤ sizeLine; decide, fun t ht => ?_⟩
        refine ⟨_, rfl, _, _, rfl, rfl, .inr ⟨_, rfl, t, _, _, _, rfl, rfl, SqL.of upd_same, pickB _, l, _, _, rfl, rfl, (same_new ht) _ _ hl2, ?_, ?_⟩⟩
        · rw [List.length_map, hlen]
          exact Nat.lt_of_lt_of_le hi (Nat.le_trans hm (by decide))
        refine ⟨_, rfl, _, _, rfl, rfl, ⟨by decide, by decide⟩, same_upd (s2.trans (same_new ht)) hl, ns ++ [if decide (0 < dg) = true then dg % 1000000 else (sd * (sd % 65521 + 40487) + 7 * (0 + (i : Int)) + 5) % 1999999973], _, _, _, rfl, ?_, ?_, ?_, ?_, ?_, ?_⟩
        · rw [List.map_append]
          exact upd_same
        · rw [List.length_append, hlen]
          rfl
        · intro y hy
          rcases List.mem_append.mp hy with z | z
          · exact hns y z
          · rw [List.mem_singleton.mp z]
            split
            · exact ⟨Int.emod_nonneg _ (by decide), Int.lt_trans (Int.emod_lt_of_pos _ (by decide)) (by decide)⟩
            · exact ⟨Int.emod_nonneg _ (by decide), Int.lt_trans (Int.emod_lt_of_pos _ (by decide)) (by decide)⟩
        · exact Int.emod_nonneg _ (by decide)
        · exact Int.emod_lt_of_pos _ (by decide)
        · exact Int.ediv_nonneg h3 (by decide)
      · rintro σ H2 ⟨s2, ns, sd, dg, x, rfl, hl2, hlen, hns, _⟩
        exact ⟨_, rfl, q l ns H2 hl s2 hl2 hlen hns⟩
theorem comp_list {K : PySem.W.Frag} {a : Addr} {xs : List V} {g : TG} {tc : TT} {te : TE} {σ' : St} {H : Hp} {G : Addr → Hp → List V → Prop} (Pv : Nat → List V → Hp → Prop) (h0 : Pv 0 [] H) (hl : ∀ i ys H, i ≤ xs.length → Pv i ys H → SqL K H a xs)
    (hs : ∀ i x ys H (N : List V → Hp → Prop), xs[i]? = some x → Pv i ys H → (∀ ys' H', Pv (i + 1) ys' H' → N ys' H') → g x σ' H fun σ2 H4 => Weak σ' σ2 ∧ tc σ2 H4 fun b H5 => if b = true then te σ2 H5 fun y H6 => ys.length < sizeLine ∧ N (ys ++ [y]) H6 else N ys H5)
    (hd : ∀ ys H, Pv xs.length ys H → ys.length ≤ sizeLine ∧ ∀ p, H p = none → G p H ys) :
    ∃ W : Nat → Nat → List V → Hp → Prop, (∃ m, W 0 m [] H) ∧ ∀ i m ys H2, W i m ys H2 →
      ((Itl K a).stop i H2 ∧ ys.length ≤ sizeLine ∧ ∀ p, H2 p = none → G p H2 ys) ∨
      ((Itl K a).go i H2 ∧ ∀ x H3, (Itl K a).yld i H2 x H3 → g x σ' H3 fun σ2 H4 => Weak σ' σ2 ∧ tc σ2 H4 fun b H5 =>
        if b = true then te σ2 H5 fun y H6 => ys.length < sizeLine ∧ ∃ m', m' < m ∧ W (i + 1) m' (ys ++ [y]) H6 else ∃ m', m' < m ∧ W (i + 1) m' ys H5) := by
  refine ⟨fun i m ys H => m = xs.length - i ∧ i ≤ xs.length ∧ Pv i ys H, ⟨xs.length, rfl, Nat.zero_le _, h0⟩, ?_⟩
  rintro i m ys H2 ⟨rfl, hi, p⟩
  have q := hl i ys H2 hi p
  by_cases hlt : i < xs.length
  · refine .inr ⟨⟨xs, xs[i], q, by simp [hlt]⟩, fun x H' y => ?_⟩
    obtain ⟨e, y⟩ := y
    subst e
    exact hs i x ys _ (fun ys' H'' => ∃ m', m' < xs.length - i ∧ m' = xs.length - (i + 1) ∧ i + 1 ≤ xs.length ∧ Pv (i + 1) ys' H'') (y xs q) p (fun ys' H'' p' => ⟨_, by omega, rfl, hlt, p'⟩)
  · have e : i = xs.length := by omega
    subst e
    exact .inl ⟨⟨xs, q, Nat.le_refl _⟩, hd ys H2 p⟩
theorem comp_tup {K : PySem.W.Frag} {a : Addr} {xs : List V} {g : TG} {tc : TT} {te : TE} {σ' : St} {H : Hp} {G : Addr → Hp → List V → Prop} (Pv : Nat → List V → Hp → Prop) (h0 : Pv 0 [] H) (hl : ∀ i ys H, i ≤ xs.length → Pv i ys H → SqT K H a xs)
    (hs : ∀ i x ys H (N : List V → Hp → Prop), xs[i]? = some x → Pv i ys H → (∀ ys' H', Pv (i + 1) ys' H' → N ys' H') → g x σ' H fun σ2 H4 => Weak σ' σ2 ∧ tc σ2 H4 fun b H5 => if b = true then te σ2 H5 fun y H6 => ys.length < sizeLine ∧ N (ys ++ [y]) H6 else N ys H5)
    (hd : ∀ ys H, Pv xs.length ys H → ys.length ≤ sizeLine ∧ ∀ p, H p = none → G p H ys) :
    ∃ W : Nat → Nat → List V → Hp → Prop, (∃ m, W 0 m [] H) ∧ ∀ i m ys H2, W i m ys H2 →
      ((Itt K a).stop i H2 ∧ ys.length ≤ sizeLine ∧ ∀ p, H2 p = none → G p H2 ys) ∨
      ((Itt K a).go i H2 ∧ ∀ x H3, (Itt K a).yld i H2 x H3 → g x σ' H3 fun σ2 H4 => Weak σ' σ2 ∧ tc σ2 H4 fun b H5 =>
        if b = true then te σ2 H5 fun y H6 => ys.length < sizeLine ∧ ∃ m', m' < m ∧ W (i + 1) m' (ys ++ [y]) H6 else ∃ m', m' < m ∧ W (i + 1) m' ys H5) := by
  refine ⟨fun i m ys H => m = xs.length - i ∧ i ≤ xs.length ∧ Pv i ys H, ⟨xs.length, rfl, Nat.zero_le _, h0⟩, ?_⟩
  rintro i m ys H2 ⟨rfl, hi, p⟩
  have q := hl i ys H2 hi p
  by_cases hlt : i < xs.length
  · refine .inr ⟨⟨xs, xs[i], q, by simp [hlt]⟩, fun x H' y => ?_⟩
    obtain ⟨e, y⟩ := y
    subst e
    exact hs i x ys _ (fun ys' H'' => ∃ m', m' < xs.length - i ∧ m' = xs.length - (i + 1) ∧ i + 1 ≤ xs.length ∧ Pv (i + 1) ys' H'') (y xs q) p (fun ys' H'' p' => ⟨_, by omega, rfl, hlt, p'⟩)
  · have e : i = xs.length := by omega
    subst e
    exact .inl ⟨⟨xs, q, Nat.le_refl _⟩, hd ys H2 p⟩
theorem at_ok {ns : List Int} {i : Nat} (h : i < ns.length) : ∃ x : Int, atI (ns.map V.int) (i : Int) = some (.int x) ∧ x ∈ ns := ⟨ns[i], atI_nat (by rw [List.getElem?_map, List.getElem?_eq_getElem h]; rfl), List.getElem_mem h⟩
theorem take_snoc {α : Type} {bs : List α} {i : Nat} {b : α} (h : bs[i]? = some b) : bs.take (i + 1) = bs.take i ++ [b] := by
  rw [List.take_add_one, h, Option.toList_some]
/-- without the noughts at the end -/
def trimL (l : List Nat) : List Nat := (l.reverse.dropWhile (fun x => decide (x = 0))).reverse
theorem trim_zero (l : List Nat) : trimL (l ++ [0]) = trimL l := by
  unfold trimL
  simp
theorem trim_keep (l : List Nat) {x : Nat} (h : x ≠ 0) : trimL (l ++ [x]) = l ++ [x] := by
  unfold trimL
  simp [h]
theorem trim_mem {l : List Nat} {x : Nat} (h : x ∈ trimL l) : x ∈ l := by
  unfold trimL at h
  rw [List.mem_reverse] at h
  exact List.mem_reverse.mp ((List.dropWhile_sublist _).subset h)
theorem trim_le (l : List Nat) : (trimL l).length ≤ l.length := by
  unfold trimL
  rw [List.length_reverse]
  exact Nat.le_trans (List.dropWhile_sublist _).length_le (by rw [List.length_reverse]; exact Nat.le_refl _)
theorem eqv_intsQ : ∀ L M : List Nat, PyData.eqvAll (L.map fun p => PyData.int ((p : Nat) : Int)) (M.map fun p => PyData.int ((p : Nat) : Int)) = decide (L = M)
  | [], [] => by simp [PyData.eqvAll]
  | [], _ :: _ => by simp [PyData.eqvAll]
  | _ :: _, [] => by simp [PyData.eqvAll]
  | x :: L, y :: M => by
    have ih := eqv_intsQ L M
    simp only [List.map_cons, PyData.eqvAll, PyData.eqv, ih]
    by_cases h : x = y
    · subst h
      simp
    · have : ¬ ((x : Int) = (y : Int)) := by omega
      simp [h, this]
theorem eqv_tupQ (L M : List Nat) : PyData.eqv (dTup L) (dTup M) = decide (L = M) := by
  simp only [dTup, PyData.eqv]
  exact eqv_intsQ L M
theorem shaped_tupQ (L : List Nat) : PySem.SeqAt.shaped (dTup L) = true := by
  unfold PySem.SeqAt.shaped dTup
  rw [Bool.and_eq_true]
  refine ⟨by simp only [PyData.canLay0]; exact lay_ints' L, decide_eq_true ?_⟩
  have := depth_ints' L
  simp only [PyData.depth]
  omega
theorem isD_tupQ {K : PySem.W.Frag} {H : Hp} {a : Addr} {L : List Nat} (h : H a = some (.tup (nats L))) : IsD K H (dTup L) (.ref a) := by
  simp only [dTup, IsD]
  exact ⟨a, _, rfl, SqT.of h, ints_isD' L⟩
theorem ejT {i j : Int} {A B : Prop} (h : i = j) (k : A) : if decide (V.int i = V.int j) = true then A else B := by
  rw [if_pos (by simp [h])]
  exact k
theorem ejF {i j : Int} {A B : Prop} (h : i ≠ j) (k : B) : if decide (V.int i = V.int j) = true then A else B := by
  rw [if_neg (by simp [h])]
  exact k
theorem nat_atQ {r : List Nat} {k : Nat} (hk : k < r.length) : atI (nats r) ((k : Nat) : Int) = some (.int ((r.getD k 0 : Nat) : Int)) := by
  refine atI_nat ?_
  unfold nats
  rw [List.getElem?_map, List.getElem?_eq_getElem hk]
  simp [hk]
theorem take_last {l : List Nat} {m : Nat} (h0 : 0 < m) (hm : m ≤ l.length) : l.take m = l.take (m - 1) ++ [l.getD (m - 1) 0] := by
  obtain ⟨j, rfl⟩ : ∃ j, m = j + 1 := ⟨m - 1, by omega⟩
  have hj : j < l.length := by omega
  rw [show j + 1 - 1 = j by omega, List.take_add_one, List.getElem?_eq_getElem hj]
  simp [hj]
def spTrim : Sp := fun vs H Q _ => ∃ (a : Addr) (l : List Nat), vs = [.ref a] ∧ H a = some (.lst (nats l)) ∧ l.length ≤ 100 ∧ ∀ (t : Addr) (H' : Hp), H t = none → Same H H' → H' t = some (.tup (nats (trimL l))) → Q (.ref t) H'
theorem scTrimmed : FnScope ["digits", "many"] ["digits"] (defScope sTrimmed) := ⟨rfl, rfl, rfl, by decide +kernel, rfl, by decide +kernel, by decide +kernel⟩
theorem ok_trimmed {f : Addr} {fd : FuncData} (F : Fun K "trimmed" "trimmed" sTrimmed f fd) (T : TxtB mg) : FnOk P w K mg base CX0 1 f fd ["digits"] spTrim := by
  refine F.okQ scTrimmed (fun vs H Q E h => ?_) (fun cdv A outer s H vs Q E hr h => ?_)
  · obtain ⟨a, l, rfl, _⟩ := h
    rfl
  · obtain ⟨a, l, rfl, ha, hl, q⟩ := h
    refine ⟨_, (qss_cons (qs_set (i := 1) scTrimmed.nd rfl (Or.inl rfl) (qe_callB call_len_seq (by rfl) T.len PySem.boot_len (qac (qv 0) qa_nil)))
      (qss_cons (qs_while PassesOwn.never (QW.pt (qw_and (qt_cmpR op_gt (qv 1) qe_int (nomark _)) (qw_and1 (qt_cmpR op_eq (qe_ix ix_list (qv 0) (qe_op op_sub (qv 1) qe_int) (fun _ _ => rfl)) qe_int (nomark _)))))
        (qss_one (qs_aug (i := 1) scTrimmed.nd rfl (Or.inl rfl) qe_int ip_sub)))
      (qss_one (qs_ret (qe_callTy call_tuple_of (by rfl) T.tup (by decide +kernel) (qac (qe_slice sl_list (qv 0) qo_none (qo_some (qv 1))) qa_nil)))))), ?_⟩
    refine ⟨_, rfl, a, _, rfl, .inl (SqL.of ha), ?_⟩
    rw [nats_len]
    refine while_w (fun σ H2 => H2 = H ∧ ∃ m : Nat, σ = [some (.ref a), some (.int ((m : Nat) : Int))] ∧ m ≤ l.length ∧ trimL (l.take m) = trimL l)
      (fun σ _ => match σ with | [_, some (.int m)] => m.toNat | _ => 0) ⟨rfl, l.length, rfl, Nat.le_refl _, by rw [List.take_length]⟩ ?_
    rintro mm σ H2 ⟨rfl, m, rfl, hm, htr⟩ hmm
    refine ⟨_, rfl, _, _, rfl, rfl, _, rfl, ?_⟩
    have ecut : cutV (nats l) none (some ((m : Nat) : Int)) = nats (l.take m) := by
      rw [cut_le]
      unfold nats
      rw [List.map_take]
    refine ite2 (fun h1 => ?_) (fun h1 => ?_)
    · have h1' : 0 < m := by
        have : (0 : Int) < ((m : Nat) : Int) := of_decide_eq_true h1
        omega
      have e1 : atI (nats l) (((m : Nat) : Int) - 1) = some (.int ((l.getD (m - 1) 0 : Nat) : Int)) := by
        rw [show ((m : Nat) : Int) - 1 = ((m - 1 : Nat) : Int) by omega]
        exact nat_atQ (by omega)
      refine ⟨_, rfl, _, rfl, _, _, rfl, rfl, a, _, _, _, rfl, rfl, SqL.of ha, e1, rfl, _, rfl, ?_⟩
      by_cases hz : l.getD (m - 1) 0 = 0
      · refine ejT (show ((l.getD (m - 1) 0 : Nat) : Int) = 0 by omega) (WTurn.of ?_)
        refine ⟨_, rfl, _, _, rfl, rfl, ⟨rfl, m - 1, by rw [show ((m - 1 : Nat) : Int) = ((m : Nat) : Int) - 1 by omega]; rfl, by omega, ?_⟩, ?_⟩
        · rw [← htr, take_last h1' hm, hz, trim_zero]
        · rw [hmm]
          show (((m : Nat) : Int) - 1).toNat < (((m : Nat) : Int)).toNat
          omega
      · refine ejF (show ((l.getD (m - 1) 0 : Nat) : Int) ≠ 0 by omega) ?_
        refine ⟨_, rfl, _, rfl, _, rfl, a, _, rfl, SqL.of ha, fun b hb => ⟨b, _, rfl, .inl ⟨SqL.of upd_same, fun t ht => ?_⟩⟩⟩
        rw [ecut] at ht ⊢
        refine q t _ ((same_new hb).free ht) ((same_new hb).trans (same_new ht)) ?_
        rw [upd_same, ← htr, take_last h1' hm, trim_keep _ hz]
    · have h1' : m = 0 := by
        have : ¬ (0 : Int) < ((m : Nat) : Int) := fun z => h1 (decide_eq_true z)
        omega
      subst h1'
      refine iteF ?_
      refine ⟨_, rfl, _, rfl, _, rfl, a, _, rfl, SqL.of ha, fun b hb => ⟨b, _, rfl, .inl ⟨SqL.of upd_same, fun t ht => ?_⟩⟩⟩
      rw [ecut] at ht ⊢
      refine q t _ ((same_new hb).free ht) ((same_new hb).trans (same_new ht)) ?_
      rw [upd_same, ← htr]
      rfl
/-- (v - t d) by p -/
def red (p v t d : Nat) : Nat := (((v : Nat) : Int) - ((t : Nat) : Int) * ((d : Nat) : Int)) % ((p : Nat) : Int) |>.toNat
theorem red_int {p v t d : Nat} (hp : 0 < p) : (((v : Nat) : Int) - ((t : Nat) : Int) * ((d : Nat) : Int)) % ((p : Nat) : Int) = ((red p v t d : Nat) : Int) ∧ red p v t d < p := by
  have h1 := Int.emod_nonneg (((v : Nat) : Int) - ((t : Nat) : Int) * ((d : Nat) : Int)) (show ((p : Nat) : Int) ≠ 0 by omega)
  have h2 := Int.emod_lt_of_pos (((v : Nat) : Int) - ((t : Nat) : Int) * ((d : Nat) : Int)) (show (0 : Int) < ((p : Nat) : Int) by omega)
  unfold red
  exact ⟨by omega, by omega⟩
/-- j numbers of a row taken off, from place s on -/
def stepJ (p : Nat) (b : List Nat) (s t : Nat) (l : List Nat) (j : Nat) : List Nat := l.mapIdx fun i v => if s ≤ i ∧ i < s + j then red p v t (b.getD (i - s) 0) else v
theorem stepJ_len (p : Nat) (b : List Nat) (s t : Nat) (l : List Nat) (j : Nat) : (stepJ p b s t l j).length = l.length := by
  unfold stepJ
  rw [List.length_mapIdx]
theorem stepJ_get {p : Nat} {b : List Nat} {s t : Nat} {l : List Nat} {j i : Nat} (h : i < (stepJ p b s t l j).length) (h' : i < l.length) : (stepJ p b s t l j)[i] = if s ≤ i ∧ i < s + j then red p l[i] t (b.getD (i - s) 0) else l[i] := List.getElem_mapIdx ..
theorem stepJ_zero (p : Nat) (b : List Nat) (s t : Nat) (l : List Nat) : stepJ p b s t l 0 = l := by
  apply List.ext_getElem
  · rw [stepJ_len]
  · intro i h1 h2
    rw [stepJ_get h1 h2, if_neg (by omega)]
theorem stepJ_at {p : Nat} {b : List Nat} {s t : Nat} {l : List Nat} {j : Nat} (h : s + j < l.length) : (stepJ p b s t l j).getD (s + j) 0 = l.getD (s + j) 0 := by
  have h2 : s + j < (stepJ p b s t l j).length := by rw [stepJ_len]; exact h
  rw [List.getD_eq_getElem?_getD, List.getD_eq_getElem?_getD, List.getElem?_eq_getElem h2, List.getElem?_eq_getElem h]
  show (stepJ p b s t l j)[s + j] = l[s + j]
  rw [stepJ_get h2 h, if_neg (by omega)]
theorem stepJ_succ {p : Nat} {b : List Nat} {s t : Nat} {l : List Nat} {j : Nat} (h : s + j < l.length) : (stepJ p b s t l j).set (s + j) (red p (l.getD (s + j) 0) t (b.getD j 0)) = stepJ p b s t l (j + 1) := by
  apply List.ext_getElem
  · rw [List.length_set, stepJ_len, stepJ_len]
  · intro i h1 h2
    have hi : i < l.length := by
      rw [stepJ_len] at h2
      exact h2
    rw [List.getElem_set, stepJ_get h2 hi]
    by_cases e : s + j = i
    · subst e
      rw [if_pos rfl, if_pos (by omega), show s + j - s = j by omega]
      simp [h]
    · rw [if_neg e, stepJ_get (by rw [stepJ_len]; exact hi) hi]
      by_cases e2 : s ≤ i ∧ i < s + j
      · rw [if_pos e2, if_pos (by omega)]
      · rw [if_neg e2, if_neg (by omega)]
theorem stepJ_lt {p : Nat} {b : List Nat} {s t : Nat} {l : List Nat} {j B : Nat} (hp : 0 < p) (hB : p ≤ B) (hl : ∀ x ∈ l, x < B) : ∀ x ∈ stepJ p b s t l j, x < B := by
  intro x hx
  obtain ⟨i, hi, rfl⟩ := List.mem_iff_getElem.mp hx
  have hi2 : i < l.length := by
    rw [stepJ_len] at hi
    exact hi
  rw [stepJ_get hi hi2]
  by_cases e : s ≤ i ∧ i < s + j
  · rw [if_pos e]
    exact Nat.lt_of_lt_of_le (red_int hp).2 hB
  · rw [if_neg e]
    exact hl _ (List.getElem_mem hi2)
/-- one turn: the top taken off -/
def stepL (p : Nat) (b l : List Nat) : List Nat := stepJ p b (l.length - b.length) (l.getD (l.length - 1) 0) l.dropLast (b.length - 1)
theorem stepL_len (p : Nat) (b l : List Nat) : (stepL p b l).length = l.length - 1 := by
  unfold stepL
  rw [stepJ_len, List.length_dropLast]
def restN (p : Nat) (b : List Nat) : Nat → List Nat → List Nat
  | 0, l => l
  | n + 1, l => restN p b n (stepL p b l)
/-- what a row leaves -/
def restF (p : Nat) (b l : List Nat) : List Nat := restN p b (l.length + 1 - b.length) l
theorem restF_step {p : Nat} {b l : List Nat} (h0 : 0 < l.length) (h : b.length ≤ l.length) : restF p b (stepL p b l) = restF p b l := by
  unfold restF
  rw [stepL_len, show l.length + 1 - b.length = (l.length - 1 + 1 - b.length) + 1 by omega]
  rfl
theorem restF_end {p : Nat} {b l : List Nat} (h : l.length < b.length) : restF p b l = l := by
  unfold restF
  rw [show l.length + 1 - b.length = 0 by omega]
  rfl
def spRest : Sp := fun vs H Q _ => ∃ (a b : Addr) (p : Nat) (one by' : List Nat), vs = [.int ((p : Nat) : Int), .ref a, .ref b] ∧ H a = some (.tup (nats one)) ∧ H b = some (.tup (nats by')) ∧ 1 ≤ p ∧ p ≤ 31 ∧ one.length ≤ 60 ∧ 1 ≤ by'.length ∧ by'.length ≤ 60 ∧ (∀ x ∈ one, x < 32) ∧ ∀ (t : Addr) (H' : Hp), H t = none → Same H H' → H' t = some (.tup (nats (trimL (restF p by' one)))) → Q (.ref t) H'
theorem nats_setQ (l : List Nat) (i x : Nat) : (nats l).set i (.int ((x : Nat) : Int)) = nats (l.set i x) := by
  unfold nats
  rw [List.map_set]
theorem nats_drop (l : List Nat) : (nats l).dropLast = nats l.dropLast := by
  unfold nats
  rw [List.map_dropLast]
theorem ixN_nat {n k : Nat} (h : k < n) : ixN n ((k : Nat) : Int) = some k := by
  unfold ixN
  rw [if_pos (by omega), if_pos (by omega), Int.toNat_natCast]
theorem scRowRest : FnScope ["p", "one", "by", "left", "top", "start", "place", "digit"] ["p", "one", "by"] (defScope sRowRest) := ⟨rfl, rfl, rfl, by decide +kernel, rfl, by decide +kernel, by decide +kernel⟩
theorem cut_but {b : List Nat} (h : 1 ≤ b.length) : cutV (nats b) none (some (-1)) = nats b.dropLast := by
  unfold cutV
  have e1 : HT.sIx (nats b).length 0 none = 0 := by simp [HT.sIx]
  have e2 : HT.sIx (nats b).length (nats b).length (some (-1)) = b.length - 1 := by
    rw [nats_len]
    simp [HT.sIx]
    omega
  rw [e1, e2, List.drop_zero, Nat.sub_zero, List.dropLast_eq_take]
  unfold nats
  rw [List.map_take]
theorem not_all {n : Nat} (h : 1 ≤ n) : ¬ (HT.sIx n 0 none = 0 ∧ HT.sIx n n (some (-1)) = n) := by
  rintro ⟨_, z⟩
  simp [HT.sIx] at z
  omega
theorem ok_rest {f : Addr} {fd : FuncData} (F : Fun K "row_rest" "row_rest" sRowRest f fd) (T : TxtB mg) (pTrimmed : Pm P w K mg base CX0 1 "trimmed" ["digits"] spTrim) : FnOk P w K mg base CX0 2 f fd ["p", "one", "by"] spRest := by
  refine F.okQ scRowRest (fun vs H Q E h => ?_) (fun cdv A outer s H vs Q E hr1 h => ?_)
  · obtain ⟨a, b, p, one, by', rfl, _⟩ := h
    rfl
  · obtain ⟨a, b, p, one, by', rfl, ha, hb, hp1, hp31, ho60, hb1, hb60, ho, q⟩ := h
    refine ⟨_, (qss_cons (qs_set (i := 3) scRowRest.nd rfl (Or.inl rfl) (qe_callTy call_list_of (by rfl) T.lst (by decide +kernel) (qac (qv 1) qa_nil)))
      (qss_cons (qs_while PassesOwn.never (qt_cmpR op_ge (qe_callB call_len_seq (by rfl) T.len PySem.boot_len (qac (qv 3) qa_nil)) (qe_callB call_len_seq (by rfl) T.len PySem.boot_len (qac (qv 2) qa_nil)) (nomark _))
        (qss_cons (qs_set (i := 4) scRowRest.nd rfl (Or.inl rfl) (qe_bm0 PySem.F.plainAttrs_list PySem.F.slot_list_pop PySem.F.type_list_pop mt_pop (qv 3)))
        (qss_cons (qs_set (i := 5) scRowRest.nd rfl (Or.inl rfl) (qe_op op_sub (qe_op op_add (qe_callB call_len_seq (by rfl) T.len PySem.boot_len (qac (qv 3) qa_nil)) qe_int) (qe_callB call_len_seq (by rfl) T.len PySem.boot_len (qac (qv 2) qa_nil))))
        (qss_one (qs_for PassesOwn.never rfl (qi_enumK rfl T.enu (qe_slice sl_tup (qv 2) qo_none (qo_some (qe_un un_neg qe_int))) (qv 5)) (qg_tup rfl (qgs_cons (qg_name (i := 6) scRowRest.nd rfl (Or.inl rfl)) (qgs_cons (qg_name (i := 7) scRowRest.nd rfl (Or.inl rfl)) qgs_nil)))
          (qss_one (qs_asg (qe_op op_mod (qe_op op_sub (qe_ix ix_list (qv 3) (qv 6) (fun _ _ => rfl)) (qe_op op_mul (qv 4) (qv 7))) (qv 0)) (qg_sub (qv 3) (qv 6) set_list))))))))
      (qss_one (qs_ret (qe_callP pTrimmed hr1 rfl pass0 (qac (qv 3) qa_nil)))))), ?_⟩
    refine ⟨_, rfl, a, _, rfl, .inr (SqT.of ha), fun g hg => ?_⟩
    refine while_w (fun σ H2 => Same H H2 ∧ ∃ (l : List Nat) (x4 x5 x6 x7 : Option V), σ = [some (.int ((p : Nat) : Int)), some (.ref a), some (.ref b), some (.ref g), x4, x5, x6, x7] ∧ H2 g = some (.lst (nats l)) ∧ restF p by' l = restF p by' one ∧ l.length ≤ 60 ∧ ∀ x ∈ l, x < 32)
      (fun _ H2 => match H2 g with | some (.lst xs) => xs.length | _ => 0) ⟨same_new hg, one, none, none, none, none, rfl, upd_same, rfl, ho60, ho⟩ ?_
    rintro mm σ H2 ⟨s2, l, x4, x5, x6, x7, rfl, hg2, hre, hl60, hl32⟩ hmm
    have hb2 := s2 _ _ hb
    refine ⟨_, rfl, g, _, rfl, .inl (SqL.of hg2), _, rfl, b, _, rfl, .inr (SqT.of hb2), _, _, rfl, rfl, _, rfl, ?_⟩
    refine ite2 (fun h1 => WTurn.of ?_) (fun h1 => ?_)
    · have h1' : by'.length ≤ l.length := by
        have := of_decide_eq_true h1
        rw [nats_len, nats_len] at this
        omega
      have hl0 : 0 < l.length := by omega
      have e1 : (nats l)[(nats l).length - 1]? = some (.int ((l.getD (l.length - 1) 0 : Nat) : Int)) := by
        rw [nats_len]
        unfold nats
        rw [List.getElem?_map, List.getElem?_eq_getElem (by omega)]
        simp [show l.length - 1 < l.length by omega]
      refine ⟨_, rfl, .inl ⟨rfl, _, SqL.of hg2⟩, g, _, _, rfl, rfl, hg2, e1, ?_⟩
      rw [nats_drop]
      have s3 : Same H (upd H2 g (.lst (nats l.dropLast))) := same_upd s2 hg
      have hg3 : upd H2 g (.lst (nats l.dropLast)) g = some (.lst (nats l.dropLast)) := upd_same
      generalize upd H2 g (.lst (nats l.dropLast)) = H3 at s3 hg3 ⊢
      refine ⟨_, rfl, g, _, rfl, .inl (SqL.of hg3), _, _, rfl, rfl, _, rfl, b, _, rfl, .inr (SqT.of (s3 _ _ hb)), _, _, rfl, rfl, ?_⟩
      dsimp only
      rw [nats_len, nats_len, List.length_dropLast, show ((l.length - 1 : Nat) : Int) + 1 - ((by'.length : Nat) : Int) = ((l.length - by'.length : Nat) : Int) by omega]
      refine ⟨_, rfl, 1, rfl, _, rfl, b, _, rfl, SqT.of (s3 _ _ hb), by rw [nats_len]; exact not_all hb1, fun c hc => ?_⟩
      rw [show cutV (nats by') none (some (-1)) = nats by'.dropLast from cut_but hb1]
      have w4 := same_new (o := .tup (nats by'.dropLast)) hc
      have s4 := s3.trans w4
      have hg4 := w4 _ _ hg3
      have hc4 : upd H3 c (.tup (nats by'.dropLast)) c = some (.tup (nats by'.dropLast)) := upd_same
      have hcg : g ≠ c := ne_of_none hg3 hc
      generalize upd H3 c (.tup (nats by'.dropLast)) = H4 at s4 hg4 hc4 ⊢
      refine ⟨_, rfl, c, l.length - by'.length, rfl, rfl, by omega, ⟨_, SqT.of hc4⟩, for_enumK (k0 := l.length - by'.length) (K := K) (xs := nats by'.dropLast) (fun j σ H5 => Same H H5 ∧ H5 c = some (.tup (nats by'.dropLast)) ∧ (∃ x6 x7, σ = [some (.int ((p : Nat) : Int)), some (.ref a), some (.ref b), some (.ref g), some (.int ((l.getD (l.length - 1) 0 : Nat) : Int)), some (.int ((l.length - by'.length : Nat) : Int)), x6, x7]) ∧ H5 g = some (.lst (nats (stepJ p by' (l.length - by'.length) (l.getD (l.length - 1) 0) l.dropLast j)))) ⟨s4, hc4, ⟨_, _, rfl⟩, by rw [stepJ_zero]; exact hg4⟩ (fun j σ H5 _ ⟨_, e, _⟩ => SqT.of e) ?_ ?_⟩
      · rintro j v T1 σ H5 hj ⟨s5, hc5, ⟨x6, x7, rfl⟩, hg5⟩ hT1
        obtain ⟨y, hy, rfl⟩ := L2.nats_get hj
        have hjl := (List.getElem?_eq_some_iff.mp hy).1
        rw [List.length_dropLast] at hjl
        have hyb : by'.getD j 0 = y := by
          rw [List.getD_eq_getElem?_getD]
          rw [List.dropLast_eq_take, List.getElem?_take_of_lt (by omega)] at hy
          rw [hy]
          rfl
        have w5 := same_new (o := .tup [V.int ((l.length - by'.length + j : Nat) : Int), V.int ((y : Nat) : Int)]) hT1
        refine ⟨T1, _, rfl, SqT.of upd_same, rfl, _, _, rfl, _, _, rfl, rfl, ?_⟩
        have s6 := s5.trans w5
        have hc6 := w5 _ _ hc5
        have hg6 := w5 _ _ hg5
        generalize upd H5 T1 (.tup [V.int ((l.length - by'.length + j : Nat) : Int), V.int ((y : Nat) : Int)]) = H6 at s6 hc6 hg6 ⊢
        have hix : l.length - by'.length + j < l.dropLast.length := by rw [List.length_dropLast]; omega
        have e2 : atI (nats (stepJ p by' (l.length - by'.length) (l.getD (l.length - 1) 0) l.dropLast j)) ((l.length - by'.length + j : Nat) : Int) = some (.int ((l.dropLast.getD (l.length - by'.length + j) 0 : Nat) : Int)) := by
          rw [nat_atQ (by rw [stepJ_len]; exact hix), stepJ_at hix]
        have htop : l.getD (l.length - 1) 0 < 32 := by
          rw [List.getD_eq_getElem?_getD, List.getElem?_eq_getElem (by omega)]
          exact hl32 _ (List.getElem_mem _)
        obtain ⟨r1, r2⟩ := red_int (p := p) (v := l.dropLast.getD (l.length - by'.length + j) 0) (t := l.getD (l.length - 1) 0) (d := y) (by omega)
        refine ⟨_, rfl, _, rfl, g, _, _, _, rfl, rfl, SqL.of hg6, e2, _, rfl, _, rfl, _, _, rfl, rfl, .inl ⟨by omega, by omega⟩, _, _, rfl, rfl, _, rfl, _, _, rfl, rfl, by omega, _, rfl, _, rfl, g, _, _, l.length - by'.length + j, rfl, rfl, hg6, by rw [nats_len, stepJ_len]; exact ixN_nat hix, ?_⟩
        have hcg6 : c ≠ g := Ne.symm hcg
        have key : (nats (stepJ p by' (l.length - by'.length) (l.getD (l.length - 1) 0) l.dropLast j)).set (l.length - by'.length + j) (V.int ((((l.dropLast.getD (l.length - by'.length + j) 0 : Nat) : Int) - ((l.getD (l.length - 1) 0 : Nat) : Int) * ((y : Nat) : Int)) % ((p : Nat) : Int))) = nats (stepJ p by' (l.length - by'.length) (l.getD (l.length - 1) 0) l.dropLast (j + 1)) := by
          rw [r1, nats_setQ, ← hyb, stepJ_succ hix]
        refine ⟨same_upd s6 hg, by rw [upd_ne hcg6]; exact hc6, ⟨_, _, rfl⟩, ?_⟩
        rw [upd_same]
        exact congrArg (fun z => some (HO.lst z)) key
      · rintro σ H5 ⟨s5, hc5, ⟨x6, x7, rfl⟩, hg5⟩
        rw [nats_len, List.length_dropLast] at hg5
        have hst : stepJ p by' (l.length - by'.length) (l.getD (l.length - 1) 0) l.dropLast (by'.length - 1) = stepL p by' l := rfl
        rw [hst] at hg5
        refine ⟨⟨s5, stepL p by' l, _, _, _, _, rfl, hg5, by rw [restF_step hl0 h1', hre], by rw [stepL_len]; omega, ?_⟩, ?_⟩
        · exact stepJ_lt (by omega) (by omega) fun x hx => hl32 x (List.dropLast_subset _ hx)
        · rw [hmm, hg2]
          show (match H5 g with | some (.lst xs) => xs.length | _ => 0) < _
          rw [hg5]
          show (nats (stepL p by' l)).length < (nats l).length
          rw [nats_len, nats_len, stepL_len]
          omega
    · have h1' : l.length < by'.length := by
        have : ¬ ((nats by').length : Int) ≤ ((nats l).length : Int) := fun z => h1 (decide_eq_true z)
        rw [nats_len, nats_len] at this
        omega
      refine ⟨_, rfl, g, l, rfl, hg2, by omega, fun t H3 ht s3 ht3 => ?_⟩
      refine q t H3 (s2.free ht) (s2.trans s3) ?_
      rw [← hre, restF_end h1']
      exact ht3
/-- the products that meet at k, of the first i numbers -/
def csL (one other : List Nat) (k i : Nat) : List Nat := ((List.range i).filter fun j => decide (j ≤ k ∧ k < j + other.length)).map fun j => one.getD j 0 * other.getD (k - j) 0
theorem csL_snoc (one other : List Nat) (k i : Nat) : csL one other k (i + 1) = csL one other k i ++ if i ≤ k ∧ k < i + other.length then [one.getD i 0 * other.getD (k - i) 0] else [] := by
  unfold csL
  rw [List.range_succ, List.filter_append, List.map_append]
  by_cases h : i ≤ k ∧ k < i + other.length
  · rw [if_pos h]
    simp [h]
  · rw [if_neg h]
    simp [h]
/-- the product of two rows -/
def convL (p : Nat) (one other : List Nat) : List Nat := (List.range (one.length + other.length)).map fun k => (csL one other k one.length).sum % p
def spProd : Sp := fun vs H Q _ => ∃ (a b : Addr) (p : Nat) (one other : List Nat), vs = [.int ((p : Nat) : Int), .ref a, .ref b] ∧ H a = some (.tup (nats one)) ∧ H b = some (.tup (nats other)) ∧ 1 ≤ p ∧ p ≤ 31 ∧ one.length ≤ 20 ∧ other.length ≤ 20 ∧ (∀ x ∈ one, x < 32) ∧ (∀ x ∈ other, x < 32) ∧ ∀ (t : Addr) (H' : Hp), H t = none → Same H H' → H' t = some (.tup (nats (trimL (convL p one other)))) → Q (.ref t) H'
def sumTo : Nat → (Nat → Int) → Int
  | 0, _ => 0
  | n + 1, f => sumTo n f + f n
theorem sumTo_congr {f g : Nat → Int} : ∀ {n : Nat}, (∀ i, i < n → f i = g i) → sumTo n f = sumTo n g
  | 0, _ => rfl
  | n + 1, h => by
    rw [sumTo, sumTo, sumTo_congr fun i hi => h i (by omega), h n (by omega)]
theorem sumTo_add (f g : Nat → Int) : ∀ n, sumTo n (fun i => f i + g i) = sumTo n f + sumTo n g
  | 0 => rfl
  | n + 1 => by
    rw [sumTo, sumTo, sumTo, sumTo_add f g n]
    omega
theorem sumTo_mul (c : Int) (f : Nat → Int) : ∀ n, sumTo n (fun i => c * f i) = c * sumTo n f
  | 0 => by simp [sumTo]
  | n + 1 => by
    rw [sumTo, sumTo, sumTo_mul c f n, Int.mul_add]
theorem sumTo_zero {f : Nat → Int} : ∀ {n : Nat}, (∀ i, i < n → f i = 0) → sumTo n f = 0
  | 0, _ => rfl
  | n + 1, h => by
    rw [sumTo, sumTo_zero fun i hi => h i (by omega), h n (by omega)]
    rfl
theorem sumTo_swap (m : Nat) (f : Nat → Nat → Int) : ∀ n, sumTo n (fun i => sumTo m fun j => f i j) = sumTo m (fun j => sumTo n fun i => f i j)
  | 0 => (sumTo_zero fun _ _ => rfl).symm
  | n + 1 => by
    rw [sumTo, sumTo_swap m f n, ← sumTo_add]
    rfl
theorem sumTo_tail {n : Nat} {f : Nat → Int} (h : ∀ i, n ≤ i → f i = 0) : ∀ k, sumTo (n + k) f = sumTo n f
  | 0 => rfl
  | k + 1 => by
    rw [← Nat.add_assoc, sumTo, sumTo_tail h k, h _ (by omega), Int.add_zero]
theorem sumTo_shift (s : Nat) (f : Nat → Int) : ∀ n, sumTo (s + n) (fun i => if s ≤ i then f i else 0) = sumTo n (fun m => f (s + m))
  | 0 => sumTo_zero fun i hi => if_neg (by omega)
  | n + 1 => by
    rw [← Nat.add_assoc, sumTo, sumTo_shift s f n, sumTo, if_pos (by omega)]
theorem sumTo_pick (f : Nat → Int) (k : Nat) : ∀ n, sumTo n (fun i => f i * if i = k then 1 else 0) = if k < n then f k else 0
  | 0 => by
    rw [if_neg (by omega)]
    rfl
  | n + 1 => by
    rw [sumTo, sumTo_pick f k n]
    by_cases h : n = k
    · subst h
      rw [if_neg (by omega), if_pos rfl, if_pos (by omega), Int.mul_one, Int.zero_add]
    · rw [if_neg h, Int.mul_zero, Int.add_zero]
      by_cases h2 : k < n
      · rw [if_pos h2, if_pos (by omega)]
      · rw [if_neg h2, if_neg (by omega)]
/-- alike by p -/
def Cg (p : Nat) (x y : Int) : Prop := ∃ c : Int, x = y + (p : Int) * c
theorem Cg.refl {p : Nat} (x : Int) : Cg p x x := ⟨0, by simp⟩
theorem Cg.of_eq {p : Nat} {x y : Int} (h : x = y) : Cg p x y := h ▸ Cg.refl x
theorem Cg.symm {p : Nat} {x y : Int} (h : Cg p x y) : Cg p y x := by
  obtain ⟨c, h⟩ := h
  exact ⟨-c, by rw [h, Int.mul_neg]; omega⟩
theorem Cg.trans {p : Nat} {x y z : Int} (h : Cg p x y) (h2 : Cg p y z) : Cg p x z := by
  obtain ⟨c, h⟩ := h
  obtain ⟨d, h2⟩ := h2
  exact ⟨c + d, by rw [h, h2, Int.mul_add]; omega⟩
theorem Cg.add {p : Nat} {x y z u : Int} (h : Cg p x y) (h2 : Cg p z u) : Cg p (x + z) (y + u) := by
  obtain ⟨c, h⟩ := h
  obtain ⟨d, h2⟩ := h2
  exact ⟨c + d, by rw [h, h2, Int.mul_add]; omega⟩
theorem Cg.mul {p : Nat} {x y : Int} (h : Cg p x y) (z : Int) : Cg p (x * z) (y * z) := by
  obtain ⟨c, h⟩ := h
  exact ⟨c * z, by rw [h, Int.add_mul, Int.mul_assoc]⟩
theorem Cg.sum {p : Nat} {f g : Nat → Int} : ∀ {n : Nat}, (∀ i, i < n → Cg p (f i) (g i)) → Cg p (sumTo n f) (sumTo n g)
  | 0, _ => Cg.refl _
  | n + 1, h => (Cg.sum fun i hi => h i (by omega)).add (h n (by omega))
theorem Cg.mod {p : Nat} (x : Int) : Cg p (x % (p : Int)) x := ⟨-(x / (p : Int)), by
  have := Int.mul_ediv_add_emod x (p : Int)
  rw [Int.mul_neg]
  omega⟩
theorem Cg.eq {p : Nat} {x y : Nat} (h : Cg p (x : Int) (y : Int)) (hx : x < p) (hy : y < p) : x = y := by
  obtain ⟨c, h⟩ := h
  have h1 : (x : Int) % (p : Int) = (y : Int) % (p : Int) := by
    rw [h, Int.add_mul_emod_self_left]
  rw [Int.emod_eq_of_lt (by omega) (by omega), Int.emod_eq_of_lt (by omega) (by omega)] at h1
  omega
/-- what the powers leave -/
def tabX (b : List Nat) (d k : Nat) : Nat → Nat → Int
  | 0, i => if i = k then 1 else 0
  | n + 1, i => if i = n + d then -(sumTo d fun m => ((b.getD m 0 : Nat) : Int) * tabX b d k n (n + m)) else tabX b d k n i
theorem tabX_keep {b : List Nat} {d k n i : Nat} (h : i < n + d) : ∀ j, tabX b d k (n + j) i = tabX b d k n i
  | 0 => rfl
  | j + 1 => by
    rw [← Nat.add_assoc, tabX, if_neg (by omega), tabX_keep h j]
def Xv (b : List Nat) (d k i : Nat) : Int := tabX b d k i i
theorem tab_Xv {b : List Nat} {d k n i : Nat} (hd : 1 ≤ d) (h : i < n + d) : tabX b d k n i = Xv b d k i := by
  unfold Xv
  rcases Nat.le_total n i with z | z
  · have := tabX_keep (b := b) (k := k) h (i - n)
    rw [show n + (i - n) = i by omega] at this
    exact this.symm
  · have := tabX_keep (b := b) (d := d) (k := k) (n := i) (i := i) (by omega) (n - i)
    rw [show i + (n - i) = n by omega] at this
    exact this
theorem Xv_low {b : List Nat} {d k i : Nat} (hd : 1 ≤ d) (h : i < d) : Xv b d k i = if i = k then 1 else 0 := by
  rw [← tab_Xv (n := 0) hd (by omega)]
  rfl
theorem Xv_rec {b : List Nat} {d k : Nat} (hd : 1 ≤ d) (n : Nat) : Xv b d k (n + d) = -(sumTo d fun m => ((b.getD m 0 : Nat) : Int) * Xv b d k (n + m)) := by
  rw [← tab_Xv (n := n + 1) hd (by omega), tabX, if_pos rfl]
  congr 1
  exact sumTo_congr fun m hm => by rw [tab_Xv hd (by omega)]
def bsI (b : List Nat) (s i : Nat) : Int := if s ≤ i then ((b.getD (i - s) 0 : Nat) : Int) else 0
theorem getD_out {l : List Nat} {i : Nat} (h : l.length ≤ i) : l.getD i 0 = 0 := by
  rw [List.getD_eq_getElem?_getD, List.getElem?_eq_none h]
  rfl
theorem getD_in {l : List Nat} {i : Nat} (h : i < l.length) : l.getD i 0 = l[i] := by
  rw [List.getD_eq_getElem?_getD, List.getElem?_eq_getElem h]
  rfl
theorem bs_sum {b : List Nat} {d k s : Nat} (hd : 1 ≤ d) (hb : b.length = d + 1) (h1 : b.getD d 0 = 1) (hs : s + d < 60) : sumTo 60 (fun i => bsI b s i * Xv b d k i) = 0 := by
  have e1 : sumTo 60 (fun i => bsI b s i * Xv b d k i) = sumTo (s + (60 - s)) (fun i => if s ≤ i then ((b.getD (i - s) 0 : Nat) : Int) * Xv b d k i else 0) := by
    rw [show s + (60 - s) = 60 by omega]
    refine sumTo_congr fun i _ => ?_
    unfold bsI
    by_cases z : s ≤ i
    · rw [if_pos z, if_pos z]
    · rw [if_neg z, if_neg z, Int.zero_mul]
  rw [e1, sumTo_shift]
  have e2 : sumTo (60 - s) (fun m => ((b.getD (s + m - s) 0 : Nat) : Int) * Xv b d k (s + m)) = sumTo (d + 1 + (60 - s - (d + 1))) (fun m => ((b.getD m 0 : Nat) : Int) * Xv b d k (s + m)) := by
    rw [show d + 1 + (60 - s - (d + 1)) = 60 - s by omega]
    refine sumTo_congr fun m _ => ?_
    rw [show s + m - s = m by omega]
  rw [e2, sumTo_tail (fun i hi => by rw [getD_out (by omega)]; simp), sumTo, h1, Xv_rec hd]
  omega
def Ev (b : List Nat) (d k : Nat) (l : List Nat) : Int := sumTo 60 fun i => ((l.getD i 0 : Nat) : Int) * Xv b d k i
theorem step_cg {p : Nat} {b l : List Nat} {d n : Nat} (hp : 1 ≤ p) (hb : b.length = d + 1) (h1 : b.getD d 0 = 1) (hl : l.length = n + 1) (hn : d ≤ n) (i : Nat) : Cg p (((stepL p b l).getD i 0 : Nat) : Int) (((l.getD i 0 : Nat) : Int) + bsI b (n - d) i * -((l.getD n 0 : Nat) : Int)) := by
  have hsl : (stepL p b l).length = n := by rw [stepL_len, hl]; rfl
  rcases Nat.lt_trichotomy i n with z | z | z
  · have hi : i < (stepL p b l).length := by omega
    have hdl : i < l.dropLast.length := by rw [List.length_dropLast, hl]; exact z
    rw [getD_in hi]
    unfold stepL at hi ⊢
    rw [stepJ_get hi hdl, List.getElem_dropLast, show l.length - b.length = n - d by omega, show l.getD (l.length - 1) 0 = l.getD n 0 by rw [hl]; rfl, show n - d + (b.length - 1) = n by omega]
    unfold bsI
    by_cases zz : n - d ≤ i
    · rw [if_pos ⟨zz, z⟩, if_pos zz, getD_in (show i < l.length by omega), ← (red_int hp).1]
      refine (Cg.mod _).trans (Cg.of_eq ?_)
      rw [Int.mul_neg, Int.mul_comm]
      omega
    · rw [if_neg (fun q => zz q.1), if_neg zz, getD_in (show i < l.length by omega)]
      exact Cg.of_eq (by simp)
  · subst z
    rw [getD_out (by omega)]
    unfold bsI
    rw [if_pos (by omega), show i - (i - d) = d by omega, h1]
    exact Cg.of_eq (by simp; omega)
  · rw [getD_out (by omega), getD_out (show l.length ≤ i by omega)]
    unfold bsI
    rw [if_pos (by omega), getD_out (by omega)]
    exact Cg.of_eq (by simp)
theorem step_ev {p : Nat} {b l : List Nat} {d k : Nat} (hp : 1 ≤ p) (hd : 1 ≤ d) (hb : b.length = d + 1) (h1 : b.getD d 0 = 1) (hl : l.length ≤ 60) (hn : d + 1 ≤ l.length) : Cg p (Ev b d k (stepL p b l)) (Ev b d k l) := by
  obtain ⟨n, hn'⟩ : ∃ n, l.length = n + 1 := ⟨l.length - 1, by omega⟩
  have e : Ev b d k l = sumTo 60 (fun i => (((l.getD i 0 : Nat) : Int) + bsI b (n - d) i * -((l.getD n 0 : Nat) : Int)) * Xv b d k i) := by
    have e1 : sumTo 60 (fun i => (((l.getD i 0 : Nat) : Int) + bsI b (n - d) i * -((l.getD n 0 : Nat) : Int)) * Xv b d k i) = sumTo 60 (fun i => ((l.getD i 0 : Nat) : Int) * Xv b d k i + -((l.getD n 0 : Nat) : Int) * (bsI b (n - d) i * Xv b d k i)) := by
      refine sumTo_congr fun i _ => ?_
      rw [Int.add_mul, Int.mul_comm (bsI b (n - d) i), Int.mul_assoc]
    rw [e1, sumTo_add, sumTo_mul, bs_sum hd hb h1 (by omega), Int.mul_zero, Int.add_zero]
    rfl
  rw [e]
  exact Cg.sum fun i _ => (step_cg hp hb h1 hn' (by omega) i).mul _
theorem rest_facts {p : Nat} {b : List Nat} {d : Nat} (hp : 1 ≤ p) (hd : 1 ≤ d) (hb : b.length = d + 1) (h1 : b.getD d 0 = 1) : ∀ n l, l.length + 1 = b.length + n → l.length ≤ 60 → (∀ x ∈ l, x < p) → (restN p b n l).length ≤ d ∧ (∀ x ∈ restN p b n l, x < p) ∧ ∀ k, Cg p (Ev b d k (restN p b n l)) (Ev b d k l)
  | 0, l, h, _, hx => ⟨by rw [restN]; omega, hx, fun k => Cg.refl _⟩
  | n + 1, l, h, hl, hx => by
    have hsl := stepL_len p b l
    obtain ⟨q1, q2, q3⟩ := rest_facts hp hd hb h1 n (stepL p b l) (by omega) (by omega) (stepJ_lt (by omega) (Nat.le_refl p) fun x hx' => hx x (List.dropLast_subset _ hx'))
    exact ⟨q1, q2, fun k => (q3 k).trans (step_ev hp hd hb h1 hl (by omega))⟩
theorem restF_facts {p : Nat} {b l : List Nat} {d : Nat} (hp : 1 ≤ p) (hd : 1 ≤ d) (hb : b.length = d + 1) (h1 : b.getD d 0 = 1) (hl : l.length ≤ 60) (hx : ∀ x ∈ l, x < p) : (restF p b l).length ≤ d ∧ (∀ x ∈ restF p b l, x < p) ∧ ∀ k, Cg p (Ev b d k (restF p b l)) (Ev b d k l) := by
  by_cases z : l.length < b.length
  · rw [restF_end z]
    exact ⟨by omega, hx, fun k => Cg.refl _⟩
  · exact rest_facts hp hd hb h1 (l.length + 1 - b.length) l (by omega) hl hx
theorem ev_low {b r : List Nat} {d k : Nat} (hd : 1 ≤ d) (hd60 : d ≤ 60) (hr : r.length ≤ d) (hk : k < d) : Ev b d k r = ((r.getD k 0 : Nat) : Int) := by
  unfold Ev
  rw [show 60 = d + (60 - d) by omega, sumTo_tail (fun i hi => by rw [getD_out (by omega)]; simp), sumTo_congr (g := fun i => ((r.getD i 0 : Nat) : Int) * if i = k then 1 else 0) fun i hi => by rw [Xv_low hd hi], sumTo_pick (fun i => ((r.getD i 0 : Nat) : Int)), if_pos hk]
/-- no nought at the end -/
def Tight (l : List Nat) : Prop := l = [] ∨ l.getD (l.length - 1) 0 ≠ 0
theorem rev_cases (l : List Nat) : l = [] ∨ ∃ m x, l = m ++ [x] := by
  rcases List.eq_nil_or_concat l with h | ⟨m, x, h⟩
  · exact .inl h
  · exact .inr ⟨m, x, by rw [h, List.concat_eq_append]⟩
theorem trim_facts : ∀ (n : Nat) (l : List Nat), l.length = n → Tight (trimL l) ∧ ∀ i, (trimL l).getD i 0 = l.getD i 0
  | 0, l, h => by
    have : l = [] := List.length_eq_zero_iff.mp h
    subst this
    exact ⟨.inl rfl, fun i => rfl⟩
  | n + 1, l, h => by
    rcases rev_cases l with rfl | ⟨m, x, rfl⟩
    · cases h
    · rw [List.length_append] at h
      have hm : m.length = n := by
        have : m.length + 1 = n + 1 := h
        omega
      by_cases hx : x = 0
      · subst hx
        rw [trim_zero]
        obtain ⟨q1, q2⟩ := trim_facts n m hm
        refine ⟨q1, fun i => ?_⟩
        rw [q2]
        rcases Nat.lt_trichotomy i m.length with z | z | z
        · rw [List.getD_eq_getElem?_getD, List.getD_eq_getElem?_getD, List.getElem?_append_left z]
        · subst z
          rw [getD_out (Nat.le_refl _), List.getD_eq_getElem?_getD, List.getElem?_append_right (Nat.le_refl _), Nat.sub_self]
          rfl
        · rw [getD_out (by omega), getD_out (by rw [List.length_append]; show m.length + 1 ≤ i; omega)]
      · rw [trim_keep m hx]
        refine ⟨.inr ?_, fun i => rfl⟩
        rw [List.length_append, show m.length + [x].length - 1 = m.length from rfl, List.getD_eq_getElem?_getD, List.getElem?_append_right (Nat.le_refl _), Nat.sub_self]
        exact hx
theorem trim_at (l : List Nat) (i : Nat) : (trimL l).getD i 0 = l.getD i 0 := (trim_facts _ l rfl).2 i
theorem tight_le {l m : List Nat} (hl : Tight l) (h : ∀ i, l.getD i 0 = m.getD i 0) : l.length ≤ m.length := by
  rcases hl with rfl | hl
  · exact Nat.zero_le _
  · rcases Nat.lt_or_ge m.length l.length with z | z
    · rw [h, getD_out (by omega)] at hl
      exact absurd rfl hl
    · exact z
theorem trim_ext {l m : List Nat} (h : ∀ i, l.getD i 0 = m.getD i 0) : trimL l = trimL m := by
  obtain ⟨a1, a2⟩ := trim_facts _ l rfl
  obtain ⟨b1, b2⟩ := trim_facts _ m rfl
  have hh : ∀ i, (trimL l).getD i 0 = (trimL m).getD i 0 := fun i => by rw [a2, b2, h]
  have h1 := tight_le a1 hh
  have h2 := tight_le b1 fun i => (hh i).symm
  apply List.ext_getElem (by omega)
  intro i z1 z2
  have := hh i
  rw [getD_in z1, getD_in z2] at this
  exact this
theorem cs_sum (one other : List Nat) (k : Nat) : ∀ n, (((csL one other k n).sum : Nat) : Int) = sumTo n fun j => ((one.getD j 0 : Nat) : Int) * bsI other j k
  | 0 => rfl
  | n + 1 => by
    rw [csL_snoc, List.sum_append, sumTo, ← cs_sum one other k n]
    unfold bsI
    by_cases h : n ≤ k ∧ k < n + other.length
    · rw [if_pos h, if_pos h.1]
      simp
    · rw [if_neg h]
      by_cases h2 : n ≤ k
      · rw [if_pos h2, getD_out (l := other) (by omega)]
        simp
      · rw [if_neg h2]
        simp
theorem conv_cg {p : Nat} (one other : List Nat) (i : Nat) : Cg p (((convL p one other).getD i 0 : Nat) : Int) (sumTo one.length fun j => ((one.getD j 0 : Nat) : Int) * bsI other j i) := by
  have hlen : (convL p one other).length = one.length + other.length := by
    unfold convL
    rw [List.length_map, List.length_range]
  by_cases h : i < one.length + other.length
  · rw [getD_in (by omega)]
    unfold convL
    rw [List.getElem_map, List.getElem_range, ← cs_sum]
    exact Int.natCast_emod _ _ ▸ Cg.mod _
  · rw [getD_out (by omega), sumTo_zero fun j hj => ?_]
    · exact Cg.refl _
    · unfold bsI
      rw [if_pos (by omega), getD_out (l := other) (by omega)]
      simp
theorem new_both {H : Hp} {a : Addr} {o : HO} (h : H a = none) : Same H (upd H a o) ∧ upd H a o a = some o := ⟨same_new h, upd_same⟩
/-- the products so far: i whole rows, j numbers of the next -/
def prN (one other : List Nat) (i j k : Nat) : Nat := (csL one other k i).sum + if i ≤ k ∧ k < i + j then one.getD i 0 * other.getD (k - i) 0 else 0
def prL (one other : List Nat) (i j : Nat) : List Nat := (List.range (one.length + other.length)).map (prN one other i j)
theorem prL_len (one other : List Nat) (i j : Nat) : (prL one other i j).length = one.length + other.length := by
  unfold prL
  rw [List.length_map, List.length_range]
theorem prL_el {one other : List Nat} {i j k : Nat} (h : k < (prL one other i j).length) : (prL one other i j)[k] = prN one other i j k := by
  simp [prL]
theorem prL_get {one other : List Nat} {i j k : Nat} (h : k < one.length + other.length) : (prL one other i j).getD k 0 = prN one other i j k := by
  rw [getD_in (by rw [prL_len]; exact h)]
  unfold prL
  rw [List.getElem_map, List.getElem_range]
theorem prL_row (one other : List Nat) (i : Nat) : prL one other i other.length = prL one other (i + 1) 0 := by
  unfold prL
  apply List.map_congr_left
  intro k _
  unfold prN
  rw [csL_snoc, List.sum_append, if_neg (c := i + 1 ≤ k ∧ k < i + 1 + 0) (by omega)]
  by_cases h : i ≤ k ∧ k < i + other.length
  · rw [if_pos h, if_pos h]
    simp
  · rw [if_neg h, if_neg h]
    simp
theorem prL_step {one other : List Nat} {i j : Nat} (hi : i < one.length) (hj : j < other.length) : (prL one other i j).set (i + j) (prN one other i j (i + j) + one.getD i 0 * other.getD j 0) = prL one other i (j + 1) := by
  apply List.ext_getElem
  · rw [List.length_set, prL_len, prL_len]
  · intro k h1 h2
    rw [prL_len] at h2
    rw [List.getElem_set, prL_el, prL_el]
    unfold prN
    by_cases e : i + j = k
    · subst e
      rw [if_pos rfl, if_neg (by omega), if_pos (by omega), show i + j - i = j by omega]
      omega
    · rw [if_neg e]
      by_cases e2 : i ≤ k ∧ k < i + j
      · rw [if_pos e2, if_pos (by omega)]
      · rw [if_neg e2, if_neg (by omega)]
theorem prL_zero (one other : List Nat) : prL one other 0 0 = List.replicate (one.length + other.length) 0 := by
  rw [List.eq_replicate_iff]
  refine ⟨prL_len .., fun b hb => ?_⟩
  unfold prL at hb
  obtain ⟨k, _, rfl⟩ := List.mem_map.mp hb
  unfold prN
  rw [if_neg (by omega)]
  rfl
theorem pr_conv (p : Nat) (one other : List Nat) : (prL one other one.length 0).map (fun x => x % p) = convL p one other := by
  unfold prL convL
  rw [List.map_map]
  apply List.map_congr_left
  intro k _
  show prN one other one.length 0 k % p = _
  unfold prN
  rw [if_neg (by omega)]
  rfl
theorem rep_flatQ : ∀ n : Nat, (List.replicate n [V.int 0]).flatten = nats (List.replicate n 0)
  | 0 => rfl
  | n + 1 => by
    rw [List.replicate_succ, List.flatten_cons, rep_flatQ n, List.replicate_succ]
    rfl
theorem nats_map_take {xs : List Nat} {i x : Nat} (f : Nat → Nat) (h : xs[i]? = some x) : nats ((xs.take i).map f) ++ [V.int ((f x : Nat) : Int)] = nats ((xs.take (i + 1)).map f) := by
  rw [take_snoc h, List.map_append, List.map_cons, List.map_nil, nats_snoc]
theorem scRowTimes : FnScope ["p", "one", "other", "product", "place", "digit", "further", "factor"] ["p", "one", "other"] (defScope sRowTimes) := ⟨rfl, rfl, rfl, by decide +kernel, rfl, by decide +kernel, by decide +kernel⟩
theorem ok_times {f : Addr} {fd : FuncData} (F : Fun K "row_times" "row_times" sRowTimes f fd) (T : TxtB mg) (pTrimmed : Pm P w K mg base CX0 1 "trimmed" ["digits"] spTrim) : FnOk P w K mg base CX0 2 f fd ["p", "one", "other"] spProd := by
  refine F.okQ scRowTimes (fun vs H Q E h => ?_) (fun cdv A outer s H vs Q E hr1 h => ?_)
  · obtain ⟨a, b, p, one, other, rfl, _⟩ := h
    rfl
  · obtain ⟨a, b, p, one, other, rfl, ha, hb, hp1, hp31, ho20, ht20, ho, ht, q⟩ := h
    refine ⟨_, (qss_cons (qs_set (i := 3) scRowTimes.nd rfl (Or.inl rfl) (qe_op op_mulL (qe_lst (qac qe_int qa_nil)) (qe_op op_add (qe_callB call_len_seq (by rfl) T.len PySem.boot_len (qac (qv 1) qa_nil)) (qe_callB call_len_seq (by rfl) T.len PySem.boot_len (qac (qv 2) qa_nil)))))
      (qss_cons (qs_for PassesOwn.never rfl (qi_enumT rfl T.enu (qac (qv 1) qa_nil)) (qg_tup rfl (qgs_cons (qg_name (i := 4) scRowTimes.nd rfl (Or.inl rfl)) (qgs_cons (qg_name (i := 5) scRowTimes.nd rfl (Or.inl rfl)) qgs_nil)))
        (qss_one (qs_for PassesOwn.never rfl (qi_enumT rfl T.enu (qac (qv 2) qa_nil)) (qg_tup rfl (qgs_cons (qg_name (i := 6) scRowTimes.nd rfl (Or.inl rfl)) (qgs_cons (qg_name (i := 7) scRowTimes.nd rfl (Or.inl rfl)) qgs_nil)))
          (qss_one (qs_augS (qv 3) (qe_op op_add (qv 4) (qv 6)) get_listN (qe_op op_mul (qv 5) (qv 7)) ip_add set_list)))))
      (qss_one (qs_ret (qe_callP pTrimmed hr1 rfl pass0 (qac (qe_comp (g := gName 0) (N := ["digit", "p"]) (src := [none, some 0]) rfl (comp_scope (defScope sRowTimes) ["p", "one", "other", "product", "place", "digit", "further", "factor"] rfl rfl (by decide +kernel) rfl) (qi_list (qv 3)) (fun _ _ _ _ _ => (qg_name (i := 0) (show (["digit", "p"] : List Str).Nodup by decide +kernel) rfl (Or.inl rfl) (Or.inr rfl))) (fun _ _ _ _ _ => qif_nil) (fun _ _ _ _ _ => (qe_op op_mod (qv 0) (qv 1)))) qa_nil)))))), ?_⟩
    refine ⟨by show 1 ≤ sizeLine; decide, fun d hd => ?_⟩
    have w1 := same_new (o := .lst [V.int 0]) hd
    refine ⟨_, rfl, a, _, rfl, .inr (SqT.of (w1 _ _ ha)), _, rfl, b, _, rfl, .inr (SqT.of (w1 _ _ hb)), _, _, rfl, rfl, d, [V.int 0], ((one.length + other.length : Nat) : Int), rfl, ?_, SqL.of upd_same, by omega, by omega, by rw [List.length_singleton, Int.toNat_natCast]; omega, fun l hl => ?_⟩
    · show V.int ((((nats one).length : Nat) : Int) + (((nats other).length : Nat) : Int)) = _
      rw [nats_len, nats_len, show ((one.length : Nat) : Int) + ((other.length : Nat) : Int) = ((one.length + other.length : Nat) : Int) by omega]
    rw [Int.toNat_natCast, rep_flatQ, ← prL_zero one other]
    obtain ⟨w2, hl2⟩ := new_both (o := .lst (nats (prL one other 0 0))) hl
    have hl0 : H l = none := w1.free hl
    have s2 := w1.trans w2
    generalize upd _ l _ = H2 at hl2 s2 ⊢
    refine ⟨_, rfl, a, rfl, ⟨_, SqT.of (s2 _ _ ha)⟩, for_enumT (K := K) (xs := nats one) (fun i σ H3 => Same H H3 ∧ (∃ x4 x5 x6 x7, σ = [some (.int ((p : Nat) : Int)), some (.ref a), some (.ref b), some (.ref l), x4, x5, x6, x7]) ∧ H3 l = some (.lst (nats (prL one other i 0)))) ⟨s2, ⟨none, none, none, none, rfl⟩, hl2⟩ (fun i σ H3 _ ⟨e, _⟩ => SqT.of (e _ _ ha)) ?_ ?_⟩
    · rintro i v T1 σ H3 hi ⟨s3, ⟨x4, x5, x6, x7, rfl⟩, hl3⟩ hT1
      obtain ⟨x, hx, rfl⟩ := L2.nats_get hi
      have hil := (List.getElem?_eq_some_iff.mp hx).1
      obtain ⟨w4, hT4⟩ := new_both (o := .tup [.int ((i : Nat) : Int), .int ((x : Nat) : Int)]) hT1
      have s4 := s3.trans w4
      have hl4 := w4 _ _ hl3
      have hxe : one.getD i 0 = x := by rw [List.getD_eq_getElem?_getD, hx]; rfl
      refine ⟨T1, _, rfl, SqT.of upd_same, rfl, _, _, rfl, _, _, rfl, rfl, ?_⟩
      generalize upd _ T1 _ = H4 at hT4 s4 hl4 ⊢
      refine ⟨_, rfl, b, rfl, ⟨_, SqT.of (s4 _ _ hb)⟩, for_enumT (K := K) (xs := nats other) (fun j σ H5 => Same H H5 ∧ (∃ x6 x7, σ = [some (.int ((p : Nat) : Int)), some (.ref a), some (.ref b), some (.ref l), some (.int ((i : Nat) : Int)), some (.int ((x : Nat) : Int)), x6, x7]) ∧ H5 l = some (.lst (nats (prL one other i j)))) ⟨s4, ⟨_, _, rfl⟩, hl4⟩ (fun j σ H5 _ ⟨e, _⟩ => SqT.of (e _ _ hb)) ?_ ?_⟩
      · rintro j v T2 σ H5 hj ⟨s5, ⟨x6, x7, rfl⟩, hl5⟩ hT2
        obtain ⟨y, hy, rfl⟩ := L2.nats_get hj
        have hjl := (List.getElem?_eq_some_iff.mp hy).1
        obtain ⟨w6, hT6⟩ := new_both (o := .tup [.int ((j : Nat) : Int), .int ((y : Nat) : Int)]) hT2
        have s6 := s5.trans w6
        have hl6 := w6 _ _ hl5
        have hye : other.getD j 0 = y := by rw [List.getD_eq_getElem?_getD, hy]; rfl
        have hx32 := ho x (List.mem_of_getElem? hx)
        have hy32 := ht y (List.mem_of_getElem? hy)
        refine ⟨T2, _, rfl, SqT.of upd_same, rfl, _, _, rfl, _, _, rfl, rfl, ?_⟩
        generalize upd _ T2 _ = H6 at hT6 s6 hl6 ⊢
        have hij : i + j < one.length + other.length := by omega
        have hat : atI (nats (prL one other i j)) ((i + j : Nat) : Int) = some (.int ((prN one other i j (i + j) : Nat) : Int)) := by
          rw [nat_atQ (by rw [prL_len]; exact hij), prL_get hij]
        have eij : ((i : Nat) : Int) + ((j : Nat) : Int) = ((i + j : Nat) : Int) := by omega
        refine ⟨_, rfl, _, rfl, _, rfl, _, _, rfl, rfl, l, _, _, _, rfl, rfl, SqL.of hl6, by omega, by rw [eij]; exact hat, _, rfl, _, rfl, _, _, rfl, rfl, .inl ⟨by omega, by omega⟩, _, _, rfl, rfl, l, _, _, i + j, rfl, rfl, hl6, by rw [eij, nats_len, prL_len]; exact ixN_nat hij, ?_⟩
        have key : (nats (prL one other i j)).set (i + j) (V.int (((prN one other i j (i + j) : Nat) : Int) + ((x : Nat) : Int) * ((y : Nat) : Int))) = nats (prL one other i (j + 1)) := by
          rw [← prL_step hil hjl, ← nats_setQ, hxe, hye]
          simp
        refine ⟨same_upd s6 hl0, ⟨_, _, rfl⟩, ?_⟩
        rw [upd_same]
        exact congrArg (fun z => some (HO.lst z)) key
      · rintro σ H5 ⟨s5, ⟨x6, x7, rfl⟩, hl5⟩
        refine ⟨s5, ⟨_, _, _, _, rfl⟩, ?_⟩
        rw [nats_len, prL_row] at hl5
        exact hl5
    · rintro σ H3 ⟨s3, ⟨x4, x5, x6, x7, rfl⟩, hl3⟩
      rw [nats_len] at hl3
      refine ⟨_, rfl, l, rfl, ⟨_, SqL.of hl3⟩, comp_list (K := K) (xs := nats (prL one other one.length 0)) (fun i zs H4 => H4 = H3 ∧ zs = nats (((prL one other one.length 0).take i).map fun x => x % p)) ⟨rfl, rfl⟩ (fun i zs H4 _ ⟨e, _⟩ => SqL.of (e ▸ hl3)) ?_ ?_⟩
      · rintro i v zs H4 N hi ⟨rfl, rfl⟩ nx
        obtain ⟨x, hx, rfl⟩ := L2.nats_get hi
        have hil := (List.getElem?_eq_some_iff.mp hx).1
        rw [prL_len] at hil
        refine ⟨Weak.set (by intro v z; cases z), ⟨_, rfl, _, rfl, _, _, rfl, rfl, (show (0 : Int) < ((p : Nat) : Int) by omega), ?_, nx _ _ ⟨rfl, ?_⟩⟩⟩
        · rw [nats_len, List.length_map, List.length_take]
          exact Nat.lt_of_le_of_lt (Nat.min_le_left ..) (Nat.lt_of_lt_of_le (show i < 40 by omega) (by decide))
        · rw [← nats_map_take (fun x => x % p) hx]
          rfl
      · rintro zs H4 ⟨rfl, rfl⟩
        rw [show (nats (prL one other one.length 0)).length = (prL one other one.length 0).length from nats_len _, List.take_length, pr_conv]
        have hcl : (convL p one other).length = one.length + other.length := by
          unfold convL
          rw [List.length_map, List.length_range]
        refine ⟨by rw [nats_len, hcl]; exact Nat.le_trans (show _ ≤ 40 by omega) (by decide), fun r hr' => ?_⟩
        have w5 := same_new (o := .lst (nats (convL p one other))) hr'
        refine ⟨r, convL p one other, rfl, upd_same, by omega, fun t H5 ht3 s5 h5 => ?_⟩
        exact q t H5 ((s3.trans w5).free ht3) ((s3.trans w5).trans s5) h5
theorem conv_len (p : Nat) (one other : List Nat) : (convL p one other).length = one.length + other.length := by
  unfold convL
  rw [List.length_map, List.length_range]
theorem conv_lt {p : Nat} (hp : 1 ≤ p) (one other : List Nat) : ∀ x ∈ trimL (convL p one other), x < p := by
  intro x hx
  have := trim_mem hx
  unfold convL at this
  obtain ⟨k, _, rfl⟩ := List.mem_map.mp this
  exact Nat.mod_lt _ hp
theorem conv_le (p : Nat) (one other : List Nat) : (trimL (convL p one other)).length ≤ one.length + other.length := by
  rw [← conv_len p one other]
  exact trim_le _
/-- the lowest n digits -/
def digN (p : Nat) : Nat → Nat → List Nat
  | 0, _ => []
  | n + 1, x => (x % p) :: digN p n (x / p)
theorem digN_len (p : Nat) : ∀ n x, (digN p n x).length = n
  | 0, _ => rfl
  | n + 1, x => by rw [digN, List.length_cons, digN_len p n]
theorem digN_lt {p : Nat} (hp : 0 < p) : ∀ n x, ∀ y ∈ digN p n x, y < p
  | 0, _, y, h => by cases h
  | n + 1, x, y, h => by
    rcases List.mem_cons.mp h with rfl | h
    · exact Nat.mod_lt _ hp
    · exact digN_lt hp n _ y h
theorem digN_snoc (p : Nat) : ∀ n x, digN p (n + 1) x = digN p n x ++ [x / p ^ n % p]
  | 0, x => by simp [digN]
  | n + 1, x => by
    rw [digN, digN_snoc p n (x / p), digN, List.cons_append, Nat.div_div_eq_div_mul, Nat.pow_succ, Nat.mul_comm p]
theorem digN_top {p : Nat} (hp : 2 ≤ p) : ∀ s x, x < p ^ s → digN p (s + 1) (p ^ s + x) = digN p s x ++ [1]
  | 0, x, h => by
    have : x = 0 := by simpa using h
    subst this
    simp [digN]
    exact Nat.mod_eq_of_lt (by omega)
  | s + 1, x, h => by
    have hp0 : 0 < p := by omega
    have h2 : x / p < p ^ s := by
      rw [Nat.div_lt_iff_lt_mul hp0, ← Nat.pow_succ]
      exact h
    have e1 : (p ^ (s + 1) + x) % p = x % p := by
      rw [Nat.pow_succ, Nat.mul_add_mod_self_right]
    have e2 : (p ^ (s + 1) + x) / p = p ^ s + x / p := by
      rw [Nat.pow_succ, Nat.mul_comm, Nat.mul_add_div hp0]
    rw [digN, e1, e2, digN_top hp s (x / p) h2]
    rfl
def fac (p s x : Nat) : List Nat := digN p s x ++ [1]
/-- a row told, or none -/
def Dv (p : Nat) (row : List Nat) : Option (List Nat) → Prop
  | none => ∀ s x, 1 ≤ s → s ≤ (row.length - 1) / 2 → x < p ^ s → trimL (restF p (fac p s x) row) ≠ []
  | some b => ∃ s x, 1 ≤ s ∧ s ≤ (row.length - 1) / 2 ∧ x < p ^ s ∧ b = fac p s x ∧ trimL (restF p b row) = []
def DvAt (H : Hp) (v : V) : Option (List Nat) → Prop
  | none => v = .non
  | some b => ∃ t, v = .ref t ∧ H t = some (.tup (nats b))
theorem pow_le6 {p s : Nat} (hp : p ≤ 31) (hs : s ≤ 6) : p ^ s ≤ 887503681 := by
  have h1 : p ^ s ≤ 31 ^ s := Nat.pow_le_pow_left hp s
  have h2 : 31 ^ s ≤ 31 ^ 6 := Nat.pow_le_pow_right (by decide) hs
  exact Nat.le_trans h1 (Nat.le_trans h2 (by decide))
theorem pow_le {p s : Nat} (hp : p ≤ 31) (hs : s ≤ 4) : p ^ s ≤ 923521 := by
  have h1 : p ^ s ≤ 31 ^ s := Nat.pow_le_pow_left hp s
  have h2 : 31 ^ s ≤ 31 ^ 4 := Nat.pow_le_pow_right (by decide) hs
  exact Nat.le_trans h1 (Nat.le_trans h2 (by decide))
def spDv : Sp := fun vs H Q _ => ∃ (a : Addr) (p : Nat) (row : List Nat), vs = [.int ((p : Nat) : Int), .ref a] ∧ H a = some (.tup (nats row)) ∧ 2 ≤ p ∧ p ≤ 31 ∧ row.length ≤ 9 ∧ (∀ x ∈ row, x < 32) ∧ ∀ v o H', Same H H' → Dv p row o → DvAt H' v o → Q v H'
def spDigits : Sp := fun vs H Q _ => ∃ (p n s : Nat), vs = [.int ((p : Nat) : Int), .int ((n : Nat) : Int)] ∧ 2 ≤ p ∧ p ≤ 31 ∧ s ≤ 4 ∧ p ^ s ≤ n ∧ n < 2 * p ^ s ∧ ∀ (t : Addr) (H' : Hp), H t = none → Same H H' → H' t = some (.tup (nats (digN p (s + 1) n))) → Q (.ref t) H'
theorem scDigitsOf : FnScope ["p", "number", "digits", "left"] ["p", "number"] (defScope sDigitsOf) := ⟨rfl, rfl, rfl, by decide +kernel, rfl, by decide +kernel, by decide +kernel⟩
theorem ok_digits {f : Addr} {fd : FuncData} (F : Fun K "digits_of" "digits_of" sDigitsOf f fd) (T : TxtB mg) : FnOk P w K mg base CX0 1 f fd ["p", "number"] spDigits := by
  refine F.okQ scDigitsOf (fun vs H Q E h => ?_) (fun cdv A outer s H vs Q E hr h => ?_)
  · obtain ⟨p, n, s, rfl, _⟩ := h
    rfl
  · obtain ⟨p, n, k, rfl, hp2, hp31, hk4, hn1, hn2, q⟩ := h
    refine ⟨_, (qss_cons (qs_set (i := 2) scDigitsOf.nd rfl (Or.inl rfl) (qe_lst qa_nil))
      (qss_cons (qs_set (i := 3) scDigitsOf.nd rfl (Or.inl rfl) (qv 1))
      (qss_cons (qs_while PassesOwn.never (qt_cmpR op_gt (qv 3) qe_int (nomark _))
        (qss_cons (qs_expr (qe_bm PySem.F.plainAttrs_list PySem.F.slot_list_append PySem.F.type_list_append mt_append (qv 2) (qac (qe_op op_mod (qv 3) (qv 0)) qa_nil)))
        (qss_one (qs_set (i := 3) scDigitsOf.nd rfl (Or.inl rfl) (qe_op op_fdiv (qv 3) (qv 0))))))
      (qss_one (qs_ret (qe_callTy call_tuple_of (by rfl) T.tup (by decide +kernel) (qac (qv 2) qa_nil))))))), ?_⟩
    refine ⟨by show 0 ≤ sizeLine; decide, fun l hl => ⟨_, rfl, ?_⟩⟩
    refine while_w (fun σ H2 => Same H H2 ∧ ∃ j : Nat, j ≤ k + 1 ∧ σ = [some (.int ((p : Nat) : Int)), some (.int ((n : Nat) : Int)), some (.ref l), some (.int ((n / p ^ j : Nat) : Int))] ∧ H2 l = some (.lst (nats (digN p j n))))
      (fun σ _ => match σ with | [_, _, _, some (.int m)] => m.toNat | _ => 0) ⟨same_new hl, 0, by omega, by rw [Nat.pow_zero, Nat.div_one]; rfl, upd_same⟩ ?_
    rintro mm σ H2 ⟨s2, j, hj, rfl, hl2⟩ hmm
    refine ⟨_, rfl, _, _, rfl, rfl, _, rfl, ?_⟩
    refine ite2 (fun h1 => WTurn.of ?_) (fun h1 => ?_)
    · have h1' : 0 < n / p ^ j := by
        have : (0 : Int) < ((n / p ^ j : Nat) : Int) := of_decide_eq_true h1
        omega
      have hjk : j ≤ k := by
        rcases Nat.lt_or_ge k j with z | z
        · exfalso
          have e : j = k + 1 := by omega
          subst e
          have : n / p ^ (k + 1) = 0 := by
            apply Nat.div_eq_of_lt
            rw [Nat.pow_succ]
            exact Nat.lt_of_lt_of_le hn2 (by rw [Nat.mul_comm]; exact Nat.mul_le_mul_left _ hp2)
          omega
        · exact z
      have e1 : ((n / p ^ j : Nat) : Int) % ((p : Nat) : Int) = ((n / p ^ j % p : Nat) : Int) := by simp
      have e2 : ((n / p ^ j : Nat) : Int) / ((p : Nat) : Int) = ((n / p ^ (j + 1) : Nat) : Int) := by
        rw [Nat.pow_succ, ← Nat.div_div_eq_div_mul]
        simp
      refine ⟨_, rfl, .inl ⟨rfl, _, SqL.of hl2⟩, _, rfl, _, rfl, _, _, rfl, rfl, by omega, l, _, .int ((n / p ^ j % p : Nat) : Int), rfl, ?_, hl2, by rw [nats_len, digN_len]; exact Nat.lt_of_le_of_lt (show j ≤ 5 by omega) (by decide), ?_⟩
      · show [V.int (((n / p ^ j : Nat) : Int) % ((p : Nat) : Int))] = _
        rw [e1]
      refine ⟨_, rfl, _, rfl, _, _, rfl, rfl, ⟨by omega, by omega⟩, ?_⟩
      show (Same H _ ∧ ∃ j' : Nat, j' ≤ k + 1 ∧ [some (V.int ((p : Nat) : Int)), some (V.int ((n : Nat) : Int)), some (V.ref l), some (V.int (((n / p ^ j : Nat) : Int) / ((p : Nat) : Int)))] = _ ∧ _) ∧ (((n / p ^ j : Nat) : Int) / ((p : Nat) : Int)).toNat < mm
      rw [e2]
      refine ⟨⟨same_upd s2 hl, j + 1, by omega, rfl, ?_⟩, ?_⟩
      · rw [upd_same, digN_snoc, nats_snoc]
      · rw [hmm]
        show ((n / p ^ (j + 1) : Nat) : Int).toNat < ((n / p ^ j : Nat) : Int).toNat
        rw [Int.toNat_natCast, Int.toNat_natCast, Nat.pow_succ, ← Nat.div_div_eq_div_mul]
        exact Nat.div_lt_self h1' (by omega)
    · have h1' : n / p ^ j = 0 := by
        have : ¬ (0 : Int) < ((n / p ^ j : Nat) : Int) := fun z => h1 (decide_eq_true z)
        generalize n / p ^ j = z at this ⊢
        omega
      have hjk : j = k + 1 := by
        rcases Nat.lt_or_ge k j with z | z
        · omega
        · exfalso
          have : 0 < n / p ^ j := Nat.div_pos (Nat.le_trans (Nat.pow_le_pow_right (by omega) z) hn1) (Nat.pow_pos (by omega))
          rw [h1'] at this
          exact Nat.lt_irrefl 0 this
      subst hjk
      exact ⟨_, rfl, l, _, rfl, .inl ⟨SqL.of hl2, fun t ht => q t _ (s2.free ht) (s2.trans (same_new ht)) upd_same⟩⟩
theorem fac_len (p s x : Nat) : (fac p s x).length = s + 1 := by
  unfold fac
  rw [List.length_append, digN_len]
  rfl
theorem half_int (n : Nat) : (((n : Nat) : Int) - 1) / 2 = (((n - 1) / 2 : Nat) : Int) ∨ ((((n : Nat) : Int) - 1) / 2).toNat = (n - 1) / 2 := by
  by_cases h : n = 0
  · subst h
    exact .inr (by decide)
  · exact .inl (by omega)
theorem scRowFactor : FnScope ["p", "row", "power", "higher", "number", "factor"] ["p", "row"] (defScope sRowFactor) := ⟨rfl, rfl, rfl, by decide +kernel, rfl, by decide +kernel, by decide +kernel⟩
theorem ok_factor {f : Addr} {fd : FuncData} (F : Fun K "row_factor" "row_factor" sRowFactor f fd) (T : TxtB mg) (pDigitsOf : Pm P w K mg base CX0 1 "digits_of" ["p", "number"] spDigits) (pRowRest : Pm P w K mg base CX0 2 "row_rest" ["p", "one", "by"] spRest) : FnOk P w K mg base CX0 3 f fd ["p", "row"] spDv := by
  refine F.okQ scRowFactor (fun vs H Q E h => ?_) (fun cdv A outer s H vs Q E hr2 h => ?_)
  · obtain ⟨a, p, row, rfl, _⟩ := h
    rfl
  · obtain ⟨a, p, row, rfl, ha, hp2, hp31, hr9, hrow, q⟩ := h
    have hr1 := hr2.mono (show 1 ≤ 2 by decide)
    refine ⟨_, (qss_cons (qs_set (i := 2) scRowFactor.nd rfl (Or.inl rfl) qe_int)
      (qss_cons (qs_for PassesOwn.never rfl (qi_range1 rfl T.range (qac (qe_op op_fdiv (qe_op op_sub (qe_callB call_len_seq (by rfl) T.len PySem.boot_len (qac (qv 1) qa_nil)) qe_int) qe_int) qa_nil)) (qg_name (i := 3) scRowFactor.nd rfl (Or.inl rfl))
        (qss_cons (qs_set (i := 2) scRowFactor.nd rfl (Or.inl rfl) (qe_op op_mul (qv 2) (qv 0)))
        (qss_one (qs_for PassesOwn.never rfl (qi_range2 rfl T.range (qac (qv 2) (qac (qe_op op_mul qe_int (qv 2)) qa_nil))) (qg_name (i := 4) scRowFactor.nd rfl (Or.inl rfl))
          (qss_cons (qs_set (i := 5) scRowFactor.nd rfl (Or.inl rfl) (qe_callP pDigitsOf hr1 rfl pass0 (qac (qv 0) (qac (qv 4) qa_nil))))
          (qss_one (qs_if (qt_cmpR (op_eqD hr2.units) (qe_callP pRowRest hr2 rfl pass0 (qac (qv 0) (qac (qv 1) (qac (qv 5) qa_nil)))) (qe_tup qa_nil) (nomark _)) (qss_one (qs_ret (qv 5))) qss_nil)))))))
      (qss_one (qs_ret qe_non)))), ?_⟩
    have hM : ((((row.length : Nat) : Int) - 1) / 2).toNat = (row.length - 1) / 2 := by
      rcases half_int row.length with z | z
      · rw [z, Int.toNat_natCast]
      · exact z
    refine ⟨_, rfl, a, _, rfl, .inr (SqT.of ha), _, _, rfl, rfl, _, _, rfl, rfl, ⟨by decide, by decide⟩, (((row.length : Nat) : Int) - 1) / 2, by rw [nats_len], by omega, by omega, ?_⟩
    rw [hM]
    refine for_range (lo := 0) (n := (row.length - 1) / 2) (fun i σ H2 => Same H H2 ∧ (∃ x3 x4 x5, σ = [some (.int ((p : Nat) : Int)), some (.ref a), some (.int ((p ^ i : Nat) : Int)), x3, x4, x5]) ∧ ∀ s x, 1 ≤ s → s ≤ i → x < p ^ s → trimL (restF p (fac p s x) row) ≠ []) ⟨Same.refl _, ⟨none, none, none, rfl⟩, fun s x z1 z2 => by omega⟩ ?_ ?_
    · rintro i σ H2 hi ⟨s2, ⟨x3, x4, x5, rfl⟩, hno⟩
      have hi4 : i + 1 ≤ 4 := by omega
      have hpw := pow_le hp31 (show i ≤ 4 by omega)
      have hpw1 := pow_le hp31 hi4
      have hps : ((p ^ i : Nat) : Int) * ((p : Nat) : Int) = ((p ^ (i + 1) : Nat) : Int) := by
        rw [Nat.pow_succ]
        simp
      refine ⟨_, rfl, _, rfl, _, _, rfl, rfl, .inl ⟨by omega, by omega⟩, ?_⟩
      dsimp only
      rw [hps]
      refine ⟨_, rfl, _, rfl, _, _, rfl, rfl, .inl ⟨by decide, by decide⟩, ((p ^ (i + 1) : Nat) : Int), 2 * ((p ^ (i + 1) : Nat) : Int), rfl, ⟨by omega, by omega, by omega, by omega⟩, ?_⟩
      rw [show (2 * ((p ^ (i + 1) : Nat) : Int) - ((p ^ (i + 1) : Nat) : Int)).toNat = p ^ (i + 1) by omega]
      refine for_range (lo := ((p ^ (i + 1) : Nat) : Int)) (n := p ^ (i + 1)) (fun x σ H3 => Same H H3 ∧ (∃ x3 x4 x5, σ = [some (.int ((p : Nat) : Int)), some (.ref a), some (.int ((p ^ (i + 1) : Nat) : Int)), x3, x4, x5]) ∧ ∀ y, y < x → trimL (restF p (fac p (i + 1) y) row) ≠ []) ⟨s2, ⟨_, _, _, rfl⟩, fun y z => by omega⟩ ?_ ?_
      · rintro x σ H3 hx ⟨s3, ⟨x3, x4, x5, rfl⟩, hno2⟩
        rw [show ((p ^ (i + 1) : Nat) : Int) + ((x : Nat) : Int) = ((p ^ (i + 1) + x : Nat) : Int) by omega]
        refine ⟨_, rfl, _, rfl, p, p ^ (i + 1) + x, i + 1, rfl, hp2, hp31, hi4, by omega, by omega, fun t H4 ht s4 ht4 => ?_⟩
        rw [show digN p (i + 1 + 1) (p ^ (i + 1) + x) = fac p (i + 1) x from digN_top hp2 (i + 1) x hx] at ht4
        refine ⟨_, rfl, _, rfl, _, rfl, a, t, p, row, fac p (i + 1) x, rfl, (s3.trans s4) _ _ ha, ht4, by omega, hp31, by omega, by rw [fac_len]; omega, by rw [fac_len]; omega, hrow, fun u H5 hu s5 hu5 => ?_⟩
        refine ⟨by show 0 ≤ sizeLine; decide, fun e he => ?_⟩
        have w6 := same_new (o := .tup []) he
        refine ⟨dTup (trimL (restF p (fac p (i + 1) x) row)), dTup [], isD_tupQ (w6 _ _ hu5), isD_tupQ upd_same, shaped_tupQ _, shaped_tupQ _, _, rfl, ?_⟩
        show if PyData.eqv (dTup (trimL (restF p (fac p (i + 1) x) row))) (dTup []) = true then _ else _
        rw [eqv_tupQ]
        have s35 := s3.trans (s4.trans (s5.trans w6))
        refine ite2 (fun h1 => ?_) (fun h1 => ?_)
        · exact ⟨_, rfl, q _ (some (fac p (i + 1) x)) _ s35 ⟨i + 1, x, by omega, by omega, hx, rfl, of_decide_eq_true h1⟩ ⟨t, rfl, (s5.trans w6) _ _ ht4⟩⟩
        · refine ⟨s35, ⟨_, _, _, rfl⟩, fun y hy => ?_⟩
          by_cases e2 : y = x
          · subst e2
            exact fun z => h1 (decide_eq_true z)
          · exact hno2 y (by omega)
      · rintro σ H3 ⟨s3, ⟨x3, x4, x5, rfl⟩, hno2⟩
        refine ⟨s3, ⟨_, _, _, rfl⟩, fun s x z1 z2 z3 => ?_⟩
        by_cases e2 : s = i + 1
        · subst e2
          exact hno2 x z3
        · exact hno s x z1 (by omega) z3
    · rintro σ H2 ⟨s2, ⟨x3, x4, x5, rfl⟩, hno⟩
      exact q _ none _ s2 hno rfl
theorem Dv.sides {p : Nat} {row : List Nat} {b : List Nat} (h : Dv p row (some b)) : ¬ Dv p row none := by
  obtain ⟨s, x, h1, h2, h3, rfl, h4⟩ := h
  exact fun z => z s x h1 h2 h3 h4
def spMustN : Sp := fun vs H Q _ => ∃ i : Int, vs = [.int i] ∧ Q .non H
def spFromN : Sp := fun vs H Q _ => ∃ m i : Int, vs = [.int m, .int i] ∧ m ≤ i ∧ Q .non H
def spPrimesN : Sp := fun vs H Q _ => ∃ n : Nat, vs = [.int (n : Nat)] ∧ 1 ≤ n ∧ n < 2 ^ 60 ∧ ∀ l ws L H', H l = none → Same H H' → H' l = some (.lst ws) → TupsAt H' ws L → EM.Fac n L → Q (.ref l) H'
theorem scMust : FnScope ["thing"] ["thing"] (defScope sMust) := ⟨rfl, rfl, rfl, by decide +kernel, rfl, by decide +kernel, by decide +kernel⟩
theorem ok_mustN {f : Addr} {fd : FuncData} (F : Fun K "must_be_whole" "must_be_whole" sMust f fd) (pWhole : Pm P w K mg base CX0 1 "is_whole" ["thing"] (spWhole K)) : FnOk P w K mg base CX0 2 f fd ["thing"] spMustN := by
  refine F.okQ scMust (fun vs H Q E h => ?_) (fun cdv A outer s H vs Q E hr h => ?_)
  · obtain ⟨i, rfl, _⟩ := h
    rfl
  · obtain ⟨i, rfl, q⟩ := h
    refine ⟨_, (qss_one (qs_if (qt_not (qt_val (qe_callP pWhole hr rfl pass0 (qac (qv 0) qa_nil)))) qss_never qss_nil)), ?_⟩
    exact ⟨_, rfl, .int i, true, rfl, .int i, true, rfl, iteF q⟩
theorem scFrom : FnScope ["least", "thing"] ["least", "thing"] (defScope sFrom) := ⟨rfl, rfl, rfl, by decide +kernel, rfl, by decide +kernel, by decide +kernel⟩
theorem ok_fromN {f : Addr} {fd : FuncData} (F : Fun K "must_be_from" "must_be_from" sFrom f fd) (pMust : Pm P w K mg base CX0 2 "must_be_whole" ["thing"] spMustN) : FnOk P w K mg base CX0 3 f fd ["least", "thing"] spFromN := by
  refine F.okQ scFrom (fun vs H Q E h => ?_) (fun cdv A outer s H vs Q E hr h => ?_)
  · obtain ⟨m, i, rfl, _⟩ := h
    rfl
  · obtain ⟨m, i, rfl, hi, q⟩ := h
    refine ⟨_, qss_cons (qs_expr (qe_callP pMust hr rfl pass0 (qac (qv 1) qa_nil))) (qss_one (qs_if (qt_cmpR op_lt (qv 1) (qv 0) (nomark _)) qss_never qss_nil)), ?_⟩
    refine ⟨_, rfl, i, rfl, _, rfl, _, rfl, _, _, rfl, rfl, _, rfl, ?_⟩
    rw [decide_eq_false (by omega)]
    exact iteF q
theorem scPrimes : FnScope ["n", "found", "left", "p", "often"] ["n"] (defScope sPrimes) := ⟨rfl, rfl, rfl, by decide +kernel, rfl, by decide +kernel, by decide +kernel⟩
theorem ok_primes {f fF : Addr} {fd fdF : FuncData} (F : Fun K "primes_of" "primes_of" sPrimes f fd) (FF : Fun K "must_be_from" "must_be_from" sFrom fF fdF) (bF : Binds K fdF ["least", "thing"] []) (mF : mg "must_be_from" = some (.ref fF))
    (GF : FnOk P w K mg base CX0 3 fF fdF ["least", "thing"] spFromN) : FnOk P w K mg base CX0 4 f fd ["n"] spPrimesN := by
  refine F.okQ scPrimes (fun vs H Q E h => ?_) (fun cdv A outer s H vs Q E hr h => ?_)
  · obtain ⟨n, rfl, _⟩ := h; rfl
  · refine ⟨_, qss_cons (qs_expr (qe_call GF hr rfl mF FF.kp bF .nil pass0 (qac qe_int (qac (qv 0) qa_nil))))
      ((qss_cons (qs_set (i := 1) scPrimes.nd rfl (Or.inl rfl) (qe_lst qa_nil))
      (qss_cons (qs_set (i := 2) scPrimes.nd rfl (Or.inl rfl) (qv 0))
      (qss_cons (qs_set (i := 3) scPrimes.nd rfl (Or.inl rfl) qe_int)
      (qss_cons (qs_while PassesOwn.never (qt_cmpR op_le (qe_op op_mul (qv 3) (qv 3)) (qv 2) (nomark _))
        (qss_cons (qs_set (i := 4) scPrimes.nd rfl (Or.inl rfl) qe_int)
        (qss_cons (qs_while PassesOwn.never (qt_cmpR op_eq (qe_op op_mod (qv 2) (qv 3)) qe_int (nomark _))
          (qss_cons (qs_set (i := 2) scPrimes.nd rfl (Or.inl rfl) (qe_op op_fdiv (qv 2) (qv 3)))
          (qss_one (qs_aug (i := 4) scPrimes.nd rfl (Or.inl rfl) qe_int ip_add))))
        (qss_cons (qs_if (qt_cmpR op_gt (qv 4) qe_int (nomark _)) (qss_one (qs_expr (qe_bm PySem.F.plainAttrs_list PySem.F.slot_list_append PySem.F.type_list_append mt_append (qv 1) (qac (qe_tup (qac (qv 3) (qac (qv 4) qa_nil))) qa_nil)))) qss_nil)
        (qss_one (qs_aug (i := 3) scPrimes.nd rfl (Or.inl rfl) qe_int ip_add))))))
      (qss_cons (qs_if (qt_cmpR op_gt (qv 2) qe_int (nomark _)) (qss_one (qs_expr (qe_bm PySem.F.plainAttrs_list PySem.F.slot_list_append PySem.F.type_list_append mt_append (qv 1) (qac (qe_tup (qac (qv 2) (qac qe_int qa_nil))) qa_nil)))) qss_nil)
      (qss_one (qs_ret (qv 1))))))))), ?_⟩
    obtain ⟨n, rfl, h1, hn, k⟩ := h
    · refine ⟨_, rfl, 1, _, rfl, by omega, ?_⟩
      refine ⟨by show 0 ≤ sizeLine; decide, fun l hl => ?_⟩
      refine ⟨_, rfl, ?_⟩
      refine while_w (fun σ H2 => ∃ (p left : Nat) (ws : List V) (L : List (Nat × Nat)) (x : Option V), σ = [some (.int (n : Nat)), some (.ref l), some (.int (left : Nat)), some (.int (p : Nat)), x] ∧
          EM.FacTo n p left L ∧ Same H H2 ∧ H2 l = some (.lst ws) ∧ TupsAt H2 ws L ∧ p ≤ 2 ^ 31)
        (fun σ _ => match σ with | [_, _, some (.int left), some (.int p), _] => (left - p).toNat | _ => 0)
        ⟨2, n, [], [], none, rfl, EM.FacTo.start h1, same_new hl, upd_same, trivial, by decide⟩ ?_
      rintro m σ H2 ⟨p, left, ws, L, x, rfl, F2, s2, hl2, t2, hp31⟩ hm
      refine ⟨_, rfl, _, rfl, _, _, rfl, rfl, .inl ⟨by omega, by omega⟩, _, rfl, _, _, rfl, rfl, _, rfl, ?_⟩
      refine ite2 (fun hc => WTurn.of ?_) (fun hc => ?_)
      · have hc' : p * p ≤ left := by
          have := of_decide_eq_true hc
          exact Int.ofNat_le.mp (by rw [Int.natCast_mul]; exact this)
        have hp30 := EM.root_lt hc' (Nat.lt_of_le_of_lt F2.le hn)
        have h2p := EM.two_le_self F2.two hc'
        have htwo := F2.two
        -- the inner loop
        refine while_w (fun σ H3 => H3 = H2 ∧ ∃ (lf of : Nat), σ = [some (.int (n : Nat)), some (.ref l), some (.int (lf : Nat)), some (.int (p : Nat)), some (.int (of : Nat))] ∧ left = lf * p ^ of)
          (fun σ _ => match σ with | [_, _, some (.int lf), _, _] => lf.toNat | _ => 0)
          ⟨rfl, left, 0, rfl, by rw [Nat.pow_zero, Nat.mul_one]⟩ ?_
        rintro m' σ H3 ⟨rfl, lf, of, rfl, hlf⟩ hm'
        have hlf0 : 1 ≤ lf := by
          rcases Nat.eq_zero_or_pos lf with z | z
          · have := F2.pos
            rw [hlf, z, Nat.zero_mul] at this
            omega
          · exact z
        refine ⟨_, rfl, _, rfl, _, _, rfl, rfl, by omega, rfl, _, rfl, ?_⟩
        refine ite2 (fun hd => WTurn.of ?_) (fun hd => ?_)
        · have hd' : lf % p = 0 := by
            have := V.int.inj (of_decide_eq_true hd)
            omega
          have hdv : p ∣ lf := Nat.dvd_of_mod_eq_zero hd'
          refine ⟨_, rfl, _, rfl, _, _, rfl, rfl, ⟨by omega, by omega⟩, _, rfl, _, _, rfl, rfl, ⟨rfl, lf / p, of + 1, ?_, ?_⟩, ?_⟩
          · rfl
          · rw [Nat.pow_succ, Nat.mul_comm (p ^ of) p, ← Nat.mul_assoc, Nat.div_mul_cancel hdv]
            exact hlf
          · rw [hm']
            show ((lf : Int) / (p : Int)).toNat < (lf : Int).toNat
            have e : (lf : Int) / (p : Int) = ((lf / p : Nat) : Int) := rfl
            rw [e]
            have := Nat.div_lt_self hlf0 (show 1 < p by omega)
            omega
        · have hnd : ¬ p ∣ lf := fun z => hd (by
            have := Nat.mod_eq_zero_of_dvd z
            refine decide_eq_true (congrArg V.int ?_)
            omega)
          refine ⟨_, rfl, _, _, rfl, rfl, _, rfl, ?_⟩
          refine ite2 (fun ho => ?_) (fun ho => ?_)
          · have ho' : 1 ≤ of := by
              have := of_decide_eq_true ho
              omega
            have F3 := F2.some hlf ho' hnd
            refine ⟨_, rfl, .inl ⟨rfl, _, SqL.of hl2⟩, _, rfl, _, rfl, by show 2 ≤ sizeLine; decide, fun t ht => ?_⟩
            have nlt : l ≠ t := ne_of_none hl2 ht
            refine ⟨l, ws, _, rfl, rfl, by rw [upd_ne nlt]; exact hl2, ?_, ?_⟩
            · rw [t2.len]
              exact Nat.lt_trans (F2.short hn) (by decide)
            refine ⟨_, rfl, _, _, rfl, rfl, ⟨p + 1, lf, ws ++ [.ref t], L ++ [(p, of)], some (.int (of : Nat)), ?_, F3, ?_, upd_same, ?_, by omega⟩, ?_⟩
            · rfl
            · exact same_upd (s2.trans (same_new ht)) hl
            · refine TupsAt.upd (ys := ws) (by rw [upd_ne nlt]; exact hl2) (TupsAt.snoc (x := (p, of)) upd_same (t2.same (same_new ht)))
            · rw [hm]
              show ((lf : Int) - ((p : Int) + 1)).toNat < ((left : Int) - (p : Int)).toNat
              have : lf ≤ left := hlf ▸ Nat.le_mul_of_pos_right _ (Nat.pow_pos (by omega))
              omega
          · have ho' : of = 0 := by
              have : ¬ (0 < (of : Int)) := fun z => ho (decide_eq_true z)
              omega
            subst ho'
            rw [Nat.pow_zero, Nat.mul_one] at hlf
            subst hlf
            refine ⟨_, rfl, _, _, rfl, rfl, ⟨p + 1, left, ws, L, _, rfl, F2.none hnd, s2, hl2, t2, by omega⟩, ?_⟩
            rw [hm]
            show ((left : Int) - ((p : Int) + 1)).toNat < ((left : Int) - (p : Int)).toNat
            omega
      · have hc' : left < p * p := by
          have h3 : ¬ ((p : Int) * (p : Int) ≤ (left : Int)) := fun z => hc (decide_eq_true z)
          refine Nat.lt_of_not_le fun z => h3 ?_
          rw [← Int.natCast_mul]
          exact Int.ofNat_le.mpr z
        refine ⟨_, rfl, _, _, rfl, rfl, _, rfl, ?_⟩
        refine ite2 (fun ho => ?_) (fun ho => ?_)
        · have ho' : 1 < left := by
            have := of_decide_eq_true ho
            omega
          have F3 := F2.last hc' ho'
          refine ⟨_, rfl, .inl ⟨rfl, _, SqL.of hl2⟩, _, rfl, by show 2 ≤ sizeLine; decide, fun t ht => ?_⟩
          have nlt : l ≠ t := ne_of_none hl2 ht
          refine ⟨l, ws, _, rfl, rfl, by rw [upd_ne nlt]; exact hl2, ?_, ?_⟩
          · rw [t2.len]
            exact Nat.lt_trans (F2.short hn) (by decide)
          refine ⟨_, rfl, k l (ws ++ [.ref t]) (L ++ [(left, 1)]) _ hl (same_upd (s2.trans (same_new ht)) hl) upd_same ?_ F3⟩
          exact TupsAt.upd (ys := ws) (by rw [upd_ne nlt]; exact hl2) (TupsAt.snoc (x := (left, 1)) upd_same (t2.same (same_new ht)))
        · have ho' : ¬ 1 < left := fun z => ho (decide_eq_true (by omega))
          exact ⟨_, rfl, k l ws L H2 hl s2 hl2 t2 (F2.done ho')⟩
theorem scIsPrime : FnScope ["p"] ["p"] (defScope sIsPrime) := ⟨rfl, rfl, rfl, by decide +kernel, rfl, by decide +kernel, by decide +kernel⟩
theorem ok_isprime {f : Addr} {fd : FuncData} (F : Fun K "is_prime" "is_prime" sIsPrime f fd) (pPrimes : Pm P w K mg base CX0 4 "primes_of" ["n"] spPrimesN) : FnOk P w K mg base CX0 5 f fd ["p"] spIsPrime := by
  refine F.okQ scIsPrime (fun vs H Q E h => ?_) (fun cdv A outer s H vs Q E hr h => ?_)
  · obtain ⟨i, rfl, _⟩ := h
    rfl
  · obtain ⟨i, rfl, hi, k⟩ := h
    refine ⟨_, (qss_one (qs_ret (qe_and (qe_cmpR op_gt (qv 0) qe_int (nomark _)) (qe_one (qe_cmpR (op_eqD hr.units) (qe_callP pPrimes hr rfl pass0 (qac (qv 0) qa_nil)) (qe_lst (qac (qe_tup (qac (qv 0) (qac qe_int qa_nil))) qa_nil)) (nomark _)))))), ?_⟩
    refine ⟨_, rfl, _, _, rfl, rfl, _, rfl, ?_⟩
    by_cases h1 : (1 : Int) < i
    · refine ifT h1 ?_
      obtain ⟨n, rfl⟩ : ∃ n : Nat, i = n := ⟨i.toNat, by omega⟩
      refine ⟨_, rfl, n, rfl, by omega, by omega, fun l ws L H1 hl s1 hl1 t1 F1 => ?_⟩
      refine ⟨_, rfl, by show 2 ≤ sizeLine; decide, fun t ht => ⟨by show 1 ≤ sizeLine; decide, fun m hm => ?_⟩⟩
      have s2 := same_new (o := .tup [.int (n : Nat), .int 1]) ht
      have s3 := same_new (o := .lst [.ref t]) hm
      have s4 := s2.trans s3
      refine ⟨.list (L.map ptup), .list ([(n, 1)].map ptup), ?_, ?_, shaped_ptups _, shaped_ptups _, ?_⟩
      · simp only [IsD]
        exact ⟨l, ws, rfl, SqL.of (s4 _ _ hl1), tups_isD (t1.same s4)⟩
      · simp only [IsD]
        exact ⟨m, [.ref t], rfl, SqL.of upd_same, tups_isD (ws := [.ref t]) (L := [(n, 1)]) ⟨⟨t, rfl, s3 _ _ upd_same⟩, trivial⟩⟩
      · refine k _ _ (s1.trans s4) ?_
        show PyData.eqv _ _ = true ↔ _
        simp only [PyData.eqv, eqv_ptups, decide_eq_true_eq]
        constructor
        · rintro rfl
          exact ⟨n, rfl, F1.pr_of⟩
        · rintro ⟨p, e, hp⟩
          have : p = n := by omega
          subst this
          exact F1.of_pr hp
    · refine ifF h1 ?_
      refine k false H (Same.refl H) ⟨fun z => (nomatch z), fun ⟨p, e, hp⟩ => ?_⟩
      have := hp.1
      omega
/-! numbers by digits -/
def numL (p : Nat) : List Nat → Nat
  | [] => 0
  | d :: l => numL p l * p + d
theorem numL_lt {p : Nat} (hp : 1 ≤ p) : ∀ {l : List Nat}, (∀ x ∈ l, x < p) → numL p l < p ^ l.length
  | [], _ => by simp [numL]
  | d :: l, h => by
    have h1 := numL_lt hp (l := l) fun x hx => h x (List.mem_cons_of_mem _ hx)
    have h2 := h d (List.mem_cons_self ..)
    rw [numL, List.length_cons, Nat.pow_succ]
    have h3 : (numL p l + 1) * p ≤ p ^ l.length * p := Nat.mul_le_mul_right _ h1
    rw [Nat.add_mul] at h3
    omega
def sumP (p : Nat) (c : Nat → Nat) : Nat → Nat
  | 0 => 0
  | i + 1 => sumP p c i + c i * p ^ i
theorem numL_snoc (p x : Nat) : ∀ l : List Nat, numL p (l ++ [x]) = numL p l + x * p ^ l.length
  | [] => by simp [numL]
  | d :: l => by
    rw [List.cons_append, numL, numL_snoc p x l, numL, List.length_cons, Nat.pow_succ, Nat.add_mul, Nat.mul_assoc]
    omega
theorem numL_map (p : Nat) (c : Nat → Nat) : ∀ d, numL p ((List.range d).map c) = sumP p c d
  | 0 => rfl
  | d + 1 => by
    rw [List.range_succ, List.map_append, List.map_cons, List.map_nil, numL_snoc, numL_map p c d, List.length_map, List.length_range]
    rfl
theorem sumP_lt {p : Nat} {c : Nat → Nat} {d : Nat} (hp : 1 ≤ p) (h : ∀ i, c i < p) : sumP p c d < p ^ d := by
  rw [← numL_map]
  have := numL_lt hp (l := (List.range d).map c) (fun x hx => by
    obtain ⟨i, _, rfl⟩ := List.mem_map.mp hx
    exact h i)
  rwa [List.length_map, List.length_range] at this
theorem sumP_tail {p : Nat} {c : Nat → Nat} {i : Nat} (h : ∀ j, i ≤ j → c j = 0) : ∀ k, sumP p c (i + k) = sumP p c i
  | 0 => rfl
  | k + 1 => by
    rw [← Nat.add_assoc, sumP, sumP_tail h k, h (i + k) (by omega), Nat.zero_mul, Nat.add_zero]
theorem sumP_congr {p : Nat} {c e : Nat → Nat} : ∀ {d : Nat}, (∀ i, i < d → c i = e i) → sumP p c d = sumP p e d
  | 0, _ => rfl
  | d + 1, h => by rw [sumP, sumP, sumP_congr fun i hi => h i (by omega), h d (by omega)]
theorem drop_cons {l : List Nat} {i : Nat} (h : i < l.length) : l.drop i = l[i] :: l.drop (i + 1) := (List.getElem_cons_drop h).symm
def spNum : Sp := fun vs H Q _ => ∃ (a : Addr) (p : Nat) (l : List Nat), vs = [.int ((p : Nat) : Int), .ref a] ∧ H a = some (.tup (nats l)) ∧ 1 ≤ p ∧ p ≤ 31 ∧ l.length ≤ 6 ∧ (∀ x ∈ l, x < p) ∧ Q (.int ((numL p l : Nat) : Int)) H
theorem numL_drop_le {p : Nat} {l : List Nat} (hp : 1 ≤ p) (hp31 : p ≤ 31) (h6 : l.length ≤ 6) (hx : ∀ x ∈ l, x < p) (k : Nat) : numL p (l.drop k) ≤ 887503681 := by
  have h1 := numL_lt hp (l := l.drop k) fun x h => hx x (List.mem_of_mem_drop h)
  have h2 := pow_le6 (s := (l.drop k).length) hp31 (by rw [List.length_drop]; omega)
  omega
theorem scNumberOf : FnScope ["p", "digits", "number", "digit"] ["p", "digits"] (defScope sNumberOf) := ⟨rfl, rfl, rfl, by decide +kernel, rfl, by decide +kernel, by decide +kernel⟩
theorem ok_num {f : Addr} {fd : FuncData} (F : Fun K "number_of" "number_of" sNumberOf f fd) (hR : mg "reversed" = none) : FnOk P w K mg base CX0 1 f fd ["p", "digits"] spNum := by
  refine F.okQ scNumberOf (fun vs H Q E h => ?_) (fun cdv A outer s H vs Q E hr h => ?_)
  · obtain ⟨a, p, l, rfl, _⟩ := h
    rfl
  · obtain ⟨a, p, l, rfl, ha, hp1, hp31, h6, hx, q⟩ := h
    refine ⟨_, (qss_cons (qs_set (i := 2) scNumberOf.nd rfl (Or.inl rfl) qe_int)
      (qss_cons (qs_for PassesOwn.never rfl (qi_revT rfl hR (qac (qv 1) qa_nil)) (qg_name (i := 3) scNumberOf.nd rfl (Or.inl rfl))
        (qss_one (qs_set (i := 2) scNumberOf.nd rfl (Or.inl rfl) (qe_op op_add (qe_op op_mul (qv 2) (qv 0)) (qv 3)))))
      (qss_one (qs_ret (qv 2))))), ?_⟩
    refine ⟨_, rfl, a, nats l, rfl, SqT.of ha, for_rev (K := K) (xs := nats l) (fun i σ H2 => H2 = H ∧ ∃ x3, σ = [some (.int ((p : Nat) : Int)), some (.ref a), some (.int ((numL p (l.drop (l.length - i)) : Nat) : Int)), x3]) ⟨rfl, none, by rw [Nat.sub_zero, List.drop_length]; rfl⟩ (fun i σ H2 _ ⟨e, _⟩ => SqT.of (e ▸ ha)) ?_ ?_⟩
    · rintro i v σ H2 hi ⟨rfl, x3, rfl⟩
      have hil : i < l.length := by
        have := (List.getElem?_eq_some_iff.mp hi).1
        rwa [List.length_reverse, nats_len] at this
      rw [List.getElem?_reverse (by rw [nats_len]; exact hil), nats_len] at hi
      obtain ⟨x, hx', rfl⟩ := L2.nats_get hi
      have hb := numL_drop_le hp1 hp31 h6 hx (l.length - i)
      have hxp := hx x (List.mem_of_getElem? hx')
      have e1 : l.drop (l.length - (i + 1)) = x :: l.drop (l.length - i) := by
        have z := drop_cons (l := l) (i := l.length - 1 - i) (by omega)
        rw [show l.length - 1 - i + 1 = l.length - i by omega] at z
        rw [show l.length - (i + 1) = l.length - 1 - i by omega, z]
        have := (List.getElem?_eq_some_iff.mp hx').2
        rw [this]
      refine ⟨_, rfl, _, rfl, _, _, rfl, rfl, .inl ⟨by omega, by omega⟩, _, rfl, _, _, rfl, rfl, rfl, some (.int ((x : Nat) : Int)), ?_⟩
      rw [e1, numL]
      simp
    · rintro σ H2 ⟨rfl, x3, rfl⟩
      refine ⟨_, rfl, ?_⟩
      rw [nats_len, Nat.sub_self, List.drop_zero]
      exact q
theorem digN_get (p : Nat) : ∀ (n x i : Nat), (digN p n x).getD i 0 = if i < n then x / p ^ i % p else 0
  | 0, x, i => by simp [digN]
  | n + 1, x, 0 => by simp [digN]
  | n + 1, x, i + 1 => by
    rw [digN, List.getD_cons_succ, digN_get p n, Nat.div_div_eq_div_mul, Nat.pow_succ, Nat.mul_comm p]
    by_cases h : i < n
    · rw [if_pos h, if_pos (by omega)]
    · rw [if_neg h, if_neg (by omega)]
theorem tight_eq {l m : List Nat} (hl : Tight l) (hm : Tight m) (h : ∀ i, l.getD i 0 = m.getD i 0) : l = m := by
  have h1 := tight_le hl h
  have h2 := tight_le hm fun i => (h i).symm
  apply List.ext_getElem (by omega)
  intro i z1 z2
  have := h i
  rw [getD_in z1, getD_in z2] at this
  exact this
theorem dig_zero {p n j i : Nat} (h : n / p ^ j = 0) (hji : j ≤ i) : n / p ^ i % p = 0 := by
  have : n / p ^ i = 0 := by
    rw [show i = j + (i - j) by omega, Nat.pow_add, ← Nat.div_div_eq_div_mul, h, Nat.zero_div]
  rw [this, Nat.zero_mod]
/-- the digits of a number, none leading that is 0 -/
theorem dig_trim {p n j d : Nat} (hp : 2 ≤ p) (hd : n < p ^ d) (h0 : n / p ^ j = 0) (h1 : j = 0 ∨ n / p ^ (j - 1) ≠ 0) : digN p j n = trimL (digN p d n) := by
  have hdz : n / p ^ d = 0 := Nat.div_eq_of_lt hd
  refine tight_eq ?_ (trim_facts _ _ rfl).1 fun i => ?_
  · rcases h1 with rfl | h1
    · exact .inl rfl
    · right
      have hj : 1 ≤ j := by
        rcases Nat.eq_zero_or_pos j with z | z
        · subst z
          exact absurd h0 h1
        · exact z
      rw [digN_len, digN_get, if_pos (by omega)]
      have : n / p ^ (j - 1) < p := by
        rw [Nat.div_lt_iff_lt_mul (Nat.pow_pos (by omega))]
        have h2 : n < p ^ j := by
          rcases Nat.lt_or_ge n (p ^ j) with z | z
          · exact z
          · have := Nat.div_pos z (Nat.pow_pos (show 0 < p by omega))
            omega
        rw [Nat.mul_comm, ← Nat.pow_succ, show (j - 1).succ = j by omega]
        exact h2
      rw [Nat.mod_eq_of_lt this]
      exact h1
  · rw [trim_at, digN_get, digN_get]
    by_cases c1 : i < j
    · by_cases c2 : i < d
      · rw [if_pos c1, if_pos c2]
      · rw [if_pos c1, if_neg c2, dig_zero hdz (by omega)]
    · by_cases c2 : i < d
      · rw [if_neg c1, if_pos c2, dig_zero h0 (by omega)]
      · rw [if_neg c1, if_neg c2]
def spDigG : Sp := fun vs H Q _ => ∃ (p n d : Nat), vs = [.int ((p : Nat) : Int), .int ((n : Nat) : Int)] ∧ 2 ≤ p ∧ p ≤ 31 ∧ d ≤ 6 ∧ n < p ^ d ∧ ∀ (t : Addr) (H' : Hp), H t = none → Same H H' → H' t = some (.tup (nats (trimL (digN p d n)))) → Q (.ref t) H'
theorem ok_digG {f : Addr} {fd : FuncData} (F : Fun K "digits_of" "digits_of" sDigitsOf f fd) (T : TxtB mg) : FnOk P w K mg base CX0 1 f fd ["p", "number"] spDigG := by
  refine F.okQ scDigitsOf (fun vs H Q E h => ?_) (fun cdv A outer s H vs Q E hr h => ?_)
  · obtain ⟨p, n, s, rfl, _⟩ := h
    rfl
  · obtain ⟨p, n, d, rfl, hp2, hp31, hd6, hnd, q⟩ := h
    refine ⟨_, (qss_cons (qs_set (i := 2) scDigitsOf.nd rfl (Or.inl rfl) (qe_lst qa_nil))
      (qss_cons (qs_set (i := 3) scDigitsOf.nd rfl (Or.inl rfl) (qv 1))
      (qss_cons (qs_while PassesOwn.never (qt_cmpR op_gt (qv 3) qe_int (nomark _))
        (qss_cons (qs_expr (qe_bm PySem.F.plainAttrs_list PySem.F.slot_list_append PySem.F.type_list_append mt_append (qv 2) (qac (qe_op op_mod (qv 3) (qv 0)) qa_nil)))
        (qss_one (qs_set (i := 3) scDigitsOf.nd rfl (Or.inl rfl) (qe_op op_fdiv (qv 3) (qv 0))))))
      (qss_one (qs_ret (qe_callTy call_tuple_of (by rfl) T.tup (by decide +kernel) (qac (qv 2) qa_nil))))))), ?_⟩
    refine ⟨by show 0 ≤ sizeLine; decide, fun l hl => ⟨_, rfl, ?_⟩⟩
    refine while_w (fun σ H2 => Same H H2 ∧ ∃ j : Nat, (j = 0 ∨ n / p ^ (j - 1) ≠ 0) ∧ j ≤ d ∧ σ = [some (.int ((p : Nat) : Int)), some (.int ((n : Nat) : Int)), some (.ref l), some (.int ((n / p ^ j : Nat) : Int))] ∧ H2 l = some (.lst (nats (digN p j n))))
      (fun σ _ => match σ with | [_, _, _, some (.int m)] => m.toNat | _ => 0) ⟨same_new hl, 0, .inl rfl, by omega, by rw [Nat.pow_zero, Nat.div_one]; rfl, upd_same⟩ ?_
    rintro mm σ H2 ⟨s2, j, hj1, hj, rfl, hl2⟩ hmm
    refine ⟨_, rfl, _, _, rfl, rfl, _, rfl, ?_⟩
    refine ite2 (fun h1 => WTurn.of ?_) (fun h1 => ?_)
    · have h1' : 0 < n / p ^ j := by
        have : (0 : Int) < ((n / p ^ j : Nat) : Int) := of_decide_eq_true h1
        omega
      have hjk : j < d := by
        rcases Nat.lt_or_ge j d with z | z
        · exact z
        · have e : j = d := by omega
          subst e
          rw [Nat.div_eq_of_lt hnd] at h1'
          exact absurd h1' (Nat.lt_irrefl _)
      have e1 : ((n / p ^ j : Nat) : Int) % ((p : Nat) : Int) = ((n / p ^ j % p : Nat) : Int) := by simp
      have e2 : ((n / p ^ j : Nat) : Int) / ((p : Nat) : Int) = ((n / p ^ (j + 1) : Nat) : Int) := by
        rw [Nat.pow_succ, ← Nat.div_div_eq_div_mul]
        simp
      refine ⟨_, rfl, .inl ⟨rfl, _, SqL.of hl2⟩, _, rfl, _, rfl, _, _, rfl, rfl, by omega, l, _, .int ((n / p ^ j % p : Nat) : Int), rfl, ?_, hl2, by rw [nats_len, digN_len]; exact Nat.lt_of_le_of_lt (show j ≤ 6 by omega) (by decide), ?_⟩
      · show [V.int (((n / p ^ j : Nat) : Int) % ((p : Nat) : Int))] = _
        rw [e1]
      refine ⟨_, rfl, _, rfl, _, _, rfl, rfl, ⟨by omega, by omega⟩, ?_⟩
      show (Same H _ ∧ ∃ j' : Nat, (j' = 0 ∨ n / p ^ (j' - 1) ≠ 0) ∧ j' ≤ d ∧ [some (V.int ((p : Nat) : Int)), some (V.int ((n : Nat) : Int)), some (V.ref l), some (V.int (((n / p ^ j : Nat) : Int) / ((p : Nat) : Int)))] = _ ∧ _) ∧ (((n / p ^ j : Nat) : Int) / ((p : Nat) : Int)).toNat < mm
      rw [e2]
      refine ⟨⟨same_upd s2 hl, j + 1, .inr (by rw [Nat.add_sub_cancel]; exact Nat.ne_of_gt h1'), by omega, rfl, ?_⟩, ?_⟩
      · rw [upd_same, digN_snoc, nats_snoc]
      · rw [hmm]
        show ((n / p ^ (j + 1) : Nat) : Int).toNat < ((n / p ^ j : Nat) : Int).toNat
        rw [Int.toNat_natCast, Int.toNat_natCast, Nat.pow_succ, ← Nat.div_div_eq_div_mul]
        exact Nat.div_lt_self h1' (by omega)
    · have h1' : n / p ^ j = 0 := by
        have : ¬ (0 : Int) < ((n / p ^ j : Nat) : Int) := fun z => h1 (decide_eq_true z)
        generalize n / p ^ j = z at this ⊢
        omega
      rw [dig_trim hp2 hnd h1' hj1] at hl2
      exact ⟨_, rfl, l, _, rfl, .inl ⟨SqL.of hl2, fun t ht => q t _ (s2.free ht) (s2.trans (same_new ht)) upd_same⟩⟩
theorem cint_mk {K : PySem.W.Frag} {x : Str} {n : Int} {t : Tok} (h : PySem.W.nsIn K mainGlobals x = some (some (.int n t))) : ∃ t, PySem.W.nsIn K mainGlobals x = some (some (.int n t)) := ⟨t, h⟩
/-- the digit at i of a sum or a difference -/
def cj (p : Nat) (sg : Int) (a b i : Nat) : Nat := ((((a / p ^ i : Nat) : Int) + sg * ((b / p ^ i : Nat) : Int)) % ((p : Nat) : Int)).toNat
theorem cj_int {p : Nat} (hp : 1 ≤ p) (sg : Int) (a b i : Nat) : (((a / p ^ i : Nat) : Int) + sg * ((b / p ^ i : Nat) : Int)) % ((p : Nat) : Int) = ((cj p sg a b i : Nat) : Int) ∧ cj p sg a b i < p := by
  unfold cj
  generalize ((a / p ^ i : Nat) : Int) + sg * ((b / p ^ i : Nat) : Int) = z
  have h1 := Int.emod_nonneg z (show ((p : Nat) : Int) ≠ 0 by omega)
  have h2 := Int.emod_lt_of_pos z (show (0 : Int) < ((p : Nat) : Int) by omega)
  exact ⟨by omega, by omega⟩
theorem div_zero_of {p n j i : Nat} (h : n / p ^ j = 0) (hji : j ≤ i) : n / p ^ i = 0 := by
  rw [show i = j + (i - j) by omega, Nat.pow_add, ← Nat.div_div_eq_div_mul, h, Nat.zero_div]
theorem cj_zero {p : Nat} {sg : Int} {a b j i : Nat} (h1 : a / p ^ j = 0) (h2 : b / p ^ j = 0) (hji : j ≤ i) : cj p sg a b i = 0 := by
  unfold cj
  rw [div_zero_of h1 hji, div_zero_of h2 hji]
  simp
def joinV (p : Nat) (sg : Int) (d a b : Nat) : Nat := sumP p (cj p sg a b) d
theorem joinV_lt {p : Nat} {sg : Int} {d a b : Nat} (hp : 1 ≤ p) : joinV p sg d a b < p ^ d := sumP_lt hp fun i => (cj_int hp sg a b i).2
def spJoin : Sp := fun vs H Q _ => ∃ (p d a b : Nat) (sg : Int), vs = [.int ((p : Nat) : Int), .int ((a : Nat) : Int), .int ((b : Nat) : Int), .int sg] ∧ 2 ≤ p ∧ p ≤ 31 ∧ d ≤ 6 ∧ a < p ^ d ∧ b < p ^ d ∧ (sg = 1 ∨ sg = -1) ∧ Q (.int ((joinV p sg d a b : Nat) : Int)) H
theorem scJoined : FnScope ["p", "a", "b", "sign", "number", "power", "one", "other"] ["p", "a", "b", "sign"] (defScope sJoined) := ⟨rfl, rfl, rfl, by decide +kernel, rfl, by decide +kernel, by decide +kernel⟩
theorem ok_join {f : Addr} {fd : FuncData} (F : Fun K "joined" "joined" sJoined f fd) : FnOk P w K mg base CX0 1 f fd ["p", "a", "b", "sign"] spJoin := by
  refine F.okQ scJoined (fun vs H Q E h => ?_) (fun cdv A outer s H vs Q E hr h => ?_)
  · obtain ⟨p, d, a, b, sg, rfl, _⟩ := h
    rfl
  · obtain ⟨p, d, a, b, sg, rfl, hp2, hp31, hd6, ha, hb, hsg, q⟩ := h
    refine ⟨_, (qss_cons (qs_set (i := 4) scJoined.nd rfl (Or.inl rfl) qe_int)
      (qss_cons (qs_set (i := 5) scJoined.nd rfl (Or.inl rfl) qe_int)
      (qss_cons (qs_set (i := 6) scJoined.nd rfl (Or.inl rfl) (qv 1))
      (qss_cons (qs_set (i := 7) scJoined.nd rfl (Or.inl rfl) (qv 2))
      (qss_cons (qs_while PassesOwn.never (QW.pt (qw_or (qt_cmpR op_gt (qv 6) qe_int (nomark _)) (qw_or1 (qt_cmpR op_gt (qv 7) qe_int (nomark _)))))
        (qss_cons (qs_aug (i := 4) scJoined.nd rfl (Or.inl rfl) (qe_op op_mul (qe_op op_mod (qe_op op_add (qv 6) (qe_op op_mul (qv 3) (qv 7))) (qv 0)) (qv 5)) ip_add)
        (qss_cons (qs_set (i := 5) scJoined.nd rfl (Or.inl rfl) (qe_op op_mul (qv 5) (qv 0)))
        (qss_cons (qs_set (i := 6) scJoined.nd rfl (Or.inl rfl) (qe_op op_fdiv (qv 6) (qv 0)))
        (qss_one (qs_set (i := 7) scJoined.nd rfl (Or.inl rfl) (qe_op op_fdiv (qv 7) (qv 0))))))))
      (qss_one (qs_ret (qv 4)))))))), ?_⟩
    have hpd := pow_le6 hp31 hd6
    refine ⟨_, rfl, _, rfl, ?_⟩
    refine while_w (fun σ H2 => H2 = H ∧ ∃ j : Nat, j ≤ d ∧ σ = [some (.int ((p : Nat) : Int)), some (.int ((a : Nat) : Int)), some (.int ((b : Nat) : Int)), some (.int sg), some (.int ((sumP p (cj p sg a b) j : Nat) : Int)), some (.int ((p ^ j : Nat) : Int)), some (.int ((a / p ^ j : Nat) : Int)), some (.int ((b / p ^ j : Nat) : Int))])
      (fun σ _ => match σ with | [_, _, _, _, _, _, some (.int m), some (.int n)] => m.toNat + n.toNat | _ => 0) ⟨rfl, 0, by omega, by rw [Nat.pow_zero, Nat.div_one, Nat.div_one]; rfl⟩ ?_
    rintro mm σ H2 ⟨rfl, j, hj, rfl⟩ hmm
    have hpj := pow_le6 (s := j) hp31 (by omega)
    have step : 0 < a / p ^ j ∨ 0 < b / p ^ j → j < d := fun z => by
      rcases Nat.lt_or_ge j d with y | y
      · exact y
      · exfalso
        have e : j = d := by omega
        subst e
        rw [Nat.div_eq_of_lt ha, Nat.div_eq_of_lt hb] at z
        omega
    obtain ⟨e0, c1⟩ := cj_int (show 1 ≤ p by omega) sg a b j
    have eP : ((p ^ j : Nat) : Int) * ((p : Nat) : Int) = ((p ^ (j + 1) : Nat) : Int) := by rw [Nat.pow_succ]; simp
    have eA : ((a / p ^ j : Nat) : Int) / ((p : Nat) : Int) = ((a / p ^ (j + 1) : Nat) : Int) := by
      rw [Nat.pow_succ, ← Nat.div_div_eq_div_mul]
      simp
    have eB : ((b / p ^ j : Nat) : Int) / ((p : Nat) : Int) = ((b / p ^ (j + 1) : Nat) : Int) := by
      rw [Nat.pow_succ, ← Nat.div_div_eq_div_mul]
      simp
    have eS : ((sumP p (cj p sg a b) j : Nat) : Int) + ((cj p sg a b j : Nat) : Int) * ((p ^ j : Nat) : Int) = ((sumP p (cj p sg a b) (j + 1) : Nat) : Int) := by
      rw [sumP]
      simp
    have hb31 : b / p ^ j ≤ 887503681 := Nat.le_trans (Nat.div_le_self ..) (by omega)
    have fin : (0 < a / p ^ j ∨ 0 < b / p ^ j) → (H2 = H2 ∧ ∃ i : Nat, i ≤ d ∧ [some (.int ((p : Nat) : Int)), some (.int ((a : Nat) : Int)), some (.int ((b : Nat) : Int)), some (.int sg), some (V.int (((sumP p (cj p sg a b) j : Nat) : Int) + (((a / p ^ j : Nat) : Int) + sg * ((b / p ^ j : Nat) : Int)) % ((p : Nat) : Int) * ((p ^ j : Nat) : Int))), some (V.int (((p ^ j : Nat) : Int) * ((p : Nat) : Int))), some (V.int (((a / p ^ j : Nat) : Int) / ((p : Nat) : Int))), some (V.int (((b / p ^ j : Nat) : Int) / ((p : Nat) : Int)))] = [some (.int ((p : Nat) : Int)), some (.int ((a : Nat) : Int)), some (.int ((b : Nat) : Int)), some (.int sg), some (.int ((sumP p (cj p sg a b) i : Nat) : Int)), some (.int ((p ^ i : Nat) : Int)), some (.int ((a / p ^ i : Nat) : Int)), some (.int ((b / p ^ i : Nat) : Int))]) ∧
        (((a / p ^ j : Nat) : Int) / ((p : Nat) : Int)).toNat + (((b / p ^ j : Nat) : Int) / ((p : Nat) : Int)).toNat < mm := fun z => by
      have hjd := step z
      rw [e0, eS, eP, eA, eB]
      refine ⟨⟨rfl, j + 1, by omega, rfl⟩, ?_⟩
      rw [hmm]
      show ((a / p ^ (j + 1) : Nat) : Int).toNat + ((b / p ^ (j + 1) : Nat) : Int).toNat < ((a / p ^ j : Nat) : Int).toNat + ((b / p ^ j : Nat) : Int).toNat
      rw [Int.toNat_natCast, Int.toNat_natCast, Int.toNat_natCast, Int.toNat_natCast, Nat.pow_succ, ← Nat.div_div_eq_div_mul, ← Nat.div_div_eq_div_mul]
      have l1 : ∀ x : Nat, x / p ≤ x := fun x => Nat.div_le_self ..
      have l2 : ∀ x : Nat, 0 < x → x / p < x := fun x hx => Nat.div_lt_self hx (by omega)
      have := l1 (a / p ^ j)
      have := l1 (b / p ^ j)
      rcases z with z | z
      · have := l2 _ z
        omega
      · have := l2 _ z
        omega
    have hm64 : -(2 ^ 64 : Int) ≤ sg ∧ sg ≤ 2 ^ 64 := by rcases hsg with rfl | rfl <;> exact ⟨by decide, by decide⟩
    have hmod : (((a / p ^ j : Nat) : Int) + sg * ((b / p ^ j : Nat) : Int)) % ((p : Nat) : Int) = ((cj p sg a b j : Nat) : Int) := e0
    refine ⟨_, rfl, _, _, rfl, rfl, _, rfl, ?_⟩
    by_cases h1 : 0 < a / p ^ j
    · refine ifT (by omega) (WTurn.of ?_)
      refine ⟨_, rfl, _, rfl, _, rfl, _, rfl, _, _, rfl, rfl, .inl ⟨by rcases hsg with rfl | rfl <;> decide, by rcases hsg with rfl | rfl <;> decide⟩, _, _, rfl, rfl, _, rfl, _, _, rfl, rfl, by omega, _, rfl, _, _, rfl, rfl, .inl ⟨by rw [hmod]; omega, by rw [hmod]; omega⟩, _, _, rfl, rfl, ?_⟩
      exact ⟨_, rfl, _, rfl, _, _, rfl, rfl, .inl ⟨by omega, by omega⟩, _, rfl, _, rfl, _, _, rfl, rfl, ⟨by omega, by omega⟩, _, rfl, _, rfl, _, _, rfl, rfl, ⟨by omega, by omega⟩, fin (.inl h1)⟩
    · refine ifF (by omega) ⟨_, rfl, _, _, rfl, rfl, _, rfl, ?_⟩
      by_cases h2 : 0 < b / p ^ j
      · refine ifT (by omega) (WTurn.of ?_)
        refine ⟨_, rfl, _, rfl, _, rfl, _, rfl, _, _, rfl, rfl, .inl ⟨by rcases hsg with rfl | rfl <;> decide, by rcases hsg with rfl | rfl <;> decide⟩, _, _, rfl, rfl, _, rfl, _, _, rfl, rfl, by omega, _, rfl, _, _, rfl, rfl, .inl ⟨by rw [hmod]; omega, by rw [hmod]; omega⟩, _, _, rfl, rfl, ?_⟩
        exact ⟨_, rfl, _, rfl, _, _, rfl, rfl, .inl ⟨by omega, by omega⟩, _, rfl, _, rfl, _, _, rfl, rfl, ⟨by omega, by omega⟩, _, rfl, _, rfl, _, _, rfl, rfl, ⟨by omega, by omega⟩, fin (.inr h2)⟩
      · refine ifF (by omega) ⟨_, rfl, ?_⟩
        have e : sumP p (cj p sg a b) j = joinV p sg d a b := by
          unfold joinV
          rw [show d = j + (d - j) by omega, sumP_tail (fun i hi => cj_zero (Nat.eq_zero_of_not_pos h1) (Nat.eq_zero_of_not_pos h2) hi)]
        rw [e]
        exact q
/-- a row of a field -/
structure FOk (p : Nat) (row : List Nat) : Prop where
  p2 : 2 ≤ p
  p31 : p ≤ 31
  pr : EM.IsPr p
  l2 : 2 ≤ row.length
  l6 : row.length ≤ 6
  lt : ∀ x ∈ row, x < p
  top : row.getD (row.length - 1) 0 = 1
  few : p ^ (row.length - 1) ≤ 32
  no : Dv p row none
def spMRow : Sp := fun vs H Q _ => ∃ (a : Addr) (p : Nat) (row : List Nat), vs = [.int ((p : Nat) : Int), .ref a] ∧ H a = some (.tup (nats row)) ∧ FOk p row ∧ ∀ H', Same H H' → Q .non H'
theorem scMustBeRow : FnScope ["p", "row"] ["p", "row"] (defScope sMustBeRow) := ⟨rfl, rfl, rfl, by decide +kernel, rfl, by decide +kernel, by decide +kernel⟩
theorem rep_true (n : Nat) : (List.replicate n true).all id = true := by simp
theorem ok_mrow {f : Addr} {fd : FuncData} (F : Fun K "must_be_row" "must_be_row" sMustBeRow f fd) (T : TxtB mg) (pWhole : Pm P w K mg base CX0 1 "is_whole" ["thing"] (spWhole K)) (pIsBelow : Pm P w K mg base CX0 2 "is_below" ["thing", "many"] spBelow) : FnOk P w K mg base CX0 3 f fd ["p", "row"] spMRow := by
  refine F.okQ scMustBeRow (fun vs H Q E h => ?_) (fun cdv A outer s H vs Q E hr2 h => ?_)
  · obtain ⟨a, p, row, rfl, _⟩ := h
    rfl
  · obtain ⟨a, p, row, rfl, ha, O, q⟩ := h
    have hr1 := hr2.mono (show 1 ≤ 2 by decide)
    have hp2 := O.p2
    have hl2 := O.l2
    have hl6 := O.l6
    refine ⟨_, (qss_cons (qs_if (QW.pt (qw_or (qt_not (qt_val (qe_callP pWhole hr1 rfl pass0 (qac (qv 0) qa_nil)))) (qw_or (qt_cmpR op_lt (qv 0) qe_int (nomark _)) (qw_or (qt_not (qt_val (qe_callB call_isinst (by rfl) T.isi PyProof.Rows.boot_isinstance (qac (qv 1) (qac (qe_bltn (v := .ty "tuple") rfl T.tup (by decide +kernel) rfl) qa_nil))))) (qw_or1 (qt_cmpR op_lt (qe_callB call_len_seq (by rfl) T.len PySem.boot_len (qac (qv 1) qa_nil)) qe_int (nomark _))))))) qss_never qss_nil)
      (qss_one (qs_if (QW.pt (qw_or (qt_not (qt_val (qe_callB (call_all rfl) (by rfl) T.all (by decide +kernel) (qac (qe_comp (g := gName 0) (N := ["digit", "p"]) (src := [none, some 0]) rfl (comp_scope (defScope sMustBeRow) ["p", "row"] rfl rfl (by decide +kernel) rfl) (qi_tup (qv 1)) (fun _ _ _ _ _ => (qg_name (i := 0) (show (["digit", "p"] : List Str).Nodup by decide +kernel) rfl (Or.inl rfl) (Or.inr rfl))) (fun _ _ _ _ _ => qif_nil) (fun _ _ _ _ _ => (qe_callP pIsBelow hr2 rfl pass0 (qac (qv 0) (qac (qv 1) qa_nil))))) qa_nil)))) (qw_or1 (qt_cmpR op_ne (qe_ix ix_tup (qv 1) (qe_un un_neg qe_int) (fun _ _ => rfl)) qe_int (nomark _))))) qss_never qss_nil))), ?_⟩
    refine ⟨_, rfl, .int _, true, rfl, .int _, true, rfl, iteF ?_⟩
    refine ⟨_, rfl, _, _, rfl, rfl, _, rfl, ifF (by omega) ?_⟩
    refine ⟨_, rfl, _, _, _, _, rfl, .tup ha, rel_ty (kit_tup_tup K), true, rfl, iteF ?_⟩
    refine ⟨_, rfl, a, _, rfl, .inr (SqT.of ha), _, _, rfl, rfl, _, rfl, ifF (by rw [nats_len]; omega) ?_⟩
    refine ⟨_, rfl, a, rfl, ⟨_, SqT.of ha⟩, comp_tup (K := K) (xs := nats row) (fun i zs H2 => H2 = H ∧ zs = (List.replicate i true).map V.bl) ⟨rfl, rfl⟩ (fun i zs H2 _ ⟨e, _⟩ => SqT.of (e ▸ ha)) ?_ ?_⟩
    · rintro i v zs H2 N hi ⟨rfl, rfl⟩ nx
      obtain ⟨x, hx, rfl⟩ := L2.nats_get hi
      have hxp := O.lt x (List.mem_of_getElem? hx)
      have hil := (List.getElem?_eq_some_iff.mp hx).1
      refine ⟨Weak.set (by intro v z; cases z), ⟨_, rfl, _, rfl, _, _, rfl, by omega, by omega, by rw [List.length_map, List.length_replicate]; exact Nat.lt_of_le_of_lt (show i ≤ 6 by omega) (by decide), nx _ _ ⟨rfl, ?_⟩⟩⟩
      rw [List.replicate_succ', List.map_append]
      rfl
    · rintro zs H2 ⟨rfl, rfl⟩
      refine ⟨by rw [List.length_map, List.length_replicate, nats_len]; exact Nat.le_trans hl6 (by decide), fun r hr' => ?_⟩
      have w1 := same_new (o := .lst ((List.replicate (nats row).length true).map V.bl)) hr'
      refine ⟨r, _, rfl, SqL.of upd_same, _, rfl, ?_⟩
      rw [rep_true]
      refine iteF ?_
      have hlast : atI (nats row) (-1) = some (.int 1) := by
        have h1 := List.dropLast_concat_getLast (l := row) (fun z => by rw [z] at hl2; simp at hl2)
        have h2 := O.top
        rw [List.getD_eq_getElem?_getD, List.getElem?_eq_getElem (show row.length - 1 < row.length by omega)] at h2
        have h3 : row.getLast (fun z => by rw [z] at hl2; simp at hl2) = 1 := by rw [List.getLast_eq_getElem]; exact h2
        rw [← h1, nats_snoc, atI_last, h3]
        rfl
      refine ⟨_, rfl, _, rfl, a, _, -1, .int 1, rfl, rfl, SqT.of (w1 _ _ ha), hlast, rfl, _, rfl, iteF (q _ w1)⟩
theorem not_wholeT {n c : Nat} (h : c < n) : ¬ (HT.sIx n 0 (some (((c : Nat) : Int) + 1)) = 0 ∧ HT.sIx n n none = n) := by
  rintro ⟨h1, _⟩
  rw [show ((c : Nat) : Int) + 1 = ((c + 1 : Nat) : Int) by omega, HT.sIx_nat] at h1
  omega
def spSize : Sp := fun vs H Q _ => ∃ (a : Addr) (p : Nat) (row : List Nat), vs = [.int ((p : Nat) : Int), .ref a] ∧ H a = some (.tup (nats row)) ∧ FOk p row ∧ ∀ H', Same H H' → Q (.int ((p ^ (row.length - 1) : Nat) : Int)) H'
theorem scSizeWithin : FnScope ["p", "row", "many", "digit"] ["p", "row"] (defScope sSizeWithin) := ⟨rfl, rfl, rfl, by decide +kernel, rfl, by decide +kernel, by decide +kernel⟩
theorem ok_size {f : Addr} {fd : FuncData} {t32 : Tok} (F : Fun K "size_within" "size_within" sSizeWithin f fd) (m32 : mg "MOST_NUMBERS" = some (.int 32 t32)) : FnOk P w K mg base CX0 1 f fd ["p", "row"] spSize := by
  refine F.okQ scSizeWithin (fun vs H Q E h => ?_) (fun cdv A outer s H vs Q E hr h => ?_)
  · obtain ⟨a, p, row, rfl, _⟩ := h
    rfl
  · obtain ⟨a, p, row, rfl, ha, O, q⟩ := h
    have hp2 := O.p2
    have hl2 := O.l2
    have hl6 := O.l6
    refine ⟨_, (qss_cons (qs_set (i := 2) scSizeWithin.nd rfl (Or.inl rfl) qe_int)
      (qss_cons (qs_for PassesOwn.never rfl (qi_tup (qe_slice sl_tup (qv 1) (qo_some qe_int) qo_none)) (qg_name (i := 3) scSizeWithin.nd rfl (Or.inl rfl))
        (qss_cons (qs_set (i := 2) scSizeWithin.nd rfl (Or.inl rfl) (qe_op op_mul (qv 2) (qv 0)))
        (qss_one (qs_if (qt_cmpR op_gt (qv 2) (qe_glob (v := .int 32) rfl m32 ⟨t32, rfl⟩) (nomark _)) qss_never qss_nil))))
      (qss_one (qs_ret (qv 2))))), ?_⟩
    have hnw : ¬ (HT.sIx (nats row).length 0 (some 1) = 0 ∧ HT.sIx (nats row).length (nats row).length none = (nats row).length) := by
      rw [nats_len]
      exact not_wholeT (c := 0) (by omega)
    refine ⟨_, rfl, _, rfl, a, _, rfl, SqT.of ha, hnw, fun u hu => ?_⟩
    have hcut : cutV (nats row) (some 1) none = (nats row).drop 1 := cut_from (k := 1) (by rw [nats_len]; omega)
    have hcl : (cutV (nats row) (some 1) none).length = row.length - 1 := by rw [hcut, List.length_drop, nats_len]
    have w1 := same_new (o := .tup (cutV (nats row) (some 1) none)) hu
    have hu1 : (upd H u (.tup (cutV (nats row) (some 1) none))) u = some (.tup (cutV (nats row) (some 1) none)) := upd_same
    generalize upd H u (.tup (cutV (nats row) (some 1) none)) = H1 at w1 hu1 ⊢
    refine ⟨u, rfl, ⟨_, SqT.of hu1⟩, for_tup (K := K) (a := u) (xs := cutV (nats row) (some 1) none) (fun i σ H2 => H2 = H1 ∧ i ≤ row.length - 1 ∧ ∃ x3, σ = [some (.int ((p : Nat) : Int)), some (.ref a), some (.int ((p ^ i : Nat) : Int)), x3]) ⟨rfl, by omega, none, by rw [Nat.pow_zero]; rfl⟩ (fun i σ H2 _ ⟨e, _⟩ => SqT.of (e ▸ hu1)) ?_ ?_⟩
    · rintro i v σ H2 hi ⟨rfl, hi', x3, rfl⟩
      have hil := (List.getElem?_eq_some_iff.mp hi).1
      rw [hcl] at hil
      have h32 : p ^ (i + 1) ≤ 32 := Nat.le_trans (Nat.pow_le_pow_right (by omega) (show i + 1 ≤ row.length - 1 by omega)) O.few
      have h32' : p ^ i ≤ 32 := Nat.le_trans (Nat.pow_le_pow_right (by omega) (show i ≤ row.length - 1 by omega)) O.few
      have hps : ((p ^ i : Nat) : Int) * ((p : Nat) : Int) = ((p ^ (i + 1) : Nat) : Int) := by
        rw [Nat.pow_succ]
        simp
      refine ⟨_, rfl, _, rfl, _, _, rfl, rfl, .inl ⟨by omega, by omega⟩, _, rfl, _, _, rfl, rfl, _, rfl, ?_⟩
      rw [hps]
      exact ifF (by omega) ⟨rfl, by omega, _, rfl⟩
    · rintro σ H2 ⟨rfl, hi', x3, rfl⟩
      rw [hcl]
      exact ⟨_, rfl, q _ w1⟩
def spMP : Sp := fun vs H Q _ => ∃ p : Nat, vs = [.int ((p : Nat) : Int)] ∧ p ≤ 31 ∧ EM.IsPr p ∧ ∀ H', Same H H' → Q .non H'
theorem scMustBePrime : FnScope ["p"] ["p"] (defScope sMustBePrime) := ⟨rfl, rfl, rfl, by decide +kernel, rfl, by decide +kernel, by decide +kernel⟩
theorem ok_mp {f : Addr} {fd : FuncData} (F : Fun K "must_be_prime" "must_be_prime" sMustBePrime f fd) (pIsPrime : Pm P w K mg base CX0 5 "is_prime" ["p"] spIsPrime) : FnOk P w K mg base CX0 6 f fd ["p"] spMP := by
  refine F.okQ scMustBePrime (fun vs H Q E h => ?_) (fun cdv A outer s H vs Q E hr h => ?_)
  · obtain ⟨p, rfl, _⟩ := h
    rfl
  · obtain ⟨p, rfl, hp31, hpr, q⟩ := h
    refine ⟨_, (qss_one (qs_if (qt_not (qt_val (qe_callP pIsPrime hr rfl pass0 (qac (qv 0) qa_nil)))) qss_never qss_nil)), ?_⟩
    refine ⟨_, rfl, _, rfl, by omega, fun b H' s' hb => ⟨b, rfl, ?_⟩⟩
    have : b = true := hb.mpr ⟨p, rfl, hpr⟩
    subst this
    exact iteF (q _ s')
def spMNo : Sp := fun vs H Q _ => ∃ (a : Addr) (p : Nat) (row : List Nat), vs = [.int ((p : Nat) : Int), .ref a] ∧ H a = some (.tup (nats row)) ∧ FOk p row ∧ ∀ H', Same H H' → Q .non H'
theorem scMustBeNoProduct : FnScope ["p", "row", "factor"] ["p", "row"] (defScope sMustBeNoProduct) := ⟨rfl, rfl, rfl, by decide +kernel, rfl, by decide +kernel, by decide +kernel⟩
theorem ok_mno {f : Addr} {fd : FuncData} (F : Fun K "must_be_no_product" "must_be_no_product" sMustBeNoProduct f fd) (pRowFactor : Pm P w K mg base CX0 3 "row_factor" ["p", "row"] spDv) : FnOk P w K mg base CX0 4 f fd ["p", "row"] spMNo := by
  refine F.okQ scMustBeNoProduct (fun vs H Q E h => ?_) (fun cdv A outer s H vs Q E hr h => ?_)
  · obtain ⟨a, p, row, rfl, _⟩ := h
    rfl
  · obtain ⟨a, p, row, rfl, ha, O, q⟩ := h
    have hl6 := O.l6
    have hp31 := O.p31
    refine ⟨_, (qss_cons (qs_set (i := 2) scMustBeNoProduct.nd rfl (Or.inl rfl) (qe_callP pRowFactor hr rfl pass0 (qac (qv 0) (qac (qv 1) qa_nil))))
      (qss_one (qs_if (qt_cmpR op_notN (qv 2) qe_non (nomark _)) qss_never qss_nil))), ?_⟩
    refine ⟨_, rfl, _, rfl, a, p, row, rfl, ha, O.p2, hp31, by omega, fun x hx => by have := O.lt x hx; omega, fun v o H' s' ho hv => ?_⟩
    cases o with
    | some b => exact absurd O.no ho.sides
    | none =>
      have : v = .non := hv
      subst this
      exact ⟨_, rfl, rfl, _, rfl, iteF (q _ s')⟩
/-! ### the class -/
structure FieldK (K : PySem.W.Frag) (C : Addr) : Prop where
  cl : Cls K C
  a1 : NoAttr K C "many"
  a2 : NoAttr K C "prime"
  a3 : NoAttr K C "row"
def fldF (n p : Nat) (r : Addr) : List (Str × V) := putF "row" (.ref r) (putF "prime" (.int ((p : Nat) : Int)) (putF "many" (.int ((n : Nat) : Int)) []))
theorem fld_many (n p : Nat) (r : Addr) : (fldF n p r).lookup ("many" : Str) = some (.int ((n : Nat) : Int)) := by
  unfold fldF
  rw [lookup_putF, if_neg (by decide +kernel), lookup_putF, if_neg (by decide +kernel), lookup_putF, if_pos rfl]
theorem fld_prime (n p : Nat) (r : Addr) : (fldF n p r).lookup ("prime" : Str) = some (.int ((p : Nat) : Int)) := by
  unfold fldF
  rw [lookup_putF, if_neg (by decide +kernel), lookup_putF, if_pos rfl]
theorem fld_row (n p : Nat) (r : Addr) : (fldF n p r).lookup ("row" : Str) = some (.ref r) := by
  unfold fldF
  rw [lookup_putF, if_pos rfl]
theorem fld_no (n p : Nat) (r : Addr) {m : Str} (h1 : ¬ m = "row") (h2 : ¬ m = "prime") (h3 : ¬ m = "many") : (fldF n p r).lookup m = none := by
  unfold fldF
  rw [lookup_putF, if_neg h1, lookup_putF, if_neg h2, lookup_putF, if_neg h3]
  rfl
/-- a field stands at a -/
def FieldAt (C : Addr) (H : Hp) (a : Addr) (p : Nat) (row : List Nat) : Prop := ∃ dx r, H a = some (.ins C dx (fldF (p ^ (row.length - 1)) p r)) ∧ H r = some (.tup (nats row))
theorem FieldAt.sm {C : Addr} {H H' : Hp} (s : Same H H') {a : Addr} {p : Nat} {row : List Nat} (h : FieldAt C H a p row) : FieldAt C H' a p row := by
  obtain ⟨dx, r, h1, h2⟩ := h
  exact ⟨dx, r, s _ _ h1, s _ _ h2⟩
def spInit (C : Addr) : Sp := fun vs H Q _ => ∃ (x dx r : Addr) (p : Nat) (row : List Nat) (H0 : Hp), vs = [.ref x, .int ((p : Nat) : Int), .ref r] ∧ H0 x = none ∧ H = upd H0 x (.ins C dx []) ∧ H0 r = some (.tup (nats row)) ∧ FOk p row ∧ ∀ H', Same H0 H' → FieldAt C H' x p row → Q .non H'
theorem scMInit : FnScope ["self", "p", "row"] ["self", "p", "row"] (defScope sMInit) := ⟨rfl, rfl, rfl, by decide +kernel, rfl, by decide +kernel, by decide +kernel⟩
theorem ok_init {f : Addr} {fd : FuncData} (F : Fun K "__init__" "Field.__init__" sMInit f fd) (Z : FieldK K C) (pMRow : Pm P w K mg base CX0 3 "must_be_row" ["p", "row"] spMRow) (pSize : Pm P w K mg base CX0 1 "size_within" ["p", "row"] spSize) (pMP : Pm P w K mg base CX0 6 "must_be_prime" ["p"] spMP) (pMNo : Pm P w K mg base CX0 4 "must_be_no_product" ["p", "row"] spMNo) : FnOk P w K mg base CX0 7 f fd ["self", "p", "row"] (spInit C) := by
  refine F.okQ scMInit (fun vs H Q E h => ?_) (fun cdv A outer s H vs Q E hr6 h => ?_)
  · obtain ⟨x, dx, r, p, row, H0, rfl, _⟩ := h
    rfl
  · obtain ⟨x, dx, r, p, row, H0, rfl, hx0, rfl, hr0, O, q⟩ := h
    have hr1 := hr6.mono (show 1 ≤ 6 by decide)
    have hr3 := hr6.mono (show 3 ≤ 6 by decide)
    have hr4 := hr6.mono (show 4 ≤ 6 by decide)
    refine ⟨_, (qss_cons (qs_expr (qe_callP pMRow hr3 rfl pass0 (qac (qv 1) (qac (qv 2) qa_nil)))) (qss_cons (qs_fld (qv 0) (qe_callP pSize hr1 rfl pass0 (qac (qv 1) (qac (qv 2) qa_nil))) rfl)
      (qss_cons (qs_expr (qe_callP pMP hr6 rfl pass0 (qac (qv 1) qa_nil))) (qss_cons (qs_expr (qe_callP pMNo hr4 rfl pass0 (qac (qv 1) (qac (qv 2) qa_nil))))
      (qss_cons (qs_fld (qv 0) (qv 1) rfl) (qss_one (qs_fld (qv 0) (qv 2) rfl))))))), ?_⟩
    have w0 := same_new (o := .ins C dx []) hx0
    have hx : (upd H0 x (.ins C dx [])) x = some (.ins C dx []) := upd_same
    generalize upd H0 x (.ins C dx []) = H1 at w0 hx ⊢
    refine ⟨_, rfl, _, rfl, r, p, row, rfl, w0 _ _ hr0, O, fun H2 s2 => ?_⟩
    have s02 := w0.trans s2
    refine ⟨_, rfl, _, rfl, r, p, row, rfl, s02 _ _ hr0, O, fun H3 s3 => ?_⟩
    have s03 := s02.trans s3
    refine ⟨_, rfl, x, C, dx, [], rfl, (s2.trans s3) _ _ hx, Z.cl, Z.a1, by decide, ?_⟩
    have t4 : Same H0 (upd H3 x (.ins C dx (putF "many" (.int ((p ^ (row.length - 1) : Nat) : Int)) []))) := same_upd s03 hx0
    have hx4 : (upd H3 x (.ins C dx (putF "many" (.int ((p ^ (row.length - 1) : Nat) : Int)) []))) x = some (.ins C dx (putF "many" (.int ((p ^ (row.length - 1) : Nat) : Int)) [])) := upd_same
    generalize upd H3 x (.ins C dx (putF "many" (.int ((p ^ (row.length - 1) : Nat) : Int)) [])) = H4 at t4 hx4 ⊢
    refine ⟨_, rfl, p, rfl, O.p31, O.pr, fun H5 s5 => ?_⟩
    refine ⟨_, rfl, _, rfl, r, p, row, rfl, (t4.trans s5) _ _ hr0, O, fun H6 s6 => ?_⟩
    have t6 := t4.trans (s5.trans s6)
    refine ⟨_, rfl, _, rfl, x, C, dx, _, rfl, (s5.trans s6) _ _ hx4, Z.cl, Z.a2, Nat.lt_of_le_of_lt (length_putF ..) (by decide), ?_⟩
    refine ⟨_, rfl, _, rfl, x, C, dx, _, rfl, upd_same, Z.cl, Z.a3, Nat.lt_of_le_of_lt (Nat.le_trans (length_putF ..) (Nat.succ_le_succ (length_putF ..))) (by decide), ?_⟩
    exact q _ (same_upd (same_upd t6 hx0) hx0) ⟨dx, r, upd_same, (same_upd (same_upd t6 hx0) hx0) _ _ hr0⟩
def spSizeM (C : Addr) : Sp := fun vs H Q _ => ∃ (a : Addr) (p : Nat) (row : List Nat), vs = [.ref a] ∧ FieldAt C H a p row ∧ Q (.int ((p ^ (row.length - 1) : Nat) : Int)) H
theorem scMSize : FnScope ["self"] ["self"] (defScope sMSize) := ⟨rfl, rfl, rfl, by decide +kernel, rfl, by decide +kernel, by decide +kernel⟩
theorem ok_sizeM {f : Addr} {fd : FuncData} (F : Fun K "size" "Field.size" sMSize f fd) (Z : FieldK K C) : FnOk P w K mg base CX0 1 f fd ["self"] (spSizeM C) := by
  refine F.okQ scMSize (fun vs H Q E h => ?_) (fun cdv A outer s H vs Q E hr h => ?_)
  · obtain ⟨a, p, row, rfl, _⟩ := h
    rfl
  · obtain ⟨a, p, row, rfl, ⟨dx, r, ha, hr'⟩, q⟩ := h
    refine ⟨_, (qss_one (qs_ret (qe_fld (qv 0) rfl))), ?_⟩
    exact ⟨_, rfl, a, C, dx, _, _, rfl, ha, Z.cl, Z.a1, fld_many .., q⟩
def spHave (C : Addr) : Sp := fun vs H Q _ => ∃ (a : Addr) (p x : Nat) (row : List Nat), vs = [.ref a, .int ((x : Nat) : Int)] ∧ FieldAt C H a p row ∧ x < p ^ (row.length - 1) ∧ Q .non H
theorem scMMustHave : FnScope ["self", "thing"] ["self", "thing"] (defScope sMMustHave) := ⟨rfl, rfl, rfl, by decide +kernel, rfl, by decide +kernel, by decide +kernel⟩
theorem ok_have {f : Addr} {fd : FuncData} (F : Fun K "must_have" "Field.must_have" sMMustHave f fd) (Z : FieldK K C) (pIsBelow : Pm P w K mg base CX0 2 "is_below" ["thing", "many"] spBelow) : FnOk P w K mg base CX0 3 f fd ["self", "thing"] (spHave C) := by
  refine F.okQ scMMustHave (fun vs H Q E h => ?_) (fun cdv A outer s H vs Q E hr h => ?_)
  · obtain ⟨a, p, x, row, rfl, _⟩ := h
    rfl
  · obtain ⟨a, p, x, row, rfl, ⟨dx, r, ha, hr'⟩, hx, q⟩ := h
    refine ⟨_, (qss_one (qs_if (qt_not (qt_val (qe_callP pIsBelow hr rfl pass0 (qac (qv 1) (qac (qe_fld (qv 0) rfl) qa_nil))))) qss_never qss_nil)), ?_⟩
    exact ⟨_, rfl, _, rfl, a, C, dx, _, _, rfl, ha, Z.cl, Z.a1, fld_many .., _, _, rfl, by omega, by omega, true, rfl, iteF q⟩
theorem conv_at_lt {p : Nat} (hp : 1 ≤ p) (one other : List Nat) (i : Nat) : (convL p one other).getD i 0 < p := by
  rcases Nat.lt_or_ge i (convL p one other).length with z | z
  · rw [getD_in z]
    obtain ⟨k, _, e⟩ := List.mem_map.mp (show (convL p one other)[i] ∈ (List.range (one.length + other.length)).map fun k => (csL one other k one.length).sum % p from List.getElem_mem z)
    rw [← e]
    exact Nat.mod_lt _ hp
  · rw [getD_out z]
    exact hp
theorem bsI_trim (l : List Nat) (s i : Nat) : bsI (trimL l) s i = bsI l s i := by
  unfold bsI
  rw [trim_at]
theorem conv_trim {p : Nat} (hp : 1 ≤ p) (A B : List Nat) : trimL (convL p (trimL A) (trimL B)) = trimL (convL p A B) := by
  refine trim_ext fun i => Cg.eq (p := p) ?_ (conv_at_lt hp _ _ i) (conv_at_lt hp _ _ i)
  refine (conv_cg (p := p) (trimL A) (trimL B) i).trans (Cg.trans (Cg.of_eq ?_) (conv_cg (p := p) A B i).symm)
  have h1 : (trimL A).length ≤ A.length := trim_le A
  have h2 := sumTo_tail (n := (trimL A).length) (f := fun j => (((trimL A).getD j 0 : Nat) : Int) * bsI (trimL B) j i) (fun j hj => by rw [getD_out hj]; simp) (A.length - (trimL A).length)
  rw [show (trimL A).length + (A.length - (trimL A).length) = A.length by omega] at h2
  rw [← h2]
  refine sumTo_congr fun j _ => ?_
  rw [trim_at, bsI_trim]
/-- the product of two numbers of a field -/
def tmL (p : Nat) (row : List Nat) (a b : Nat) : List Nat := trimL (restF p row (trimL (convL p (digN p (row.length - 1) a) (digN p (row.length - 1) b))))
def tmV (p : Nat) (row : List Nat) (a b : Nat) : Nat := numL p (tmL p row a b)
theorem tm_facts {p : Nat} {row : List Nat} (O : FOk p row) (a b : Nat) : (tmL p row a b).length ≤ row.length - 1 ∧ ∀ x ∈ tmL p row a b, x < p := by
  have hl2 := O.l2
  have hl6 := O.l6
  have hp : 1 ≤ p := Nat.le_trans (by decide) O.p2
  obtain ⟨h1, h2, _⟩ := restF_facts (p := p) (b := row) (l := trimL (convL p (digN p (row.length - 1) a) (digN p (row.length - 1) b))) (d := row.length - 1) hp (by omega) (by omega) O.top (Nat.le_trans (conv_le ..) (by rw [digN_len, digN_len]; omega)) (conv_lt hp _ _)
  exact ⟨Nat.le_trans (trim_le _) h1, fun x hx => h2 x (trim_mem hx)⟩
theorem tm_lt {p : Nat} {row : List Nat} (O : FOk p row) (a b : Nat) : tmV p row a b < p ^ (row.length - 1) := by
  obtain ⟨h1, h2⟩ := tm_facts O a b
  have hp : 1 ≤ p := Nat.le_trans (by decide) O.p2
  exact Nat.lt_of_lt_of_le (numL_lt hp h2) (Nat.pow_le_pow_right hp h1)
def plV (p : Nat) (row : List Nat) (a b : Nat) : Nat := joinV p 1 (row.length - 1) a b
theorem pl_lt {p : Nat} {row : List Nat} (O : FOk p row) (a b : Nat) : plV p row a b < p ^ (row.length - 1) := joinV_lt (Nat.le_trans (by decide) O.p2)
def spBin (C : Addr) (g : Nat → List Nat → Nat → Nat → Nat) : Sp := fun vs H Q _ => ∃ (f : Addr) (p a b : Nat) (row : List Nat), vs = [.ref f, .int ((a : Nat) : Int), .int ((b : Nat) : Int)] ∧ FieldAt C H f p row ∧ FOk p row ∧ a < p ^ (row.length - 1) ∧ b < p ^ (row.length - 1) ∧ ∀ H', Same H H' → Q (.int ((g p row a b : Nat) : Int)) H'
theorem scMPlus : FnScope ["self", "a", "b"] ["self", "a", "b"] (defScope sMPlus) := ⟨rfl, rfl, rfl, by decide +kernel, rfl, by decide +kernel, by decide +kernel⟩
theorem ok_plus {f : Addr} {fd : FuncData} (F : Fun K "plus" "Field.plus" sMPlus f fd) (Z : FieldK K C) (pHave : Mp P w K mg base CX0 3 C "must_have" ["self", "thing"] (spHave C)) (pJoined : Pm P w K mg base CX0 1 "joined" ["p", "a", "b", "sign"] spJoin) : FnOk P w K mg base CX0 4 f fd ["self", "a", "b"] (spBin C plV) := by
  refine F.okQ scMPlus (fun vs H Q E h => ?_) (fun cdv A outer s H vs Q E hr3 h => ?_)
  · obtain ⟨f, p, a, b, row, rfl, _⟩ := h
    rfl
  · obtain ⟨f, p, a, b, row, rfl, hF, O, ha, hb, q⟩ := h
    have hr1 := hr3.mono (show 1 ≤ 3 by decide)
    obtain ⟨dx, r, hf, hr'⟩ := id hF
    have hl6 := O.l6
    have hp2 := O.p2
    refine ⟨_, (qss_cons (qs_expr (qe_methP pHave Z.cl hr3 (qv 0) pass0 (qac (qv 1) qa_nil))) (qss_cons (qs_expr (qe_methP pHave Z.cl hr3 (qv 0) pass0 (qac (qv 2) qa_nil)))
      (qss_one (qs_ret (qe_callP pJoined hr1 rfl pass0 (qac (qe_fld (qv 0) rfl) (qac (qv 1) (qac (qv 2) (qac qe_int qa_nil))))))))), ?_⟩
    refine ⟨_, rfl, f, dx, _, rfl, hf, fld_no _ _ _ (by decide +kernel) (by decide +kernel) (by decide +kernel), _, rfl, f, p, a, row, rfl, hF, ha, ?_⟩
    refine ⟨_, rfl, f, dx, _, rfl, hf, fld_no _ _ _ (by decide +kernel) (by decide +kernel) (by decide +kernel), _, rfl, f, p, b, row, rfl, hF, hb, ?_⟩
    refine ⟨_, rfl, f, C, dx, _, _, rfl, hf, Z.cl, Z.a2, fld_prime .., _, rfl, _, rfl, p, row.length - 1, a, b, 1, rfl, hp2, O.p31, by omega, ha, hb, .inl rfl, q _ (Same.refl _)⟩
theorem scMTimes : FnScope ["self", "a", "b", "product"] ["self", "a", "b"] (defScope sMTimes) := ⟨rfl, rfl, rfl, by decide +kernel, rfl, by decide +kernel, by decide +kernel⟩
theorem ok_timesM {f : Addr} {fd : FuncData} (F : Fun K "times" "Field.times" sMTimes f fd) (Z : FieldK K C) (pHave : Mp P w K mg base CX0 3 C "must_have" ["self", "thing"] (spHave C)) (pDigitsOf : Pm P w K mg base CX0 1 "digits_of" ["p", "number"] spDigG) (pRowTimes : Pm P w K mg base CX0 2 "row_times" ["p", "one", "other"] spProd) (pRowRest : Pm P w K mg base CX0 2 "row_rest" ["p", "one", "by"] spRest) (pNumberOf : Pm P w K mg base CX0 1 "number_of" ["p", "digits"] spNum) : FnOk P w K mg base CX0 4 f fd ["self", "a", "b"] (spBin C tmV) := by
  refine F.okQ scMTimes (fun vs H Q E h => ?_) (fun cdv A outer s H vs Q E hr3 h => ?_)
  · obtain ⟨f, p, a, b, row, rfl, _⟩ := h
    rfl
  · obtain ⟨f, p, a, b, row, rfl, hF, O, ha, hb, q⟩ := h
    have hr1 := hr3.mono (show 1 ≤ 3 by decide)
    have hr2 := hr3.mono (show 2 ≤ 3 by decide)
    obtain ⟨dx, r, hf, hr'⟩ := id hF
    have hl6 := O.l6
    have hl2 := O.l2
    have hp2 := O.p2
    have hp31 := O.p31
    refine ⟨_, (qss_cons (qs_expr (qe_methP pHave Z.cl hr3 (qv 0) pass0 (qac (qv 1) qa_nil))) (qss_cons (qs_expr (qe_methP pHave Z.cl hr3 (qv 0) pass0 (qac (qv 2) qa_nil)))
      (qss_cons (qs_set (i := 3) scMTimes.nd rfl (Or.inl rfl) (qe_callP pRowTimes hr2 rfl pass0 (qac (qe_fld (qv 0) rfl) (qac (qe_callP pDigitsOf hr1 rfl pass0 (qac (qe_fld (qv 0) rfl) (qac (qv 1) qa_nil))) (qac (qe_callP pDigitsOf hr1 rfl pass0 (qac (qe_fld (qv 0) rfl) (qac (qv 2) qa_nil))) qa_nil)))))
      (qss_one (qs_ret (qe_callP pNumberOf hr1 rfl pass0 (qac (qe_fld (qv 0) rfl) (qac (qe_callP pRowRest hr2 rfl pass0 (qac (qe_fld (qv 0) rfl) (qac (qv 3) (qac (qe_fld (qv 0) rfl) qa_nil)))) qa_nil)))))))), ?_⟩
    refine ⟨_, rfl, f, dx, _, rfl, hf, fld_no _ _ _ (by decide +kernel) (by decide +kernel) (by decide +kernel), _, rfl, f, p, a, row, rfl, hF, ha, ?_⟩
    refine ⟨_, rfl, f, dx, _, rfl, hf, fld_no _ _ _ (by decide +kernel) (by decide +kernel) (by decide +kernel), _, rfl, f, p, b, row, rfl, hF, hb, ?_⟩
    refine ⟨_, rfl, f, C, dx, _, _, rfl, hf, Z.cl, Z.a2, fld_prime .., ?_⟩
    refine ⟨_, rfl, f, C, dx, _, _, rfl, hf, Z.cl, Z.a2, fld_prime .., _, rfl, p, a, row.length - 1, rfl, hp2, hp31, by omega, ha, fun t1 H1 ht1 s1 h1 => ?_⟩
    refine ⟨_, rfl, f, C, dx, _, _, rfl, s1 _ _ hf, Z.cl, Z.a2, fld_prime .., _, rfl, p, b, row.length - 1, rfl, hp2, hp31, by omega, hb, fun t2 H2 ht2 s2 h2 => ?_⟩
    have dl : ∀ n, (trimL (digN p (row.length - 1) n)).length ≤ 5 := fun n => Nat.le_trans (trim_le _) (by rw [digN_len]; omega)
    have dlt : ∀ n, ∀ x ∈ trimL (digN p (row.length - 1) n), x < 32 := fun n x hx => Nat.lt_trans (digN_lt (by omega) _ _ x (trim_mem hx)) (by omega)
    refine ⟨t1, t2, p, _, _, rfl, s2 _ _ h1, h2, by omega, hp31, Nat.le_trans (dl a) (by decide), Nat.le_trans (dl b) (by decide), dlt a, dlt b, fun t3 H3 ht3 s3 h3 => ?_⟩
    rw [conv_trim (by omega)] at h3
    have s13 := s1.trans (s2.trans s3)
    have hpl : ∀ x ∈ trimL (convL p (digN p (row.length - 1) a) (digN p (row.length - 1) b)), x < p := conv_lt (by omega) _ _
    refine ⟨_, rfl, f, C, dx, _, _, rfl, s13 _ _ hf, Z.cl, Z.a2, fld_prime .., ?_⟩
    refine ⟨_, rfl, f, C, dx, _, _, rfl, s13 _ _ hf, Z.cl, Z.a2, fld_prime .., _, rfl, _, rfl, f, C, dx, _, _, rfl, s13 _ _ hf, Z.cl, Z.a3, fld_row .., ?_⟩
    refine ⟨t3, r, p, _, row, rfl, h3, s13 _ _ hr', by omega, hp31, Nat.le_trans (conv_le ..) (by rw [digN_len, digN_len]; omega), by omega, by omega, fun x hx => by have := hpl x hx; omega, fun t4 H4 ht4 s4 h4 => ?_⟩
    obtain ⟨f1, f2⟩ := tm_facts O a b
    exact ⟨t4, p, _, rfl, h4, by omega, hp31, Nat.le_trans f1 (by omega), f2, q _ (s13.trans s4)⟩
def nF (p : Nat) (row : List Nat) : Nat := p ^ (row.length - 1)
theorem map_snoc {α : Type} (f : Nat → α) (i : Nat) : (List.range (i + 1)).map f = (List.range i).map f ++ [f i] := by rw [List.range_succ, List.map_append]; rfl
def PrL : List Nat := [2, 2, 3, 2, 3, 5, 7, 2, 11, 13, 17, 19, 23, 29, 31, 5]
theorem prL_all : ∀ p ∈ PrL, 2 ≤ p ∧ p ≤ 31 ∧ ∀ d, d < 32 → d ∣ p → d = 1 ∨ d = p := by decide +kernel
theorem prL_pr {p : Nat} (hp : p ∈ PrL) : EM.IsPr p := by
  obtain ⟨h1, h2, h3⟩ := prL_all p hp
  exact ⟨h1, fun d hd => h3 d (by have := Nat.le_of_dvd (by omega) hd; omega) hd⟩
theorem dv_one (p x : Nat) : Dv p (fac p 1 x) none := fun s y h1 h2 _ => by
  rw [fac_len] at h2
  omega
theorem dv_of {p n x : Nat} (h : ((List.range (n / 2)).all fun s => (List.range (p ^ (s + 1))).all fun y => !(trimL (restF p (fac p (s + 1) y) (fac p n x))).isEmpty) = true) : Dv p (fac p n x) none := fun s y h1 h3 h4 z => by
  rw [fac_len] at h3
  rw [List.all_eq_true] at h
  have h5 := h (s - 1) (List.mem_range.mpr (by omega))
  rw [List.all_eq_true] at h5
  rw [show s - 1 + 1 = s by omega] at h5
  have h6 := h5 y (List.mem_range.mpr h4)
  rw [z] at h6
  simp at h6
theorem irr22 : Dv 2 (fac 2 2 3) none := dv_of (by decide +kernel)
theorem irr23 : Dv 2 (fac 2 3 3) none := dv_of (by decide +kernel)
theorem irr24 : Dv 2 (fac 2 4 3) none := dv_of (by decide +kernel)
theorem irr25 : Dv 2 (fac 2 5 5) none := dv_of (by decide +kernel)
theorem irr32 : Dv 3 (fac 3 2 1) none := dv_of (by decide +kernel)
theorem irr33 : Dv 3 (fac 3 3 7) none := dv_of (by decide +kernel)
theorem irr52 : Dv 5 (fac 5 2 2) none := dv_of (by decide +kernel)
theorem irr_ex {p n : Nat} (hp : p ∈ PrL) (h1 : 1 ≤ n) (h5 : n ≤ 5) (hf : p ^ n ≤ 32) : ∃ s0, s0 < p ^ n ∧ Dv p (fac p n s0) none := by
  obtain ⟨hp2, hp31, _⟩ := prL_all p hp
  by_cases e : n = 1
  · subst e
    exact ⟨0, by rw [Nat.pow_one]; omega, dv_one p 0⟩
  have hp5 : p ≤ 5 := by
    rcases Nat.lt_or_ge 5 p with z | z
    · exfalso
      have : 6 ^ 2 ≤ p ^ n := Nat.le_trans (Nat.pow_le_pow_left z 2) (Nat.pow_le_pow_right (by omega) (by omega))
      omega
    · exact z
  have hp235 : p = 2 ∨ p = 3 ∨ p = 5 := by
    have : ∀ p ∈ PrL, p ≤ 5 → p = 2 ∨ p = 3 ∨ p = 5 := by decide
    exact this p hp hp5
  have hn : n = 2 ∨ n = 3 ∨ n = 4 ∨ n = 5 := by omega
  rcases hp235 with rfl | rfl | rfl
  · rcases hn with rfl | rfl | rfl | rfl
    · exact ⟨3, by decide, irr22⟩
    · exact ⟨3, by decide, irr23⟩
    · exact ⟨3, by decide, irr24⟩
    · exact ⟨5, by decide, irr25⟩
  · rcases hn with rfl | rfl | rfl | rfl
    · exact ⟨1, by decide, irr32⟩
    · exact ⟨7, by decide, irr33⟩
    · exact absurd hf (by decide)
    · exact absurd hf (by decide)
  · rcases hn with rfl | rfl | rfl | rfl
    · exact ⟨2, by decide, irr52⟩
    · exact absurd hf (by decide)
    · exact absurd hf (by decide)
    · exact absurd hf (by decide)
theorem fac_ok {p n x : Nat} (hp : p ∈ PrL) (h1 : 1 ≤ n) (h5 : n ≤ 5) (hf : p ^ n ≤ 32) (hd : Dv p (fac p n x) none) : FOk p (fac p n x) := by
  obtain ⟨hp2, hp31, _⟩ := prL_all p hp
  refine ⟨hp2, hp31, prL_pr hp, by rw [fac_len]; omega, by rw [fac_len]; omega, fun y hy => ?_, ?_, by rw [fac_len]; exact hf, hd⟩
  · unfold fac at hy
    rcases List.mem_append.mp hy with z | z
    · exact digN_lt (by omega) _ _ y z
    · rw [List.mem_singleton.mp z]
      omega
  · rw [fac_len, Nat.add_sub_cancel]
    unfold fac
    rw [List.getD_eq_getElem?_getD, List.getElem?_append_right (by rw [digN_len]; exact Nat.le_refl _), digN_len, Nat.sub_self]
    rfl
/-- how far it is to s0, going up and round by N -/
def far (N s0 s : Nat) : Nat := if s ≤ s0 then s0 - s else s0 + N - s
theorem far_step {N s0 s : Nat} (h0 : s0 < N) (hs : s < N) (hne : s ≠ s0) : far N s0 ((s + 1) % N) < far N s0 s := by
  unfold far
  by_cases e : s + 1 = N
  · rw [e, Nat.mod_self, if_pos (Nat.zero_le _)]
    by_cases c : s ≤ s0
    · rw [if_pos c]
      omega
    · rw [if_neg c]
      omega
  · rw [Nat.mod_eq_of_lt (by omega)]
    by_cases c : s ≤ s0
    · rw [if_pos c, if_pos (by omega)]
      omega
    · rw [if_neg c, if_neg (by omega)]
      omega
/-! each number but 0 of a field has a back: gone through, by tables -/
def invT : List (Nat × Nat × List (List Nat)) := [(2, 1, List.replicate 2 [0, 1]), (2, 2, [[], [], [], [0, 1, 3, 2]]), (2, 3, [[], [], [], [0, 1, 5, 6, 7, 2, 3, 4], [], [0, 1, 6, 4, 3, 7, 2, 5], [], []]), (2, 4, [[], [], [], [0, 1, 9, 14, 13, 11, 7, 6, 15, 2, 12, 5, 10, 4, 3, 8], [], [], [], [], [], [0, 1, 12, 8, 6, 15, 4, 14, 3, 13, 11, 10, 2, 9, 7, 5], [], [], [], [], [], [0, 1, 15, 10, 8, 6, 5, 9, 4, 7, 3, 14, 13, 12, 11, 2]]), (2, 5, [[], [], [], [], [], [0, 1, 18, 28, 9, 23, 14, 12, 22, 4, 25, 16, 7, 15, 6, 13, 11, 24, 2, 29, 30, 26, 8, 5, 17, 10, 21, 31, 3, 19, 20, 27], [], [], [], [0, 1, 20, 24, 10, 8, 12, 29, 5, 11, 4, 9, 6, 28, 26, 31, 22, 18, 17, 23, 2, 25, 16, 19, 3, 21, 14, 30, 13, 7, 27, 15], [], [], [], [], [], [0, 1, 23, 26, 28, 19, 13, 16, 14, 21, 30, 25, 17, 6, 8, 20, 7, 12, 29, 5, 15, 9, 27, 2, 31, 11, 3, 22, 4, 18, 10, 24], [], [], [], [], [], [], [], [0, 1, 27, 18, 22, 14, 9, 10, 11, 6, 7, 8, 31, 17, 5, 23, 30, 13, 3, 26, 24, 29, 4, 15, 20, 28, 19, 2, 25, 21, 16, 12], [], [], [], [0, 1, 29, 22, 19, 27, 11, 17, 20, 15, 16, 6, 24, 31, 21, 9, 10, 7, 26, 4, 8, 14, 3, 28, 12, 30, 18, 5, 23, 2, 25, 13], [], [0, 1, 30, 20, 15, 12, 10, 26, 25, 29, 6, 27, 5, 14, 13, 4, 18, 23, 16, 22, 3, 31, 19, 17, 28, 8, 7, 11, 24, 9, 2, 21], [], []]), (3, 1, List.replicate 3 [0, 1, 2]), (3, 2, [[], [0, 1, 2, 6, 5, 4, 3, 8, 7], [], [], [], [0, 1, 2, 4, 3, 7, 8, 5, 6], [], [], [0, 1, 2, 5, 8, 3, 7, 6, 4]]), (3, 3, [[], [], [], [], [], [], [], [0, 1, 2, 19, 21, 24, 11, 12, 15, 25, 23, 6, 7, 22, 18, 8, 20, 26, 14, 3, 16, 4, 13, 10, 5, 9, 17], [0, 1, 2, 11, 15, 12, 19, 24, 21, 22, 26, 3, 5, 20, 23, 4, 25, 18, 17, 6, 13, 8, 9, 14, 7, 16, 10], [], [], [0, 1, 2, 12, 9, 22, 24, 17, 18, 4, 15, 26, 3, 19, 16, 10, 14, 7, 8, 13, 21, 20, 5, 25, 6, 23, 11], [], [], [0, 1, 2, 13, 20, 15, 26, 21, 10, 17, 8, 14, 23, 3, 11, 5, 24, 9, 22, 25, 4, 7, 18, 12, 16, 19, 6], [], [0, 1, 2, 25, 11, 16, 14, 23, 19, 21, 13, 4, 17, 10, 6, 18, 5, 12, 15, 8, 26, 9, 24, 7, 22, 3, 20], [], [], [0, 1, 2, 21, 14, 18, 15, 9, 25, 7, 12, 23, 10, 17, 4, 6, 19, 13, 5, 16, 24, 3, 26, 11, 20, 8, 22], [], [], [0, 1, 2, 23, 24, 10, 16, 20, 12, 14, 5, 17, 8, 21, 9, 26, 6, 11, 25, 22, 7, 13, 19, 3, 4, 18, 15], [], [], [], [0, 1, 2, 17, 26, 19, 22, 11, 13, 24, 16, 7, 18, 8, 15, 14, 10, 3, 12, 5, 23, 25, 6, 20, 9, 21, 4]]), (5, 1, List.replicate 5 [0, 1, 3, 2, 4]), (5, 2, [[], [], [0, 1, 3, 2, 4, 10, 17, 22, 23, 18, 5, 14, 21, 24, 11, 20, 19, 6, 9, 16, 15, 12, 7, 8, 13], [0, 1, 3, 2, 4, 15, 9, 11, 14, 6, 20, 7, 17, 18, 8, 5, 22, 12, 13, 23, 10, 24, 16, 19, 21], [], [], [0, 1, 3, 2, 4, 24, 20, 17, 11, 16, 12, 8, 10, 23, 21, 18, 9, 7, 15, 22, 6, 14, 19, 13, 5], [0, 1, 3, 2, 4, 12, 10, 9, 19, 7, 6, 22, 5, 16, 17, 24, 13, 14, 20, 8, 18, 23, 11, 21, 15], [], [], [], [], [], [0, 1, 3, 2, 4, 16, 12, 15, 21, 22, 23, 13, 6, 11, 20, 7, 5, 19, 24, 17, 14, 8, 9, 10, 18], [0, 1, 3, 2, 4, 7, 18, 5, 13, 11, 16, 9, 24, 8, 15, 14, 10, 22, 6, 21, 23, 19, 17, 20, 12], [], [], [], [0, 1, 3, 2, 4, 19, 23, 24, 15, 13, 22, 20, 14, 9, 12, 8, 18, 21, 16, 5, 11, 17, 10, 6, 7], [0, 1, 3, 2, 4, 8, 14, 12, 5, 17, 19, 15, 7, 21, 6, 11, 24, 9, 23, 10, 22, 13, 20, 18, 16], [], [0, 1, 3, 2, 4, 21, 19, 14, 18, 20, 13, 24, 22, 10, 7, 17, 23, 15, 8, 6, 9, 5, 12, 16, 11], [0, 1, 3, 2, 4, 13, 8, 16, 6, 10, 9, 18, 19, 5, 23, 21, 7, 20, 11, 12, 17, 15, 24, 14, 22], [], []]), (7, 1, List.replicate 7 [0, 1, 4, 5, 2, 3, 6]), (11, 1, List.replicate 11 [0, 1, 6, 4, 3, 9, 2, 8, 7, 5, 10]), (13, 1, List.replicate 13 [0, 1, 7, 9, 10, 8, 11, 2, 5, 3, 4, 6, 12]), (17, 1, List.replicate 17 [0, 1, 9, 6, 13, 7, 3, 5, 15, 2, 12, 14, 10, 4, 11, 8, 16]), (19, 1, List.replicate 19 [0, 1, 10, 13, 5, 4, 16, 11, 12, 17, 2, 7, 8, 3, 15, 14, 6, 9, 18]), (23, 1, List.replicate 23 [0, 1, 12, 8, 6, 14, 4, 10, 3, 18, 7, 21, 2, 16, 5, 20, 13, 19, 9, 17, 15, 11, 22]), (29, 1, List.replicate 29 [0, 1, 15, 10, 22, 6, 5, 25, 11, 13, 3, 8, 17, 9, 27, 2, 20, 12, 21, 26, 16, 18, 4, 24, 23, 7, 19, 14, 28]), (31, 1, List.replicate 31 [0, 1, 16, 21, 8, 25, 26, 9, 4, 7, 28, 17, 13, 12, 20, 29, 2, 11, 19, 18, 14, 3, 24, 27, 22, 5, 6, 23, 10, 15, 30])]
def redB (p n x : Nat) : Bool := (List.range (n / 2)).any fun s => (List.range (p ^ (s + 1))).any fun y => (trimL (restF p (fac p (s + 1) y) (fac p n x))).isEmpty
def invB (p n : Nat) (T : List (List Nat)) : Bool := (List.range (p ^ n)).all fun x => redB p n x || (List.range (p ^ n)).all fun a => decide (a = 0) || (decide ((T.getD x []).getD a 0 < p ^ n) && decide (tmV p (fac p n x) a ((T.getD x []).getD a 0) = 1))
theorem inv_all : (invT.all fun t => invB t.1 t.2.1 t.2.2) = true := by decide +kernel
def prB (p : Nat) : Bool := decide (2 ≤ p) && (List.range 32).all fun d => !(decide (p % d = 0)) || decide (d = 1) || decide (d = p) || decide (d = 0)
theorem inv_keyB : ((List.range 32).all fun p => (List.range 6).all fun n => decide (n = 0) || !decide (p ^ n ≤ 32) || !prB p || invT.any fun t => decide (t.1 = p) && decide (t.2.1 = n)) = true := by decide +kernel
theorem inv_key {p n : Nat} (hp : p < 32) (hn : n < 6) (h1 : 1 ≤ n) (hf : p ^ n ≤ 32) (hb : prB p = true) : ∃ t ∈ invT, t.1 = p ∧ t.2.1 = n := by
  have h := (List.all_eq_true.mp ((List.all_eq_true.mp inv_keyB) p (List.mem_range.mpr hp))) n (List.mem_range.mpr hn)
  rw [decide_eq_false (show ¬ n = 0 by omega), decide_eq_true hf, hb] at h
  obtain ⟨t, ht, h⟩ := List.any_eq_true.mp h
  rw [Bool.and_eq_true] at h
  exact ⟨t, ht, of_decide_eq_true h.1, of_decide_eq_true h.2⟩
theorem digN_num {p : Nat} (hp : 0 < p) : ∀ {l : List Nat}, (∀ x ∈ l, x < p) → digN p l.length (numL p l) = l
  | [], _ => rfl
  | d :: l, h => by
    have hd := h d (List.mem_cons_self ..)
    have ih := digN_num hp (l := l) fun x hx => h x (List.mem_cons_of_mem _ hx)
    rw [List.length_cons, digN, numL, Nat.mul_comm, Nat.mul_add_mod, Nat.mod_eq_of_lt hd, Nat.mul_add_div hp, Nat.div_eq_of_lt hd, Nat.add_zero, ih]
theorem inv_tab {p n x a : Nat} (hp : prB p = true) (hp31 : p ≤ 31) (h1 : 1 ≤ n) (h5 : n ≤ 5) (hf : p ^ n ≤ 32) (hx : x < p ^ n) (hr : redB p n x = false) (h0 : a ≠ 0) (ha : a < p ^ n) : ∃ b, b < p ^ n ∧ tmV p (fac p n x) a b = 1 := by
  obtain ⟨⟨p', n', T⟩, ht, e1, e2⟩ := inv_key (by omega) (by omega) h1 hf hp
  simp only at e1 e2
  subst e1 e2
  have h := (List.all_eq_true.mp inv_all) _ ht
  have h2 := (List.all_eq_true.mp h) x (List.mem_range.mpr hx)
  rw [hr, Bool.false_or] at h2
  have h3 := (List.all_eq_true.mp h2) a (List.mem_range.mpr ha)
  rw [decide_eq_false h0, Bool.false_or, Bool.and_eq_true] at h3
  exact ⟨_, of_decide_eq_true h3.1, of_decide_eq_true h3.2⟩
theorem sumP_dig0 (p c : Nat) : ∀ d, sumP p (fun i => c / p ^ i % p) d = c % p ^ d
  | 0 => by rw [sumP, Nat.pow_zero, Nat.mod_one]
  | d + 1 => by rw [sumP, sumP_dig0 p c d, Nat.mod_pow_succ, Nat.mul_comm (p ^ d)]
theorem sumP_at {p : Nat} {c : Nat → Nat} {d i : Nat} (hp : 0 < p) (h : ∀ i, c i < p) (hi : i < d) : sumP p c d / p ^ i % p = c i := by
  have e : digN p d (sumP p c d) = (List.range d).map c := by
    have := digN_num hp (l := (List.range d).map c) fun x hx => by
      obtain ⟨j, _, rfl⟩ := List.mem_map.mp hx
      exact h j
    rw [List.length_map, List.length_range, numL_map] at this
    exact this
  have h1 := digN_get p d (sumP p c d) i
  rw [e, if_pos hi] at h1
  rw [← h1, List.getD_eq_getElem?_getD, List.getElem?_map, List.getElem?_range hi]
  rfl
theorem IsPr_b {p : Nat} (h : EM.IsPr p) (h31 : p ≤ 31) : prB p = true := by
  unfold prB
  rw [Bool.and_eq_true]
  refine ⟨decide_eq_true h.1, List.all_eq_true.mpr fun d _ => ?_⟩
  by_cases hm : p % d = 0
  · rcases h.2 d (Nat.dvd_of_mod_eq_zero hm) with e | e <;> simp [e]
  · simp [hm]
theorem row_fac {p : Nat} {row : List Nat} (O : FOk p row) : ∃ x, x < p ^ (row.length - 1) ∧ row = fac p (row.length - 1) x := by
  have hp2 := O.p2
  have hl2 := O.l2
  have hne : row ≠ [] := fun z => by
    rw [z] at hl2
    exact absurd hl2 (by decide)
  have hd : ∀ y ∈ row.dropLast, y < p := fun y hy => O.lt y ((List.dropLast_sublist row).subset hy)
  have e1 : digN p (row.length - 1) (numL p row.dropLast) = row.dropLast := by
    have := digN_num (show 0 < p by omega) hd
    rw [List.length_dropLast] at this
    exact this
  refine ⟨numL p row.dropLast, ?_, ?_⟩
  · have := numL_lt (show 1 ≤ p by omega) hd
    rw [List.length_dropLast] at this
    exact this
  · unfold fac
    rw [e1]
    have ht := O.top
    rw [List.getD_eq_getElem?_getD, List.getElem?_eq_getElem (show row.length - 1 < row.length by omega)] at ht
    have e2 : row.getLast hne = 1 := by
      rw [List.getLast_eq_getElem]
      exact ht
    rw [← e2]
    exact (List.dropLast_concat_getLast hne).symm
theorem inv_ex {p : Nat} {row : List Nat} (O : FOk p row) {a : Nat} (h0 : a ≠ 0) (ha : a < nF p row) : ∃ b, b < nF p row ∧ tmV p row a b = 1 := by
  obtain ⟨x, hx, e⟩ := row_fac O
  have hl2 := O.l2
  have hl6 := O.l6
  have hr : redB p (row.length - 1) x = false := by
    refine Bool.eq_false_iff.mpr fun z => ?_
    unfold redB at z
    obtain ⟨s, hs, z⟩ := List.any_eq_true.mp z
    obtain ⟨y, hy, z⟩ := List.any_eq_true.mp z
    rw [← e] at z
    exact O.no (s + 1) y (by omega) (by have := List.mem_range.mp hs; omega) (List.mem_range.mp hy) (List.isEmpty_iff.mp z)
  have h := inv_tab (IsPr_b O.pr O.p31) O.p31 (show 1 ≤ row.length - 1 by omega) (by omega) O.few hx hr h0 ha
  rw [← e] at h
  exact h
def mnV (p : Nat) (row : List Nat) (a b : Nat) : Nat := joinV p (-1) (row.length - 1) a b
theorem mn_lt {p : Nat} {row : List Nat} (O : FOk p row) (a b : Nat) : mnV p row a b < nF p row := joinV_lt (Nat.le_trans (by decide) O.p2)
theorem join_dig {p : Nat} {sg : Int} {d a b i : Nat} (hp : 1 ≤ p) (hi : i < d) : joinV p sg d a b / p ^ i % p = cj p sg a b i := sumP_at hp (fun i => (cj_int hp sg a b i).2) hi
theorem join_undo {p : Nat} {sg : Int} {d a b : Nat} (hp : 1 ≤ p) (ha : a < p ^ d) : joinV p (-sg) d (joinV p sg d a b) b = a := by
  have h : ∀ i, i < d → cj p (-sg) (joinV p sg d a b) b i = a / p ^ i % p := fun i hi => by
    have h1 := (cj_int hp (-sg) (joinV p sg d a b) b i).1
    have h2 := join_dig (sg := sg) (a := a) (b := b) hp hi
    have h3 := (cj_int hp sg a b i).1
    have e : ((cj p (-sg) (joinV p sg d a b) b i : Nat) : Int) = ((a / p ^ i % p : Nat) : Int) := by
      rw [← h1, ← Int.emod_add_emod, ← Int.natCast_emod, h2, ← h3, Int.emod_add_emod, Int.natCast_emod]
      congr 1
      rw [Int.neg_mul]
      omega
    exact Int.ofNat.inj e
  rw [show joinV p (-sg) d (joinV p sg d a b) b = sumP p (cj p (-sg) (joinV p sg d a b) b) d from rfl, sumP_congr h, sumP_dig0, Nat.mod_eq_of_lt ha]
theorem pl_mn {p : Nat} {row : List Nat} (O : FOk p row) {a b : Nat} (ha : a < nF p row) : plV p row (mnV p row a b) b = a := join_undo (sg := -1) (Nat.le_trans (by decide) O.p2) ha
theorem mn_pl {p : Nat} {row : List Nat} (O : FOk p row) {a b : Nat} (ha : a < nF p row) : mnV p row (plV p row a b) b = a := join_undo (sg := 1) (Nat.le_trans (by decide) O.p2) ha
/-- the numbers below n of which f is true -/
def fltL (f : Nat → Bool) (n : Nat) : List Nat := (List.range n).filter f
theorem flt_snoc (f : Nat → Bool) (i : Nat) : fltL f (i + 1) = fltL f i ++ if f i = true then [i] else [] := by
  unfold fltL
  rw [List.range_succ, List.filter_append]
  by_cases h : f i = true <;> simp [h]
theorem flt_le (f : Nat → Bool) (n : Nat) : (fltL f n).length ≤ n := Nat.le_trans (List.length_filter_le ..) (by rw [List.length_range]; exact Nat.le_refl _)
/-! the numbers of a field by their digits: sums, products, the rules of a ring -/
/-- a number's digit -/
def dg (p a k : Nat) : Int := ((a / p ^ k % p : Nat) : Int)
theorem sumTo_mulR (c : Int) (f : Nat → Int) (n : Nat) : sumTo n (fun i => f i * c) = sumTo n f * c := by
  rw [Int.mul_comm, ← sumTo_mul]
  exact sumTo_congr fun i _ => Int.mul_comm _ _
theorem Cg.mulL {p : Nat} {x y : Int} (h : Cg p x y) (z : Int) : Cg p (z * x) (z * y) := by
  rw [Int.mul_comm z x, Int.mul_comm z y]
  exact h.mul z
theorem dg_ext {p d a b : Nat} (hp : 0 < p) (ha : a < p ^ d) (hb : b < p ^ d) (h : ∀ k, k < d → Cg p (dg p a k) (dg p b k)) : a = b := by
  have e : ∀ k, k < d → a / p ^ k % p = b / p ^ k % p := fun k hk => (h k hk).eq (Nat.mod_lt _ hp) (Nat.mod_lt _ hp)
  have h1 := sumP_dig0 p a d
  have h2 := sumP_dig0 p b d
  rw [Nat.mod_eq_of_lt ha] at h1
  rw [Nat.mod_eq_of_lt hb] at h2
  rw [← h1, ← h2]
  exact sumP_congr e
theorem dg_pl {p : Nat} {row : List Nat} (hp : 1 ≤ p) (a b : Nat) {k : Nat} (hk : k < row.length - 1) : Cg p (dg p (plV p row a b) k) (dg p a k + dg p b k) := by
  have h1 := join_dig (sg := 1) (a := a) (b := b) hp hk
  have h2 := (cj_int hp 1 a b k).1
  unfold dg plV
  rw [h1, ← h2, Int.one_mul]
  refine (Cg.mod _).trans ?_
  refine Cg.add ?_ ?_
  · rw [Int.natCast_emod]
    exact (Cg.mod _).symm
  · rw [Int.natCast_emod]
    exact (Cg.mod _).symm
theorem dig_getD {p d a j : Nat} : (((digN p d a).getD j 0 : Nat) : Int) = if j < d then dg p a j else 0 := by
  rw [digN_get]
  unfold dg
  by_cases h : j < d
  · rw [if_pos h, if_pos h]
  · rw [if_neg h, if_neg h]
    rfl
theorem numL_dg {p : Nat} (hp : 0 < p) {l : List Nat} (hl : ∀ x ∈ l, x < p) (k : Nat) : dg p (numL p l) k = ((l.getD k 0 : Nat) : Int) := by
  unfold dg
  congr 1
  have h := digN_get p l.length (numL p l) k
  rw [digN_num hp hl] at h
  by_cases hk : k < l.length
  · rw [if_pos hk] at h
    exact h.symm
  · rw [getD_out (by omega)]
    have h2 : numL p l / p ^ k = 0 := Nat.div_eq_of_lt (Nat.lt_of_lt_of_le (numL_lt hp hl) (Nat.pow_le_pow_right hp (by omega)))
    rw [h2, Nat.zero_mod]
/-- the k-th digit of a product -/
def mulD (p : Nat) (row : List Nat) (k a b : Nat) : Int := sumTo (row.length - 1) fun j => sumTo (row.length - 1) fun m => dg p a j * dg p b m * Xv row (row.length - 1) k (j + m)
theorem ev_conv {p : Nat} {b : List Nat} {d k : Nat} (A B : List Nat) (hA : A.length = d) (hB : B.length = d) (hd : d ≤ 20) : Cg p (Ev b d k (convL p A B)) (sumTo d fun j => sumTo d fun m => ((A.getD j 0 : Nat) : Int) * ((B.getD m 0 : Nat) : Int) * Xv b d k (j + m)) := by
  unfold Ev
  refine (Cg.sum fun i _ => (conv_cg A B i).mul _).trans (Cg.of_eq ?_)
  rw [hA]
  rw [show (sumTo 60 fun i => (sumTo d fun j => ((A.getD j 0 : Nat) : Int) * bsI B j i) * Xv b d k i) = sumTo 60 fun i => sumTo d fun j => ((A.getD j 0 : Nat) : Int) * bsI B j i * Xv b d k i from sumTo_congr fun i _ => (sumTo_mulR _ _ _).symm]
  rw [sumTo_swap]
  refine sumTo_congr fun j hj => ?_
  have e1 : (sumTo 60 fun i => ((A.getD j 0 : Nat) : Int) * bsI B j i * Xv b d k i) = sumTo (j + (60 - j)) fun i => if j ≤ i then ((A.getD j 0 : Nat) : Int) * ((B.getD (i - j) 0 : Nat) : Int) * Xv b d k i else 0 := by
    rw [show j + (60 - j) = 60 by omega]
    refine sumTo_congr fun i _ => ?_
    unfold bsI
    by_cases h : j ≤ i
    · rw [if_pos h, if_pos h]
    · rw [if_neg h, if_neg h, Int.mul_zero, Int.zero_mul]
  have e2 : ∀ n, (sumTo (j + n) fun i => if j ≤ i then ((A.getD j 0 : Nat) : Int) * ((B.getD (i - j) 0 : Nat) : Int) * Xv b d k i else 0) = sumTo n fun m => ((A.getD j 0 : Nat) : Int) * ((B.getD m 0 : Nat) : Int) * Xv b d k (j + m) := fun n => by
    rw [sumTo_shift j (fun i => ((A.getD j 0 : Nat) : Int) * ((B.getD (i - j) 0 : Nat) : Int) * Xv b d k i)]
    refine sumTo_congr fun m _ => ?_
    rw [show j + m - j = m by omega]
  rw [e1, e2, show 60 - j = d + (60 - j - d) by omega]
  refine sumTo_tail (fun m hm => ?_) _
  rw [getD_out (l := B) (by omega)]
  simp
theorem dg_tm {p : Nat} {row : List Nat} (O : FOk p row) (a b : Nat) {k : Nat} (hk : k < row.length - 1) : Cg p (dg p (tmV p row a b) k) (mulD p row k a b) := by
  have hp2 := O.p2
  have hl2 := O.l2
  have hl6 := O.l6
  have hb : row.length = row.length - 1 + 1 := by omega
  obtain ⟨t1, t2⟩ := tm_facts O a b
  unfold tmV
  rw [numL_dg (by omega) t2]
  unfold tmL
  rw [trim_at]
  have hcl := conv_le p (digN p (row.length - 1) a) (digN p (row.length - 1) b)
  rw [digN_len, digN_len] at hcl
  obtain ⟨f1, f2, f3⟩ := restF_facts (p := p) (b := row) (l := trimL (convL p (digN p (row.length - 1) a) (digN p (row.length - 1) b))) (d := row.length - 1) (by omega) (by omega) hb O.top (by omega) (conv_lt (by omega) _ _)
  have h1 := f3 k
  rw [ev_low (by omega) (by omega) f1 hk] at h1
  refine h1.trans ?_
  have e : Ev row (row.length - 1) k (trimL (convL p (digN p (row.length - 1) a) (digN p (row.length - 1) b))) = Ev row (row.length - 1) k (convL p (digN p (row.length - 1) a) (digN p (row.length - 1) b)) := sumTo_congr fun i _ => by rw [trim_at]
  rw [e]
  refine (ev_conv _ _ (digN_len ..) (digN_len ..) (by omega)).trans (Cg.of_eq ?_)
  unfold mulD
  refine sumTo_congr fun j hj => sumTo_congr fun m hm => ?_
  rw [dig_getD, dig_getD, if_pos hj, if_pos hm]
theorem tm_ext {p : Nat} {row : List Nat} (O : FOk p row) {a b c : Nat} (hc : c < nF p row) (h : ∀ k, k < row.length - 1 → Cg p (mulD p row k a b) (dg p c k)) : tmV p row a b = c :=
  dg_ext (Nat.lt_of_lt_of_le (by decide) O.p2) (tm_lt O a b) hc fun k hk => (dg_tm O a b hk).trans (h k hk)
theorem tm_comm {p : Nat} {row : List Nat} (O : FOk p row) (a b : Nat) : tmV p row a b = tmV p row b a := by
  refine tm_ext O (tm_lt O b a) fun k hk => Cg.trans (Cg.of_eq ?_) (dg_tm O b a hk).symm
  unfold mulD
  rw [sumTo_swap]
  refine sumTo_congr fun j _ => sumTo_congr fun m _ => ?_
  rw [Nat.add_comm m j, Int.mul_comm (dg p a m)]
theorem tm_add {p : Nat} {row : List Nat} (O : FOk p row) (a b c : Nat) : tmV p row a (plV p row b c) = plV p row (tmV p row a b) (tmV p row a c) := by
  have hp1 : 1 ≤ p := Nat.le_trans (by decide) O.p2
  refine tm_ext O (pl_lt O _ _) fun k hk => ?_
  refine Cg.trans ?_ (dg_pl hp1 _ _ hk).symm
  refine Cg.trans ?_ ((dg_tm O a b hk).add (dg_tm O a c hk)).symm
  unfold mulD
  rw [← sumTo_add]
  refine Cg.sum fun j _ => ?_
  rw [← sumTo_add]
  refine Cg.sum fun m hm => ?_
  rw [show dg p a j * dg p b m * Xv row (row.length - 1) k (j + m) + dg p a j * dg p c m * Xv row (row.length - 1) k (j + m) = dg p a j * (dg p b m + dg p c m) * Xv row (row.length - 1) k (j + m) by rw [Int.mul_add, Int.add_mul]]
  exact ((dg_pl hp1 b c hm).mulL _).mul _
theorem pl_comm {p : Nat} {row : List Nat} (O : FOk p row) (a b : Nat) : plV p row a b = plV p row b a := by
  have hp1 : 1 ≤ p := Nat.le_trans (by decide) O.p2
  refine dg_ext hp1 (pl_lt O _ _) (pl_lt O _ _) fun k hk => ?_
  refine (dg_pl hp1 a b hk).trans ?_
  rw [Int.add_comm]
  exact (dg_pl hp1 b a hk).symm
/-- a power of the unknown, put into powers -/
theorem Xv_mul {b : List Nat} {d k m : Nat} (hd : 1 ≤ d) : ∀ N n, n < N → sumTo d (fun j => Xv b d j n * Xv b d k (j + m)) = Xv b d k (n + m)
  | 0, n, h => by omega
  | N + 1, n, h => by
    by_cases hn : n < d
    · have e : sumTo d (fun j => Xv b d j n * Xv b d k (j + m)) = sumTo d fun j => Xv b d k (j + m) * if j = n then 1 else 0 := sumTo_congr fun j _ => by
        rw [Xv_low hd hn, Int.mul_comm]
        by_cases z : n = j
        · rw [if_pos z, if_pos z.symm]
        · rw [if_neg z, if_neg (Ne.symm z)]
      rw [e, sumTo_pick (fun j => Xv b d k (j + m)), if_pos hn]
    · obtain ⟨n', rfl⟩ : ∃ n', n = n' + d := ⟨n - d, by omega⟩
      have e : sumTo d (fun j => Xv b d j (n' + d) * Xv b d k (j + m)) = sumTo d fun j => sumTo d fun t => (-((b.getD t 0 : Nat) : Int)) * (Xv b d j (n' + t) * Xv b d k (j + m)) := sumTo_congr fun j _ => by
        rw [Xv_rec hd, Int.neg_mul, ← sumTo_mulR, ← Int.neg_one_mul, ← sumTo_mul]
        refine sumTo_congr fun t _ => ?_
        rw [← Int.mul_assoc, ← Int.mul_assoc, ← Int.mul_assoc, Int.neg_one_mul]
      rw [e, sumTo_swap]
      have e2 : sumTo d (fun t => sumTo d fun j => (-((b.getD t 0 : Nat) : Int)) * (Xv b d j (n' + t) * Xv b d k (j + m))) = sumTo d fun t => (-((b.getD t 0 : Nat) : Int)) * Xv b d k (n' + m + t) := sumTo_congr fun t ht => by
        rw [sumTo_mul, Xv_mul hd N (n' + t) (by omega), show n' + t + m = n' + m + t by omega]
      rw [e2, show n' + d + m = n' + m + d by omega, Xv_rec hd, ← Int.neg_one_mul, ← sumTo_mul]
      refine sumTo_congr fun t _ => ?_
      rw [← Int.mul_assoc, Int.neg_one_mul]
theorem tm_assoc {p : Nat} {row : List Nat} (O : FOk p row) (a b c : Nat) : tmV p row (tmV p row a b) c = tmV p row a (tmV p row b c) := by
  have hl2 := O.l2
  -- both are a sum over three digits
  have L : ∀ (a b c : Nat) {k : Nat}, k < row.length - 1 → Cg p (mulD p row k (tmV p row a b) c) (sumTo (row.length - 1) fun m => sumTo (row.length - 1) fun u => sumTo (row.length - 1) fun v => dg p a u * dg p b v * dg p c m * Xv row (row.length - 1) k (u + v + m)) := fun a b c k hk => by
    unfold mulD
    rw [sumTo_swap]
    refine Cg.sum fun m hm => ?_
    refine (Cg.sum fun j hj => ((dg_tm O a b hj).mul (dg p c m)).mul _).trans (Cg.of_eq ?_)
    unfold mulD
    have e1 : (sumTo (row.length - 1) fun i => (sumTo (row.length - 1) fun j => sumTo (row.length - 1) fun m => dg p a j * dg p b m * Xv row (row.length - 1) i (j + m)) * dg p c m * Xv row (row.length - 1) k (i + m)) = sumTo (row.length - 1) fun i => sumTo (row.length - 1) fun u => sumTo (row.length - 1) fun v => dg p a u * dg p b v * dg p c m * (Xv row (row.length - 1) i (u + v) * Xv row (row.length - 1) k (i + m)) := sumTo_congr fun i _ => by
      rw [← sumTo_mulR, ← sumTo_mulR]
      refine sumTo_congr fun u _ => ?_
      rw [← sumTo_mulR, ← sumTo_mulR]
      refine sumTo_congr fun v _ => ?_
      rw [Int.mul_assoc (dg p a u * dg p b v) (Xv row (row.length - 1) i (u + v)), Int.mul_comm (Xv row (row.length - 1) i (u + v)) (dg p c m), ← Int.mul_assoc, Int.mul_assoc]
    rw [e1, sumTo_swap]
    refine sumTo_congr fun u _ => ?_
    rw [sumTo_swap]
    refine sumTo_congr fun v _ => ?_
    rw [sumTo_mul, Xv_mul (by omega) (u + v + 1) (u + v) (by omega)]
  rw [tm_comm O a (tmV p row b c)]
  refine tm_ext O (tm_lt O _ _) fun k hk => (L a b c hk).trans (Cg.trans (Cg.symm ?_) (dg_tm O _ _ hk).symm)
  refine (L b c a hk).trans (Cg.of_eq ?_)
  -- m u v of b c a: the same sum
  have e1 : (sumTo (row.length - 1) fun m => sumTo (row.length - 1) fun u => sumTo (row.length - 1) fun v => dg p b u * dg p c v * dg p a m * Xv row (row.length - 1) k (u + v + m)) = sumTo (row.length - 1) fun m => sumTo (row.length - 1) fun v => sumTo (row.length - 1) fun u => dg p b u * dg p c v * dg p a m * Xv row (row.length - 1) k (u + v + m) := sumTo_congr fun m _ => sumTo_swap ..
  rw [e1, sumTo_swap]
  refine sumTo_congr fun v _ => sumTo_congr fun m _ => sumTo_congr fun u _ => ?_
  rw [show u + v + m = m + u + v by omega]
  congr 1
  rw [Int.mul_comm (dg p b u * dg p c v) (dg p a m), ← Int.mul_assoc]
theorem dg_zero (p k : Nat) : dg p 0 k = 0 := by
  unfold dg
  rw [Nat.zero_div, Nat.zero_mod]
  rfl
theorem dg_one {p : Nat} (hp : 2 ≤ p) (k : Nat) : dg p 1 k = if k = 0 then 1 else 0 := by
  unfold dg
  by_cases h : k = 0
  · subst h
    rw [if_pos rfl, Nat.pow_zero, Nat.div_one, Nat.mod_eq_of_lt (by omega)]
    rfl
  · rw [if_neg h, Nat.div_eq_of_lt (Nat.lt_of_lt_of_le (show 1 < p by omega) (by have := Nat.pow_le_pow_right (show 0 < p by omega) (show 1 ≤ k by omega); rwa [Nat.pow_one] at this)), Nat.zero_mod]
    rfl
theorem tm_one {p : Nat} {row : List Nat} (O : FOk p row) {a : Nat} (ha : a < nF p row) : tmV p row a 1 = a := by
  have hl2 := O.l2
  refine tm_ext O ha fun k hk => Cg.of_eq ?_
  unfold mulD
  have e : (sumTo (row.length - 1) fun j => sumTo (row.length - 1) fun m => dg p a j * dg p 1 m * Xv row (row.length - 1) k (j + m)) = sumTo (row.length - 1) fun j => dg p a j * if j = k then 1 else 0 := sumTo_congr fun j hj => by
    have e2 : (sumTo (row.length - 1) fun m => dg p a j * dg p 1 m * Xv row (row.length - 1) k (j + m)) = sumTo (row.length - 1) fun m => dg p a j * Xv row (row.length - 1) k (j + m) * if m = 0 then 1 else 0 := sumTo_congr fun m _ => by
      rw [dg_one O.p2, Int.mul_assoc, Int.mul_assoc, Int.mul_comm (Xv row (row.length - 1) k (j + m))]
    rw [e2, sumTo_pick (fun m => dg p a j * Xv row (row.length - 1) k (j + m)), if_pos (by omega), Nat.add_zero, Xv_low (by omega) hj]
  rw [e, sumTo_pick (fun j => dg p a j), if_pos hk]
theorem tm_zero {p : Nat} {row : List Nat} (O : FOk p row) (a : Nat) : tmV p row a 0 = 0 := by
  refine tm_ext O (Nat.pow_pos (Nat.lt_of_lt_of_le (by decide) O.p2)) fun k hk => Cg.of_eq ?_
  rw [dg_zero]
  refine sumTo_zero fun j _ => sumTo_zero fun m _ => ?_
  rw [dg_zero, Int.mul_zero, Int.zero_mul]
/-! powers, values, and how one field is led into another of its size -/
theorem pl_zero {p : Nat} {row : List Nat} (O : FOk p row) {c : Nat} (hc : c < nF p row) : plV p row 0 c = c := by
  have hp1 : 1 ≤ p := Nat.le_trans (by decide) O.p2
  refine dg_ext hp1 (pl_lt O _ _) hc fun k hk => (dg_pl hp1 0 c hk).trans (Cg.of_eq ?_)
  rw [dg_zero, Int.zero_add]
theorem nF_two {p : Nat} {row : List Nat} (O : FOk p row) : 2 ≤ nF p row := by
  have h2 := O.p2
  have h3 := O.l2
  have := Nat.pow_le_pow_right (show 0 < p by omega) (show 1 ≤ row.length - 1 by omega)
  rw [Nat.pow_one] at this
  unfold nF
  omega
theorem p_le {p : Nat} {row : List Nat} (O : FOk p row) : p ≤ nF p row := by
  have h2 := O.p2
  have h3 := O.l2
  have := Nat.pow_le_pow_right (show 0 < p by omega) (show 1 ≤ row.length - 1 by omega)
  rw [Nat.pow_one] at this
  exact this
def powV (p : Nat) (row : List Nat) (a : Nat) : Nat → Nat
  | 0 => 1
  | k + 1 => tmV p row (powV p row a k) a
theorem pow_lt {p : Nat} {row : List Nat} (O : FOk p row) (a : Nat) : ∀ k, powV p row a k < nF p row
  | 0 => nF_two O
  | k + 1 => tm_lt O _ _
theorem pow_add {p : Nat} {row : List Nat} (O : FOk p row) (a u : Nat) : ∀ v, tmV p row (powV p row a u) (powV p row a v) = powV p row a (u + v)
  | 0 => tm_one O (pow_lt O a u)
  | v + 1 => by
    rw [powV, ← tm_assoc O, pow_add O a u v]
    rfl
theorem pow_mul {p : Nat} {row : List Nat} (O : FOk p row) (a u : Nat) : ∀ v, powV p row (powV p row a u) v = powV p row a (u * v)
  | 0 => rfl
  | v + 1 => by
    rw [powV, pow_mul O a u v, pow_add O, Nat.mul_succ]
theorem pow_tm {p : Nat} {row : List Nat} (O : FOk p row) (a b : Nat) : ∀ k, powV p row (tmV p row a b) k = tmV p row (powV p row a k) (powV p row b k)
  | 0 => (tm_one O (nF_two O)).symm
  | k + 1 => by
    rw [powV, pow_tm O a b k, powV, powV, tm_assoc O, tm_assoc O (powV p row a k), ← tm_assoc O (powV p row b k), tm_comm O (powV p row b k) a, tm_assoc O a]
theorem pow_one {p : Nat} {row : List Nat} (O : FOk p row) : ∀ k, powV p row 1 k = 1
  | 0 => rfl
  | k + 1 => by
    rw [powV, pow_one O k]
    exact tm_one O (nF_two O)
theorem pow_zero {p : Nat} {row : List Nat} (O : FOk p row) {k : Nat} (h : 1 ≤ k) : powV p row 0 k = 0 := by
  obtain ⟨j, rfl⟩ : ∃ j, k = j + 1 := ⟨k - 1, by omega⟩
  exact tm_zero O _
def valV (p : Nat) (row : List Nat) (α : Nat) : List Nat → Nat
  | [] => 0
  | c :: l => plV p row (tmV p row (valV p row α l) α) c
theorem val_lt {p : Nat} {row : List Nat} (O : FOk p row) (α : Nat) : ∀ l, valV p row α l < nF p row
  | [] => Nat.lt_of_lt_of_le (show 0 < 2 by decide) (nF_two O)
  | _ :: _ => pl_lt O _ _
theorem sumTo_succ' (f : Nat → Int) : ∀ n, sumTo (n + 1) f = f 0 + sumTo n fun i => f (i + 1)
  | 0 => by simp [sumTo]
  | n + 1 => by
    rw [sumTo, sumTo_succ' f n, sumTo]
    omega
/-- a product with α is linear -/
theorem mul_lin {p : Nat} {row : List Nat} {α v n : Nat} {c : Nat → Int} {w : Nat → Nat} (h : ∀ j, j < row.length - 1 → Cg p (dg p v j) (sumTo n fun i => c i * dg p (w i) j)) (k : Nat) : Cg p (mulD p row k v α) (sumTo n fun i => c i * mulD p row k (w i) α) := by
  unfold mulD
  have e : (sumTo n fun i => c i * sumTo (row.length - 1) fun j => sumTo (row.length - 1) fun m => dg p (w i) j * dg p α m * Xv row (row.length - 1) k (j + m)) = sumTo (row.length - 1) fun j => sumTo (row.length - 1) fun m => (sumTo n fun i => c i * dg p (w i) j) * dg p α m * Xv row (row.length - 1) k (j + m) := by
    have e1 : (sumTo n fun i => c i * sumTo (row.length - 1) fun j => sumTo (row.length - 1) fun m => dg p (w i) j * dg p α m * Xv row (row.length - 1) k (j + m)) = sumTo n fun i => sumTo (row.length - 1) fun j => sumTo (row.length - 1) fun m => c i * dg p (w i) j * dg p α m * Xv row (row.length - 1) k (j + m) := sumTo_congr fun i _ => by
      rw [← sumTo_mul]
      refine sumTo_congr fun j _ => ?_
      rw [← sumTo_mul]
      refine sumTo_congr fun m _ => ?_
      rw [← Int.mul_assoc, ← Int.mul_assoc]
    rw [e1, sumTo_swap]
    refine sumTo_congr fun j _ => ?_
    rw [sumTo_swap]
    refine sumTo_congr fun m _ => ?_
    rw [← sumTo_mulR, ← sumTo_mulR]
  rw [e]
  exact Cg.sum fun j hj => Cg.sum fun m _ => ((h j hj).mul _).mul _
theorem mulD_comm (p : Nat) (row : List Nat) (k a b : Nat) : mulD p row k a b = mulD p row k b a := by
  unfold mulD
  rw [sumTo_swap]
  refine sumTo_congr fun j _ => sumTo_congr fun m _ => ?_
  rw [Nat.add_comm m j, Int.mul_comm (dg p a m)]
theorem dg_small {p c : Nat} (hc : c < p) (k : Nat) : dg p c k = ((c : Nat) : Int) * dg p 1 k := by
  by_cases h2 : 2 ≤ p
  · rw [dg_one h2]
    by_cases h : k = 0
    · subst h
      rw [if_pos rfl, Int.mul_one]
      unfold dg
      rw [Nat.pow_zero, Nat.div_one, Nat.mod_eq_of_lt hc]
    · rw [if_neg h, Int.mul_zero]
      unfold dg
      rw [Nat.div_eq_of_lt (Nat.lt_of_lt_of_le hc (by have := Nat.pow_le_pow_right (show 0 < p by omega) (show 1 ≤ k by omega); rwa [Nat.pow_one] at this)), Nat.zero_mod]
      rfl
  · have : c = 0 := by omega
    subst this
    rw [dg_zero]
    simp
theorem val_dg {p : Nat} {row : List Nat} (O : FOk p row) (α : Nat) : ∀ (l : List Nat), (∀ x ∈ l, x < p) → ∀ k, k < row.length - 1 → Cg p (dg p (valV p row α l) k) (sumTo l.length fun i => ((l.getD i 0 : Nat) : Int) * dg p (powV p row α i) k)
  | [], _, k, _ => by
    rw [valV, dg_zero]
    exact Cg.refl _
  | c :: l, h, k, hk => by
    have hp1 : 1 ≤ p := Nat.le_trans (by decide) O.p2
    have ih := val_dg O α l fun x hx => h x (List.mem_cons_of_mem _ hx)
    have hc := h c (List.mem_cons_self ..)
    rw [valV, List.length_cons, sumTo_succ']
    refine (dg_pl hp1 _ _ hk).trans ?_
    rw [Int.add_comm]
    refine Cg.add (Cg.of_eq (dg_small hc k)) ?_
    refine (dg_tm O _ _ hk).trans ((mul_lin (fun j hj => ih j hj) k).trans ?_)
    refine Cg.sum fun i _ => Cg.mulL ?_ _
    exact (dg_tm O _ _ hk).symm
/-- a number in whose place the row is nought -/
def RootOf (p : Nat) (row first : List Nat) (α : Nat) : Prop := valV p row α first = 0
theorem root_shift {p : Nat} {row first : List Nat} {α : Nat} (O : FOk p row) (hf : ∀ x ∈ first, x < p) (hr : RootOf p row first α) : ∀ (s k : Nat), k < row.length - 1 → Cg p (sumTo first.length fun i => ((first.getD i 0 : Nat) : Int) * dg p (powV p row α (i + s)) k) 0
  | 0, k, hk => by
    have h := val_dg O α first hf k hk
    rw [hr, dg_zero] at h
    exact h.symm
  | s + 1, k, hk => by
    have ih := root_shift O hf hr s
    have h := mul_lin (p := p) (row := row) (α := α) (v := 0) (n := first.length) (c := fun i => ((first.getD i 0 : Nat) : Int)) (w := fun i => powV p row α (i + s)) (fun j hj => by
      rw [dg_zero]
      exact (ih j hj).symm) k
    have e0 : mulD p row k 0 α = 0 := sumTo_zero fun j _ => sumTo_zero fun m _ => by rw [dg_zero, Int.zero_mul, Int.zero_mul]
    rw [e0] at h
    refine Cg.trans ?_ h.symm
    exact Cg.sum fun i _ => Cg.mulL (dg_tm O _ _ hk) _
theorem Cg.neg {p : Nat} {x y : Int} (h : Cg p x y) : Cg p (-x) (-y) := by
  have := h.mul (-1)
  rwa [Int.mul_neg, Int.mul_neg, Int.mul_one, Int.mul_one] at this
/-- powers of a root go as the unknown's -/
theorem root_pow {p : Nat} {row first : List Nat} {α : Nat} (O : FOk p row) (O' : FOk p first) (hr : RootOf p row first α) {k : Nat} (hk : k < row.length - 1) : ∀ N t, t < N → Cg p (dg p (powV p row α t) k) (sumTo (first.length - 1) fun j => Xv first (first.length - 1) j t * dg p (powV p row α j) k)
  | 0, t, h => by omega
  | N + 1, t, h => by
    have hl2 := O'.l2
    by_cases ht : t < first.length - 1
    · have e : (sumTo (first.length - 1) fun j => Xv first (first.length - 1) j t * dg p (powV p row α j) k) = sumTo (first.length - 1) fun j => dg p (powV p row α j) k * if j = t then 1 else 0 := sumTo_congr fun j _ => by
        rw [Xv_low (by omega) ht, Int.mul_comm]
        by_cases z : t = j
        · rw [if_pos z, if_pos z.symm]
        · rw [if_neg z, if_neg (Ne.symm z)]
      rw [e, sumTo_pick (fun j => dg p (powV p row α j) k), if_pos ht]
      exact Cg.refl _
    · obtain ⟨t', rfl⟩ : ∃ t', t = t' + (first.length - 1) := ⟨t - (first.length - 1), by omega⟩
      have h0 := root_shift O O'.lt hr t' k hk
      rw [show first.length = first.length - 1 + 1 by omega, sumTo, O'.top] at h0
      have h1 : Cg p (dg p (powV p row α (t' + (first.length - 1))) k) (-(sumTo (first.length - 1) fun i => ((first.getD i 0 : Nat) : Int) * dg p (powV p row α (i + t')) k)) := by
        obtain ⟨c, hc⟩ := h0
        refine ⟨c, ?_⟩
        rw [Nat.add_comm t' (first.length - 1)]
        have e1 : (((1 : Nat) : Int)) = 1 := rfl
        rw [e1, Int.one_mul] at hc
        omega
      refine h1.trans ?_
      have e : (sumTo (first.length - 1) fun j => Xv first (first.length - 1) j (t' + (first.length - 1)) * dg p (powV p row α j) k) = -(sumTo (first.length - 1) fun m => ((first.getD m 0 : Nat) : Int) * sumTo (first.length - 1) fun j => Xv first (first.length - 1) j (t' + m) * dg p (powV p row α j) k) := by
        have e1 : (sumTo (first.length - 1) fun j => Xv first (first.length - 1) j (t' + (first.length - 1)) * dg p (powV p row α j) k) = sumTo (first.length - 1) fun j => sumTo (first.length - 1) fun m => (-1) * (((first.getD m 0 : Nat) : Int) * (Xv first (first.length - 1) j (t' + m) * dg p (powV p row α j) k)) := sumTo_congr fun j _ => by
          rw [Xv_rec (by omega), Int.neg_mul, ← sumTo_mulR, ← Int.neg_one_mul, ← sumTo_mul]
          refine sumTo_congr fun m _ => ?_
          rw [Int.mul_assoc]
        rw [e1, sumTo_swap]
        refine Eq.trans ?_ (Int.neg_one_mul _)
        rw [← sumTo_mul]
        refine sumTo_congr fun m _ => ?_
        rw [sumTo_mul, sumTo_mul]
      rw [e]
      refine Cg.neg (Cg.sum fun m hm => Cg.mulL ?_ _)
      rw [Nat.add_comm m t']
      exact root_pow O O' hr hk N (t' + m) (by omega)
def ledV (p : Nat) (row first : List Nat) (α x : Nat) : Nat := valV p row α (digN p (first.length - 1) x)
theorem led_lt {p : Nat} {row : List Nat} (O : FOk p row) (first : List Nat) (α x : Nat) : ledV p row first α x < nF p row := val_lt O _ _
theorem led_dg {p : Nat} {row first : List Nat} {α : Nat} (O : FOk p row) (x : Nat) {k : Nat} (hk : k < row.length - 1) : Cg p (dg p (ledV p row first α x) k) (sumTo (first.length - 1) fun i => dg p x i * dg p (powV p row α i) k) := by
  have hp2 := O.p2
  have h := val_dg O α (digN p (first.length - 1) x) (digN_lt (by omega) _ _) k hk
  rw [digN_len] at h
  refine h.trans (Cg.of_eq (sumTo_congr fun i hi => ?_))
  rw [dig_getD, if_pos hi]
theorem led_add {p : Nat} {row first : List Nat} {α : Nat} (O : FOk p row) (x y : Nat) : ledV p row first α (plV p first x y) = plV p row (ledV p row first α x) (ledV p row first α y) := by
  have hp1 : 1 ≤ p := Nat.le_trans (by decide) O.p2
  refine dg_ext hp1 (led_lt O ..) (pl_lt O _ _) fun k hk => ?_
  refine (led_dg O _ hk).trans (Cg.trans ?_ ((dg_pl hp1 _ _ hk).trans ((led_dg O x hk).add (led_dg O y hk))).symm)
  rw [← sumTo_add]
  refine Cg.sum fun i hi => ?_
  rw [← Int.add_mul]
  exact (dg_pl hp1 x y hi).mul _
theorem led_mul {p : Nat} {row first : List Nat} {α : Nat} (O : FOk p row) (O' : FOk p first) (hr : RootOf p row first α) (x y : Nat) : ledV p row first α (tmV p first x y) = tmV p row (ledV p row first α x) (ledV p row first α y) := by
  have hp1 : 1 ≤ p := Nat.le_trans (by decide) O.p2
  refine dg_ext hp1 (led_lt O ..) (tm_lt O _ _) fun k hk => ?_
  have R : Cg p (dg p (tmV p row (ledV p row first α x) (ledV p row first α y)) k) (sumTo (first.length - 1) fun u => dg p x u * sumTo (first.length - 1) fun v => dg p y v * dg p (powV p row α (u + v)) k) := by
    refine (dg_tm O _ _ hk).trans ((mul_lin (fun j hj => led_dg O x hj) k).trans ?_)
    refine Cg.sum fun u _ => Cg.mulL ?_ _
    rw [mulD_comm]
    refine (mul_lin (fun j hj => led_dg O y hj) k).trans ?_
    refine Cg.sum fun v _ => Cg.mulL ?_ _
    rw [mulD_comm, ← pow_add O]
    exact (dg_tm O _ _ hk).symm
  refine Cg.trans ?_ R.symm
  refine (led_dg O _ hk).trans ((Cg.sum fun j hj => (dg_tm O' x y hj).mul _).trans ?_)
  have e : (sumTo (first.length - 1) fun j => mulD p first j x y * dg p (powV p row α j) k) = sumTo (first.length - 1) fun u => dg p x u * sumTo (first.length - 1) fun v => dg p y v * sumTo (first.length - 1) fun j => Xv first (first.length - 1) j (u + v) * dg p (powV p row α j) k := by
    have e1 : (sumTo (first.length - 1) fun j => mulD p first j x y * dg p (powV p row α j) k) = sumTo (first.length - 1) fun j => sumTo (first.length - 1) fun u => sumTo (first.length - 1) fun v => dg p x u * (dg p y v * (Xv first (first.length - 1) j (u + v) * dg p (powV p row α j) k)) := sumTo_congr fun j _ => by
      unfold mulD
      rw [← sumTo_mulR]
      refine sumTo_congr fun u _ => ?_
      rw [← sumTo_mulR]
      refine sumTo_congr fun v _ => ?_
      rw [Int.mul_assoc, Int.mul_assoc]
    rw [e1, sumTo_swap]
    refine sumTo_congr fun u _ => ?_
    rw [sumTo_swap, ← sumTo_mul]
    refine sumTo_congr fun v _ => ?_
    rw [sumTo_mul, sumTo_mul]
  rw [e]
  exact Cg.sum fun u _ => Cg.mulL (Cg.sum fun v _ => Cg.mulL (root_pow O O' hr hk (u + v + 1) (u + v) (by omega)).symm _) _
theorem led_one {p : Nat} {row first : List Nat} {α : Nat} (O : FOk p row) (O' : FOk p first) : ledV p row first α 1 = 1 := by
  have hp1 : 1 ≤ p := Nat.le_trans (by decide) O.p2
  have hl2 := O'.l2
  refine dg_ext hp1 (led_lt O ..) (nF_two O) fun k hk => (led_dg O 1 hk).trans (Cg.of_eq ?_)
  have e : (sumTo (first.length - 1) fun i => dg p 1 i * dg p (powV p row α i) k) = sumTo (first.length - 1) fun i => dg p (powV p row α i) k * if i = 0 then 1 else 0 := sumTo_congr fun i _ => by rw [dg_one O.p2, Int.mul_comm]
  rw [e, sumTo_pick (fun i => dg p (powV p row α i) k), if_pos (by omega)]
  rfl
theorem led_inj {p : Nat} {row first : List Nat} {α : Nat} (O : FOk p row) (O' : FOk p first) (hr : RootOf p row first α) {x y : Nat} (hx : x < nF p first) (hy : y < nF p first) (h : ledV p row first α x = ledV p row first α y) : x = y := by
  have h1 := pl_mn O' (b := y) hx
  have h2 := led_add (α := α) (first := first) O (mnV p first x y) y
  rw [h1, h] at h2
  have hly := led_lt O first α y
  have hz0 : ledV p row first α (mnV p first x y) = 0 := by
    have h3 := mn_pl O (b := ledV p row first α y) (led_lt O first α (mnV p first x y))
    rw [← h2] at h3
    have h4 := mn_pl O (a := 0) (b := ledV p row first α y) (Nat.lt_of_lt_of_le (by decide) (nF_two O))
    rw [pl_zero O hly] at h4
    rw [← h3, h4]
  by_cases hz : mnV p first x y = 0
  · rw [hz, pl_zero O' hy] at h1
    exact h1.symm
  · obtain ⟨b, hb, e⟩ := inv_ex O' hz (mn_lt O' x y)
    have h5 := led_mul O O' hr (mnV p first x y) b
    rw [e, led_one O O', hz0, tm_comm O, tm_zero O] at h5
    exact absurd h5 (by decide)
/-! what is gone through, by tables: powers of one number are all but 0; a sum with 1 taken as often as the prime -/
/-- P the powers of one number, L where each number stands among them -/
def expR (p : Nat) (row P L : List Nat) : Bool := decide (P.getD 0 0 = 1) && decide (P.getD (p ^ (row.length - 1) - 1) 0 = 1) && ((List.range (p ^ (row.length - 1) - 1)).all fun i => decide (tmV p row (P.getD i 0) (P.getD 1 0) = P.getD (i + 1) 0)) && (List.range (p ^ (row.length - 1))).all fun a => decide (a = 0) || (decide (L.getD a 0 < p ^ (row.length - 1)) && decide (P.getD (L.getD a 0) 0 = a))
def expB (p n : Nat) (T : List (List Nat × List Nat)) : Bool := (List.range (p ^ n)).all fun x => redB p n x || expR p (fac p n x) (T.getD x ([], [])).1 (T.getD x ([], [])).2
def expT21 : List (List Nat × List Nat) := List.replicate 2 ([1,1], [0,0])
theorem ex21 : expB 2 1 expT21 = true := by decide +kernel
def expT22 : List (List Nat × List Nat) := [([], []), ([], []), ([], []), ([1,2,3,1], [0,0,1,2])]
theorem ex22 : expB 2 2 expT22 = true := by decide +kernel
def expT23 : List (List Nat × List Nat) := [([], []), ([], []), ([], []), ([1,2,4,3,6,7,5,1], [0,0,1,3,2,6,4,5]), ([], []), ([1,2,4,5,7,3,6,1], [0,0,1,5,2,3,6,4]), ([], []), ([], [])]
theorem ex23 : expB 2 3 expT23 = true := by decide +kernel
def expT24 : List (List Nat × List Nat) := [([], []), ([], []), ([], []), ([1,2,4,8,3,6,12,11,5,10,7,14,15,13,9,1], [0,0,1,4,2,8,5,10,3,14,9,7,6,13,11,12]), ([], []), ([], []), ([], []), ([], []), ([], []), ([1,2,4,8,9,11,15,7,14,5,10,13,3,6,12,1], [0,0,1,12,2,9,13,7,3,4,10,5,14,11,8,6]), ([], []), ([], []), ([], []), ([], []), ([], []), ([1,3,5,15,14,13,8,7,9,4,12,11,2,6,10,1], [0,0,12,1,9,2,13,7,6,8,14,11,10,5,4,3])]
theorem ex24 : expB 2 4 expT24 = true := by decide +kernel
def expT25 : List (List Nat × List Nat) := [([], []), ([], []), ([], []), ([], []), ([], []), ([1,2,4,8,16,5,10,20,13,26,17,7,14,28,29,31,27,19,3,6,12,24,21,15,30,25,23,11,22,9,18,1], [0,0,1,18,2,5,19,11,3,29,6,27,20,8,12,23,4,10,30,17,7,22,28,26,21,25,9,16,13,14,24,15]), ([], []), ([], []), ([], []), ([1,2,4,8,16,9,18,13,26,29,19,15,30,21,3,6,12,24,25,27,31,23,7,14,28,17,11,22,5,10,20,1], [0,0,1,14,2,28,15,22,3,5,29,26,16,7,23,11,4,25,6,10,30,13,27,21,17,18,8,19,24,9,12,20]), ([], []), ([], []), ([], []), ([], []), ([], []), ([1,2,4,8,16,15,30,19,9,18,11,22,3,6,12,24,31,17,13,26,27,25,29,21,5,10,20,7,14,28,23,1], [0,0,1,12,2,24,13,27,3,8,25,10,14,18,28,5,4,17,9,7,26,23,11,30,15,21,19,20,29,22,6,16]), ([], []), ([], []), ([], []), ([], []), ([], []), ([], []), ([], []), ([1,2,4,8,16,23,25,5,10,20,31,9,18,19,17,21,29,13,26,3,6,12,24,7,14,28,15,30,11,22,27,1], [0,0,1,19,2,7,20,23,3,11,8,28,21,17,24,26,4,14,12,13,9,15,29,5,22,6,18,30,25,16,27,10]), ([], []), ([], []), ([], []), ([1,2,4,8,16,27,13,26,15,30,7,14,28,3,6,12,24,11,22,23,21,17,25,9,18,31,5,10,20,19,29,1], [0,0,1,13,2,26,14,10,3,23,27,17,15,6,11,8,4,21,24,29,28,20,18,19,16,22,7,5,12,30,9,25]), ([], []), ([1,2,4,8,16,29,7,14,28,5,10,20,21,23,19,27,11,22,17,31,3,6,12,24,13,26,9,18,25,15,30,1], [0,0,1,20,2,9,21,6,3,26,10,16,22,24,7,29,4,18,27,14,11,12,17,13,23,28,25,15,8,5,30,19]), ([], []), ([], [])]
theorem ex25 : expB 2 5 expT25 = true := by decide +kernel
def expT31 : List (List Nat × List Nat) := List.replicate 3 ([1,2,1], [0,0,1])
theorem ex31 : expB 3 1 expT31 = true := by decide +kernel
def expT32 : List (List Nat × List Nat) := [([], []), ([1,4,6,7,2,8,3,5,1], [0,0,4,6,1,7,2,3,5]), ([], []), ([], []), ([], []), ([1,3,7,8,2,6,5,4,1], [0,0,4,1,7,6,5,2,3]), ([], []), ([], []), ([1,3,4,7,2,6,8,5,1], [0,0,4,1,2,7,5,3,6])]
theorem ex32 : expB 3 2 expT32 = true := by decide +kernel
def expT33 : List (List Nat × List Nat) := [([], []), ([], []), ([], []), ([], []), ([], []), ([], []), ([], []), ([1,3,9,5,15,23,13,17,20,4,12,14,11,2,6,18,7,21,16,26,22,10,8,24,25,19,1], [0,0,13,1,9,3,14,16,22,2,21,12,10,6,11,4,18,7,15,25,8,17,20,5,23,24,19]), ([1,6,9,8,12,26,16,14,20,7,15,17,11,2,3,18,4,24,13,23,25,10,5,21,22,19,1], [0,0,13,14,16,22,1,9,3,2,21,12,4,18,7,10,6,11,15,25,8,23,24,19,17,20,5]), ([], []), ([], []), ([1,5,13,18,20,24,14,23,3,15,4,11,17,2,7,26,9,10,12,25,16,6,21,8,19,22,1], [0,0,13,8,10,1,21,14,23,16,17,11,18,2,6,9,20,12,3,24,4,22,25,7,5,19,15]), ([], []), ([], []), ([1,4,16,26,25,21,17,18,5,11,3,12,10,2,8,23,13,14,15,22,9,7,19,6,24,20,1], [0,0,13,10,1,8,23,21,14,20,12,9,11,16,17,18,2,6,7,22,25,5,19,15,24,4,3]), ([], []), ([1,3,9,23,22,19,10,26,4,12,5,15,14,2,6,18,16,17,11,20,13,8,24,7,21,25,1], [0,0,13,1,8,10,14,23,21,2,6,18,9,20,12,11,16,17,15,5,19,24,4,3,22,25,7]), ([], []), ([], []), ([1,3,9,11,17,8,24,10,14,26,16,5,15,2,6,18,19,22,4,12,20,25,13,23,7,21,1], [0,0,13,1,18,11,14,24,5,2,7,3,19,22,8,12,10,4,15,16,20,25,17,23,6,21,9]), ([], []), ([], []), ([1,3,9,17,5,15,8,24,13,20,19,25,16,2,6,18,22,7,21,4,12,26,10,11,14,23,1], [0,0,13,1,19,4,14,17,6,2,22,23,20,8,24,5,12,3,15,10,9,18,16,25,7,11,21]), ([], []), ([], []), ([], []), ([1,4,16,14,3,12,7,19,9,22,21,20,13,2,8,23,25,6,24,5,11,18,17,15,10,26,1], [0,0,13,4,1,19,17,6,14,8,24,20,5,12,3,23,2,22,21,7,11,10,9,15,18,16,25])]
theorem ex33 : expB 3 3 expT33 = true := by decide +kernel
def expT51 : List (List Nat × List Nat) := List.replicate 5 ([1,2,4,3,1], [0,0,1,3,2])
theorem ex51 : expB 5 1 expT51 = true := by decide +kernel
def expT52 : List (List Nat × List Nat) := [([], []), ([], []), ([1,6,14,5,8,21,3,18,7,15,19,13,4,24,16,20,22,9,2,12,23,10,11,17,1], [0,0,18,6,12,3,1,8,4,17,21,22,19,11,2,9,14,23,7,10,15,5,16,20,13]), ([1,7,21,20,18,22,2,14,17,15,6,19,4,23,9,5,12,8,3,16,13,10,24,11,1], [0,0,6,18,12,15,10,1,17,14,21,23,16,20,7,9,19,8,4,11,3,2,5,13,22]), ([], []), ([], []), ([1,7,18,8,20,21,3,16,24,19,10,13,4,23,12,22,5,9,2,14,6,11,15,17,1], [0,0,18,6,12,16,20,1,3,17,10,21,14,11,19,22,7,23,2,9,4,5,15,13,8]), ([1,5,23,22,17,24,2,10,16,19,9,18,4,20,7,8,13,6,3,15,14,11,21,12,1], [0,0,6,18,12,1,17,14,15,10,7,21,23,16,20,19,8,4,11,9,13,22,3,2,5]), ([], []), ([], []), ([], []), ([], []), ([], []), ([1,5,17,6,22,23,3,15,21,18,11,14,4,20,13,24,8,7,2,10,9,12,19,16,1], [0,0,18,6,12,1,3,17,16,20,19,10,21,14,11,7,23,2,9,22,13,8,4,5,15]), ([1,8,20,24,16,21,2,11,15,18,7,17,4,22,5,6,14,9,3,19,10,12,23,13,1], [0,0,6,18,12,14,15,10,1,17,20,7,21,23,16,8,4,11,9,19,2,5,13,22,3]), ([], []), ([], []), ([], []), ([1,5,12,9,7,22,3,15,6,17,16,11,4,20,18,21,23,8,2,10,24,13,14,19,1], [0,0,18,6,12,1,8,4,17,3,19,11,2,21,22,7,10,9,14,23,13,15,5,16,20]), ([1,6,22,21,15,23,2,12,19,17,5,16,4,24,8,9,10,7,3,18,11,13,20,14,1], [0,0,6,18,12,10,1,17,14,15,16,20,7,21,23,4,11,9,19,8,22,3,2,5,13]), ([], []), ([1,6,15,7,21,22,3,18,20,16,13,11,4,24,10,23,9,8,2,12,5,14,17,19,1], [0,0,18,6,12,20,1,3,17,16,14,11,19,10,21,2,9,22,7,23,8,4,5,15,13]), ([1,5,8,23,12,21,2,10,11,16,24,17,4,20,22,7,18,9,3,15,19,14,6,13,1], [0,0,6,18,12,1,22,15,2,17,7,8,4,23,21,19,9,11,16,20,13,5,14,3,10]), ([], []), ([], [])]
theorem ex52 : expB 5 2 expT52 = true := by decide +kernel
def expT71 : List (List Nat × List Nat) := List.replicate 7 ([1,3,2,6,4,5,1], [0,0,2,1,4,5,3])
theorem ex71 : expB 7 1 expT71 = true := by decide +kernel
def expT111 : List (List Nat × List Nat) := List.replicate 11 ([1,2,4,8,5,10,9,7,3,6,1], [0,0,1,8,2,4,9,7,3,6,5])
theorem ex111 : expB 11 1 expT111 = true := by decide +kernel
def expT131 : List (List Nat × List Nat) := List.replicate 13 ([1,2,4,8,3,6,12,11,9,5,10,7,1], [0,0,1,4,2,9,5,11,3,8,10,7,6])
theorem ex131 : expB 13 1 expT131 = true := by decide +kernel
def expT171 : List (List Nat × List Nat) := List.replicate 17 ([1,3,9,10,13,5,15,11,16,14,8,7,4,12,2,6,1], [0,0,14,1,12,5,15,11,10,2,3,7,13,4,9,6,8])
theorem ex171 : expB 17 1 expT171 = true := by decide +kernel
def expT191 : List (List Nat × List Nat) := List.replicate 19 ([1,2,4,8,16,13,7,14,9,18,17,15,11,3,6,12,5,10,1], [0,0,1,13,2,16,14,6,3,8,17,12,15,5,7,11,4,10,9])
theorem ex191 : expB 19 1 expT191 = true := by decide +kernel
def expT231 : List (List Nat × List Nat) := List.replicate 23 ([1,5,2,10,4,20,8,17,16,11,9,22,18,21,13,19,3,15,6,7,12,14,1], [0,0,2,16,4,1,18,19,6,10,3,9,20,14,21,17,8,7,12,15,5,13,11])
theorem ex231 : expB 23 1 expT231 = true := by decide +kernel
def expT291 : List (List Nat × List Nat) := List.replicate 29 ([1,2,4,8,16,3,6,12,24,19,9,18,7,14,28,27,25,21,13,26,23,17,5,10,20,11,22,15,1], [0,0,1,5,2,22,6,12,3,10,23,25,7,18,13,27,4,21,11,9,24,17,26,20,8,16,19,15,14])
theorem ex291 : expB 29 1 expT291 = true := by decide +kernel
def expT311 : List (List Nat × List Nat) := List.replicate 31 ([1,3,9,27,19,26,16,17,20,29,25,13,8,24,10,30,28,22,4,12,5,15,14,11,2,6,18,23,7,21,1], [0,0,24,1,18,20,25,28,12,2,14,23,19,11,22,21,6,7,26,4,8,29,17,27,13,10,5,3,16,9,15])
theorem ex311 : expB 31 1 expT311 = true := by decide +kernel
def expT : List (Nat × Nat × List (List Nat × List Nat)) := [(2, 1, expT21), (2, 2, expT22), (2, 3, expT23), (2, 4, expT24), (2, 5, expT25), (3, 1, expT31), (3, 2, expT32), (3, 3, expT33), (5, 1, expT51), (5, 2, expT52), (7, 1, expT71), (11, 1, expT111), (13, 1, expT131), (17, 1, expT171), (19, 1, expT191), (23, 1, expT231), (29, 1, expT291), (31, 1, expT311)]
theorem exp_all : (expT.all fun t => expB t.1 t.2.1 t.2.2) = true := by
  simp only [expT, List.all_cons, List.all_nil, ex21, ex22, ex23, ex24, ex25, ex31, ex32, ex33, ex51, ex52, ex71, ex111, ex131, ex171, ex191, ex231, ex291, ex311, Bool.and_true]
def bigL : List (Nat × Nat) := [(2, 2), (2, 3), (2, 4), (2, 5), (3, 2), (3, 3), (5, 2)]
def frB (p n : Nat) : Bool := (List.range (p ^ n)).all fun x => redB p n x || (List.range (p ^ n)).all fun c => decide (powV p (fac p n x) (plV p (fac p n x) c 1) p = plV p (fac p n x) (powV p (fac p n x) c p) 1)
theorem fr22 : frB 2 2 = true := by decide +kernel
theorem fr23 : frB 2 3 = true := by decide +kernel
theorem fr24 : frB 2 4 = true := by decide +kernel
theorem fr25 : frB 2 5 = true := by decide +kernel
theorem fr32 : frB 3 2 = true := by decide +kernel
theorem fr33 : frB 3 3 = true := by decide +kernel
theorem fr52 : frB 5 2 = true := by decide +kernel
theorem fr_all : (bigL.all fun t => frB t.1 t.2) = true := by
  simp only [bigL, List.all_cons, List.all_nil, fr22, fr23, fr24, fr25, fr32, fr33, fr52, Bool.and_true]
def rtT22 : List (List (List Nat)) := [[],[],[],[[1,0,0],[1,1,1],[1,2,3],[1,3,2]]]
def rtT23 : List (List (List Nat)) := [[],[],[],[[1,0,0,0],[1,1,1,1],[1,2,4,3],[1,3,5,4],[1,4,6,5],[1,5,7,6],[1,6,2,7],[1,7,3,2]],[],[[1,0,0,0],[1,1,1,1],[1,2,4,5],[1,3,5,2],[1,4,7,6],[1,5,6,4],[1,6,3,7],[1,7,2,3]],[],[]]
def rtT24 : List (List (List Nat)) := [[],[],[],[[1,0,0,0,0],[1,1,1,1,1],[1,2,4,8,3],[1,3,5,15,2],[1,4,3,12,5],[1,5,2,10,4],[1,6,7,1,6],[1,7,6,1,7],[1,8,12,10,15],[1,9,13,15,14],[1,10,8,15,12],[1,11,9,12,13],[1,12,15,8,10],[1,13,14,10,11],[1,14,11,8,9],[1,15,10,12,8]],[],[],[],[],[],[[1,0,0,0,0],[1,1,1,1,1],[1,2,4,8,9],[1,3,5,15,8],[1,4,9,15,14],[1,5,8,3,15],[1,6,13,5,7],[1,7,12,15,6],[1,8,15,5,3],[1,9,14,3,2],[1,10,11,1,10],[1,11,10,1,11],[1,12,6,3,13],[1,13,7,8,12],[1,14,2,5,4],[1,15,3,8,5]],[],[],[],[],[],[[1,0,0,0,0],[1,1,1,1,1],[1,2,4,8,15],[1,3,5,15,14],[1,4,15,2,8],[1,5,14,8,9],[1,6,11,4,7],[1,7,10,8,6],[1,8,2,15,4],[1,9,3,4,5],[1,10,6,2,11],[1,11,7,15,10],[1,12,13,1,12],[1,13,12,1,13],[1,14,9,2,3],[1,15,8,4,2]]]
def rtT25 : List (List (List Nat)) := [[],[],[],[],[],[[1,0,0,0,0,0],[1,1,1,1,1,1],[1,2,4,8,16,5],[1,3,5,15,17,22],[1,4,16,10,13,17],[1,5,17,31,12,25],[1,6,20,23,29,4],[1,7,21,4,28,30],[1,8,10,26,14,31],[1,9,11,25,15,24],[1,10,14,3,30,18],[1,11,15,6,31,7],[1,12,26,9,3,20],[1,13,27,30,2,26],[1,14,30,5,19,9],[1,15,31,20,18,21],[1,16,13,14,27,12],[1,17,12,18,26,6],[1,18,9,22,11,23],[1,19,8,12,10,15],[1,20,29,24,22,16],[1,21,28,16,23,19],[1,22,25,21,6,27],[1,23,24,27,7,10],[1,24,7,2,21,14],[1,25,6,28,20,2],[1,26,3,11,5,29],[1,27,2,19,4,3],[1,28,23,13,24,8],[1,29,22,7,25,13],[1,30,19,17,8,11],[1,31,18,29,9,28]],[],[],[],[[1,0,0,0,0,0],[1,1,1,1,1,1],[1,2,4,8,16,9],[1,3,5,15,17,26],[1,4,16,18,26,19],[1,5,17,7,27,12],[1,6,20,3,10,21],[1,7,21,16,11,24],[1,8,18,29,30,6],[1,9,19,6,31,17],[1,10,22,17,14,23],[1,11,23,12,15,18],[1,12,2,24,4,25],[1,13,3,23,5,16],[1,14,6,13,20,7],[1,15,7,4,21,28],[1,16,26,30,12,31],[1,17,27,21,13,2],[1,18,30,25,28,20],[1,19,31,20,29,27],[1,20,10,5,22,11],[1,21,11,26,23,8],[1,22,14,27,6,15],[1,23,15,2,7,30],[1,24,8,31,18,14],[1,25,9,14,19,5],[1,26,12,28,2,29],[1,27,13,11,3,4],[1,28,24,19,8,22],[1,29,25,22,9,3],[1,30,28,9,24,10],[1,31,29,10,25,13]],[],[],[],[],[],[[1,0,0,0,0,0],[1,1,1,1,1,1],[1,2,4,8,16,15],[1,3,5,15,17,28],[1,4,16,30,9,11],[1,5,17,11,8,7],[1,6,20,9,25,8],[1,7,21,26,24,22],[1,8,30,18,3,24],[1,9,31,5,2,18],[1,10,26,6,19,2],[1,11,27,23,18,26],[1,12,14,22,10,9],[1,13,15,21,11,14],[1,14,10,29,26,31],[1,15,11,24,27,10],[1,16,9,3,31,27],[1,17,8,27,30,21],[1,18,13,7,15,12],[1,19,12,25,14,16],[1,20,25,31,22,30],[1,21,24,19,23,29],[1,22,29,4,6,5],[1,23,28,14,7,20],[1,24,23,12,28,6],[1,25,22,2,29,3],[1,26,19,20,12,4],[1,27,18,28,13,19],[1,28,7,10,21,25],[1,29,6,16,20,17],[1,30,3,13,5,23],[1,31,2,17,4,13]],[],[],[],[],[],[],[],[[1,0,0,0,0,0],[1,1,1,1,1,1],[1,2,4,8,16,23],[1,3,5,15,17,4],[1,4,16,25,10,31],[1,5,17,12,11,16],[1,6,20,22,26,5],[1,7,21,5,27,24],[1,8,25,20,18,21],[1,9,24,4,19,14],[1,10,29,14,2,20],[1,11,28,24,3,29],[1,12,9,2,24,18],[1,13,8,6,25,7],[1,14,13,31,8,30],[1,15,12,29,9,25],[1,16,10,18,29,6],[1,17,11,9,28,10],[1,18,14,23,13,22],[1,19,15,10,12,8],[1,20,26,30,23,17],[1,21,27,17,22,19],[1,22,30,28,7,12],[1,23,31,21,6,28],[1,24,19,16,15,13],[1,25,18,26,14,27],[1,26,23,7,31,11],[1,27,22,11,30,15],[1,28,3,19,5,2],[1,29,2,13,4,26],[1,30,7,3,21,9],[1,31,6,27,20,3]],[],[],[],[[1,0,0,0,0,0],[1,1,1,1,1,1],[1,2,4,8,16,27],[1,3,5,15,17,8],[1,4,16,13,15,7],[1,5,17,24,14,13],[1,6,20,14,31,15],[1,7,21,29,30,23],[1,8,13,30,28,12],[1,9,12,26,29,25],[1,10,9,23,12,14],[1,11,8,21,13,9],[1,12,29,6,19,3],[1,13,28,22,18,29],[1,14,25,4,3,18],[1,15,24,18,2,30],[1,16,15,28,24,21],[1,17,14,2,25,28],[1,18,11,7,8,10],[1,19,10,31,9,17],[1,20,31,25,23,24],[1,21,30,19,22,26],[1,22,27,9,7,20],[1,23,26,5,6,4],[1,24,2,11,4,22],[1,25,3,16,5,11],[1,26,6,17,20,16],[1,27,7,12,21,31],[1,28,18,27,11,19],[1,29,19,20,10,5],[1,30,22,10,27,6],[1,31,23,3,26,2]],[],[[1,0,0,0,0,0],[1,1,1,1,1,1],[1,2,4,8,16,29],[1,3,5,15,17,14],[1,4,16,7,28,10],[1,5,17,18,29,19],[1,6,20,2,12,21],[1,7,21,17,13,30],[1,8,7,5,21,27],[1,9,6,11,20,7],[1,10,3,30,5,31],[1,11,2,22,4,17],[1,12,23,16,9,22],[1,13,22,10,8,18],[1,14,19,6,25,16],[1,15,18,26,24,6],[1,16,28,21,11,3],[1,17,29,24,10,25],[1,18,24,31,27,20],[1,19,25,20,26,28],[1,20,12,4,23,13],[1,21,13,29,22,15],[1,22,8,3,7,24],[1,23,9,28,6,8],[1,24,27,14,30,12],[1,25,26,12,31,11],[1,26,31,23,14,2],[1,27,30,19,15,23],[1,28,11,13,2,5],[1,29,10,27,3,26],[1,30,15,25,18,9],[1,31,14,9,19,4]],[],[]]
def rtT32 : List (List (List Nat)) := [[],[[1,0,0],[1,1,1],[1,2,1],[1,3,2],[1,4,6],[1,5,3],[1,6,2],[1,7,3],[1,8,6]],[],[],[],[[1,0,0],[1,1,1],[1,2,1],[1,3,7],[1,4,5],[1,5,2],[1,6,7],[1,7,2],[1,8,5]],[],[],[[1,0,0],[1,1,1],[1,2,1],[1,3,4],[1,4,2],[1,5,8],[1,6,4],[1,7,8],[1,8,2]]]
def rtT33 : List (List (List Nat)) := [[],[],[],[],[],[],[],[[1,0,0,0],[1,1,1,1],[1,2,1,2],[1,3,9,5],[1,4,16,3],[1,5,13,4],[1,6,9,7],[1,7,13,8],[1,8,16,6],[1,9,15,13],[1,10,7,14],[1,11,25,12],[1,12,22,15],[1,13,11,16],[1,14,8,17],[1,15,20,11],[1,16,12,9],[1,17,6,10],[1,18,15,26],[1,19,25,24],[1,20,7,25],[1,21,20,19],[1,22,6,20],[1,23,12,18],[1,24,22,21],[1,25,8,22],[1,26,11,23]],[[1,0,0,0],[1,1,1,1],[1,2,1,2],[1,3,9,4],[1,4,16,5],[1,5,13,3],[1,6,9,8],[1,7,13,6],[1,8,16,7],[1,9,12,16],[1,10,4,17],[1,11,22,15],[1,12,20,11],[1,13,15,9],[1,14,3,10],[1,15,25,12],[1,16,11,13],[1,17,5,14],[1,18,12,23],[1,19,22,21],[1,20,4,22],[1,21,25,24],[1,22,5,25],[1,23,11,26],[1,24,20,19],[1,25,3,20],[1,26,15,18]],[],[],[[1,0,0,0],[1,1,1,1],[1,2,1,2],[1,3,9,19],[1,4,16,20],[1,5,13,18],[1,6,9,11],[1,7,13,9],[1,8,16,10],[1,9,14,21],[1,10,3,22],[1,11,21,23],[1,12,4,13],[1,13,20,14],[1,14,17,12],[1,15,12,5],[1,16,7,3],[1,17,19,4],[1,18,14,15],[1,19,21,16],[1,20,3,17],[1,21,12,7],[1,22,19,8],[1,23,7,6],[1,24,4,26],[1,25,17,24],[1,26,20,25]],[],[],[[1,0,0,0],[1,1,1,1],[1,2,1,2],[1,3,9,25],[1,4,16,26],[1,5,13,24],[1,6,9,14],[1,7,13,12],[1,8,16,13],[1,9,8,5],[1,10,24,3],[1,11,15,4],[1,12,19,18],[1,13,17,19],[1,14,5,20],[1,15,3,16],[1,16,25,17],[1,17,10,15],[1,18,8,7],[1,19,15,8],[1,20,24,6],[1,21,3,23],[1,22,10,21],[1,23,25,22],[1,24,19,9],[1,25,5,10],[1,26,17,11]],[],[[1,0,0,0],[1,1,1,1],[1,2,1,2],[1,3,9,23],[1,4,16,21],[1,5,13,22],[1,6,9,16],[1,7,13,17],[1,8,16,15],[1,9,22,10],[1,10,14,11],[1,11,5,9],[1,12,11,3],[1,13,6,4],[1,14,21,5],[1,15,24,26],[1,16,10,24],[1,17,4,25],[1,18,22,20],[1,19,5,18],[1,20,14,19],[1,21,24,13],[1,22,4,14],[1,23,10,12],[1,24,11,6],[1,25,21,7],[1,26,6,8]],[],[],[[1,0,0,0],[1,1,1,1],[1,2,1,2],[1,3,9,11],[1,4,16,9],[1,5,13,10],[1,6,9,19],[1,7,13,20],[1,8,16,18],[1,9,17,24],[1,10,6,25],[1,11,24,26],[1,12,15,8],[1,13,4,6],[1,14,19,7],[1,15,7,16],[1,16,20,17],[1,17,14,15],[1,18,17,12],[1,19,24,13],[1,20,6,14],[1,21,7,23],[1,22,14,21],[1,23,20,22],[1,24,15,4],[1,25,19,5],[1,26,4,3]],[],[],[[1,0,0,0],[1,1,1,1],[1,2,1,2],[1,3,9,17],[1,4,16,15],[1,5,13,16],[1,6,9,22],[1,7,13,23],[1,8,16,21],[1,9,5,8],[1,10,21,6],[1,11,12,7],[1,12,6,13],[1,13,22,14],[1,14,10,12],[1,15,19,18],[1,16,14,19],[1,17,8,20],[1,18,5,4],[1,19,12,5],[1,20,21,3],[1,21,19,9],[1,22,8,10],[1,23,14,11],[1,24,6,26],[1,25,10,24],[1,26,22,25]],[],[],[],[[1,0,0,0],[1,1,1,1],[1,2,1,2],[1,3,9,13],[1,4,16,14],[1,5,13,12],[1,6,9,26],[1,7,13,24],[1,8,16,25],[1,9,25,10],[1,10,17,11],[1,11,8,9],[1,12,21,23],[1,13,10,21],[1,14,7,22],[1,15,11,6],[1,16,3,7],[1,17,24,8],[1,18,25,20],[1,19,8,18],[1,20,17,19],[1,21,11,3],[1,22,24,4],[1,23,3,5],[1,24,21,16],[1,25,7,17],[1,26,10,15]]]
def rtT52 : List (List (List Nat)) := [[],[],[[1,0,0],[1,1,1],[1,2,4],[1,3,4],[1,4,1],[1,5,3],[1,6,14],[1,7,22],[1,8,7],[1,9,19],[1,10,2],[1,11,23],[1,12,16],[1,13,11],[1,14,8],[1,15,2],[1,16,8],[1,17,11],[1,18,16],[1,19,23],[1,20,3],[1,21,19],[1,22,7],[1,23,22],[1,24,14]],[[1,0,0],[1,1,1],[1,2,4],[1,3,4],[1,4,1],[1,5,2],[1,6,13],[1,7,21],[1,8,6],[1,9,18],[1,10,3],[1,11,24],[1,12,17],[1,13,12],[1,14,9],[1,15,3],[1,16,9],[1,17,12],[1,18,17],[1,19,24],[1,20,2],[1,21,18],[1,22,6],[1,23,21],[1,24,13]],[],[],[[1,0,0],[1,1,1],[1,2,4],[1,3,4],[1,4,1],[1,5,24],[1,6,5],[1,7,18],[1,8,3],[1,9,10],[1,10,6],[1,11,2],[1,12,20],[1,13,15],[1,14,12],[1,15,6],[1,16,12],[1,17,15],[1,18,20],[1,19,2],[1,20,24],[1,21,10],[1,22,3],[1,23,18],[1,24,5]],[[1,0,0],[1,1,1],[1,2,4],[1,3,4],[1,4,1],[1,5,23],[1,6,9],[1,7,17],[1,8,2],[1,9,14],[1,10,7],[1,11,3],[1,12,21],[1,13,16],[1,14,13],[1,15,7],[1,16,13],[1,17,16],[1,18,21],[1,19,3],[1,20,23],[1,21,14],[1,22,2],[1,23,17],[1,24,9]],[],[],[],[],[],[[1,0,0],[1,1,1],[1,2,4],[1,3,4],[1,4,1],[1,5,17],[1,6,3],[1,7,11],[1,8,21],[1,9,8],[1,10,13],[1,11,9],[1,12,2],[1,13,22],[1,14,19],[1,15,13],[1,16,19],[1,17,22],[1,18,2],[1,19,9],[1,20,17],[1,21,8],[1,22,21],[1,23,11],[1,24,3]],[[1,0,0],[1,1,1],[1,2,4],[1,3,4],[1,4,1],[1,5,16],[1,6,2],[1,7,10],[1,8,20],[1,9,7],[1,10,14],[1,11,5],[1,12,3],[1,13,23],[1,14,15],[1,15,14],[1,16,15],[1,17,23],[1,18,3],[1,19,5],[1,20,16],[1,21,7],[1,22,20],[1,23,10],[1,24,2]],[],[],[],[[1,0,0],[1,1,1],[1,2,4],[1,3,4],[1,4,1],[1,5,12],[1,6,23],[1,7,6],[1,8,16],[1,9,3],[1,10,18],[1,11,14],[1,12,7],[1,13,2],[1,14,24],[1,15,18],[1,16,24],[1,17,2],[1,18,7],[1,19,14],[1,20,12],[1,21,3],[1,22,16],[1,23,6],[1,24,23]],[[1,0,0],[1,1,1],[1,2,4],[1,3,4],[1,4,1],[1,5,11],[1,6,22],[1,7,5],[1,8,15],[1,9,2],[1,10,19],[1,11,10],[1,12,8],[1,13,3],[1,14,20],[1,15,19],[1,16,20],[1,17,3],[1,18,8],[1,19,10],[1,20,11],[1,21,2],[1,22,15],[1,23,5],[1,24,22]],[],[[1,0,0],[1,1,1],[1,2,4],[1,3,4],[1,4,1],[1,5,9],[1,6,15],[1,7,3],[1,8,13],[1,9,20],[1,10,21],[1,11,17],[1,12,10],[1,13,5],[1,14,2],[1,15,21],[1,16,2],[1,17,5],[1,18,10],[1,19,17],[1,20,9],[1,21,20],[1,22,13],[1,23,3],[1,24,15]],[[1,0,0],[1,1,1],[1,2,4],[1,3,4],[1,4,1],[1,5,8],[1,6,19],[1,7,2],[1,8,12],[1,9,24],[1,10,22],[1,11,18],[1,12,11],[1,13,6],[1,14,3],[1,15,22],[1,16,3],[1,17,6],[1,18,11],[1,19,18],[1,20,8],[1,21,24],[1,22,12],[1,23,2],[1,24,19]],[],[]]
def sumN (p k : Nat) : List Nat → List Nat → Nat
  | c :: l, w :: W => c * (w / p ^ k % p) + sumN p k l W
  | _, _ => 0
def rootQ (p n : Nat) (l W : List Nat) : Bool := (List.range n).all fun k => decide (sumN p k l W % p = 0)
def pwR (p n : Nat) (row : List Nat) (a : Nat) (W : List Nat) : Bool := decide (W.length = n + 1) && decide (W.getD 0 0 = 1) && (List.range n).all fun i => decide (tmV p row (W.getD i 0) a = W.getD (i + 1) 0)
def pwB (p n : Nat) (T : List (List (List Nat))) : Bool := (List.range (p ^ n)).all fun y => redB p n y || (List.range (p ^ n)).all fun a => pwR p n (fac p n y) a ((T.getD y []).getD a [])
def rtB (p n : Nat) (T : List (List (List Nat))) : Bool := (List.range (p ^ n)).all fun x => redB p n x || (List.range (p ^ n)).all fun y => redB p n y || decide (((List.range (p ^ n)).filter fun a => rootQ p n (fac p n x) ((T.getD y []).getD a [])).length = n)
theorem pw22 : pwB 2 2 rtT22 = true := by decide +kernel
theorem rt22 : rtB 2 2 rtT22 = true := by decide +kernel
theorem pw23 : pwB 2 3 rtT23 = true := by decide +kernel
theorem rt23 : rtB 2 3 rtT23 = true := by decide +kernel
theorem pw24 : pwB 2 4 rtT24 = true := by decide +kernel
theorem rt24 : rtB 2 4 rtT24 = true := by decide +kernel
theorem pw25 : pwB 2 5 rtT25 = true := by decide +kernel
theorem rt25 : rtB 2 5 rtT25 = true := by decide +kernel
theorem pw32 : pwB 3 2 rtT32 = true := by decide +kernel
theorem rt32 : rtB 3 2 rtT32 = true := by decide +kernel
theorem pw33 : pwB 3 3 rtT33 = true := by decide +kernel
theorem rt33 : rtB 3 3 rtT33 = true := by decide +kernel
theorem pw52 : pwB 5 2 rtT52 = true := by decide +kernel
theorem rt52 : rtB 5 2 rtT52 = true := by decide +kernel
theorem row_red {p : Nat} {row : List Nat} (O : FOk p row) {x : Nat} (e : row = fac p (row.length - 1) x) : redB p (row.length - 1) x = false := by
  refine Bool.eq_false_iff.mpr fun z => ?_
  unfold redB at z
  obtain ⟨s, hs, z⟩ := List.any_eq_true.mp z
  obtain ⟨y, hy, z⟩ := List.any_eq_true.mp z
  rw [← e] at z
  exact O.no (s + 1) y (by omega) (by have := List.mem_range.mp hs; omega) (List.mem_range.mp hy) (List.isEmpty_iff.mp z)
theorem exp_keyB : ((List.range 32).all fun p => (List.range 6).all fun n => decide (n = 0) || !decide (p ^ n ≤ 32) || !prB p || expT.any fun t => decide (t.1 = p) && decide (t.2.1 = n)) = true := by decide +kernel
theorem exp_key {p n : Nat} (hp : p < 32) (hn : n < 6) (h1 : 1 ≤ n) (hf : p ^ n ≤ 32) (hb : prB p = true) : ∃ t ∈ expT, t.1 = p ∧ t.2.1 = n := by
  have h := (List.all_eq_true.mp ((List.all_eq_true.mp exp_keyB) p (List.mem_range.mpr hp))) n (List.mem_range.mpr hn)
  rw [decide_eq_false (show ¬ n = 0 by omega), decide_eq_true hf, hb] at h
  obtain ⟨t, ht, h⟩ := List.any_eq_true.mp h
  rw [Bool.and_eq_true] at h
  exact ⟨t, ht, of_decide_eq_true h.1, of_decide_eq_true h.2⟩
theorem exp_ex {p : Nat} {row : List Nat} (O : FOk p row) : ∃ g, powV p row g (nF p row - 1) = 1 ∧ ∀ a, a ≠ 0 → a < nF p row → ∃ i, powV p row g i = a := by
  obtain ⟨x, hx, e⟩ := row_fac O
  have hl2 := O.l2
  have hl6 := O.l6
  have hp31 := O.p31
  have hq2 := nF_two O
  obtain ⟨⟨p', n', T⟩, ht, e1, e2⟩ := exp_key (by omega) (show row.length - 1 < 6 by omega) (by omega) O.few (IsPr_b O.pr hp31)
  simp only at e1 e2
  have h := (List.all_eq_true.mp exp_all) _ ht
  unfold expB at h
  simp only at h
  rw [e1, e2] at h
  have h2 := (List.all_eq_true.mp h) x (List.mem_range.mpr hx)
  rw [row_red O e, Bool.false_or, ← e] at h2
  generalize (T.getD x ([], [])).1 = P at h2
  generalize (T.getD x ([], [])).2 = L at h2
  unfold expR at h2
  rw [Bool.and_eq_true, Bool.and_eq_true, Bool.and_eq_true] at h2
  obtain ⟨⟨⟨a1, a2⟩, a3⟩, a4⟩ := h2
  have a1' := of_decide_eq_true a1
  have a2' := of_decide_eq_true a2
  have st : ∀ i, i < nF p row - 1 → tmV p row (P.getD i 0) (P.getD 1 0) = P.getD (i + 1) 0 := fun i hi => of_decide_eq_true ((List.all_eq_true.mp a3) i (List.mem_range.mpr hi))
  have pw : ∀ i, i < nF p row → powV p row (P.getD 1 0) i = P.getD i 0 := fun i => by
    induction i with
    | zero => exact fun _ => a1'.symm
    | succ i ih =>
      intro hi
      rw [powV, ih (by omega), st i (by omega)]
  refine ⟨P.getD 1 0, (pw _ (by omega)).trans a2', fun a ha0 ha => ?_⟩
  have h5 := (List.all_eq_true.mp a4) a (List.mem_range.mpr ha)
  rw [decide_eq_false ha0, Bool.false_or, Bool.and_eq_true] at h5
  exact ⟨L.getD a 0, (pw _ (of_decide_eq_true h5.1)).trans (of_decide_eq_true h5.2)⟩
theorem tm_oneL {p : Nat} {row : List Nat} (O : FOk p row) {a : Nat} (ha : a < nF p row) : tmV p row 1 a = a := by rw [tm_comm O, tm_one O ha]
theorem pow_q {p : Nat} {row : List Nat} (O : FOk p row) {a : Nat} (ha : a < nF p row) : powV p row a (nF p row) = a := by
  have hq2 := nF_two O
  by_cases h0 : a = 0
  · subst h0
    exact pow_zero O (by omega)
  · obtain ⟨g, h1, h2⟩ := exp_ex O
    obtain ⟨i, rfl⟩ := h2 a h0 ha
    rw [pow_mul O, show i * nF p row = (nF p row - 1) * i + i by rw [Nat.sub_mul, Nat.mul_comm i, Nat.one_mul]; have := Nat.mul_le_mul_right i (show 1 ≤ nF p row by omega); omega, ← pow_add O, ← pow_mul O, h1, pow_one O, tm_oneL O (pow_lt O g i)]
theorem big_keyB : ((List.range 32).all fun p => (List.range 6).all fun n => decide (n < 2) || !decide (p ^ n ≤ 32) || !prB p || bigL.any fun t => decide (t.1 = p) && decide (t.2 = n)) = true := by decide +kernel
theorem big_key {p n : Nat} (hp : p < 32) (hn : n < 6) (h1 : 2 ≤ n) (hf : p ^ n ≤ 32) (hb : prB p = true) : (p, n) ∈ bigL := by
  have h := (List.all_eq_true.mp ((List.all_eq_true.mp big_keyB) p (List.mem_range.mpr hp))) n (List.mem_range.mpr hn)
  rw [decide_eq_false (show ¬ n < 2 by omega), decide_eq_true hf, hb] at h
  obtain ⟨⟨p', n'⟩, ht, h⟩ := List.any_eq_true.mp h
  rw [Bool.and_eq_true] at h
  have e1 : p' = p := of_decide_eq_true h.1
  have e2 : n' = n := of_decide_eq_true h.2
  subst e1 e2
  exact ht
theorem pl_zeroR {p : Nat} {row : List Nat} (O : FOk p row) {a : Nat} (ha : a < nF p row) : plV p row a 0 = a := by rw [pl_comm O, pl_zero O ha]
theorem fr_one {p : Nat} {row : List Nat} (O : FOk p row) (h3 : 3 ≤ row.length) {c : Nat} (hc : c < nF p row) : powV p row (plV p row c 1) p = plV p row (powV p row c p) 1 := by
  obtain ⟨x, hx, e⟩ := row_fac O
  have hl6 := O.l6
  have hp31 := O.p31
  have hm := big_key (by omega) (show row.length - 1 < 6 by omega) (by omega) O.few (IsPr_b O.pr hp31)
  have h := (List.all_eq_true.mp fr_all) _ hm
  have h2 := (List.all_eq_true.mp h) x (List.mem_range.mpr hx)
  rw [row_red O e, Bool.false_or, ← e] at h2
  exact of_decide_eq_true ((List.all_eq_true.mp h2) c (List.mem_range.mpr hc))
theorem frob {p : Nat} {row : List Nat} (O : FOk p row) {a b : Nat} (ha : a < nF p row) (hb : b < nF p row) : powV p row (plV p row a b) p = plV p row (powV p row a p) (powV p row b p) := by
  have hp2 := O.p2
  have hl2 := O.l2
  by_cases h3 : 3 ≤ row.length
  · by_cases hb0 : b = 0
    · subst hb0
      rw [pl_zeroR O ha, pow_zero O (by omega), pl_zeroR O (pow_lt O a p)]
    · obtain ⟨v, hv, ev⟩ := inv_ex O hb0 hb
      have e1 : tmV p row b (tmV p row a v) = a := by
        rw [tm_comm O, tm_assoc O, tm_comm O v b, ev, tm_one O ha]
      have e2 : plV p row a b = tmV p row b (plV p row (tmV p row a v) 1) := by
        rw [tm_add O, e1, tm_one O hb]
      rw [e2, pow_tm O, fr_one O h3 (tm_lt O a v), tm_add O, ← pow_tm O, e1, tm_one O (pow_lt O b p)]
  · have e : nF p row = p := by
      unfold nF
      rw [show row.length - 1 = 1 by omega, Nat.pow_one]
    have q := fun {x : Nat} (hx : x < nF p row) => pow_q O hx
    rw [e] at q ha hb
    have hpl : plV p row a b < p := by
      have := pl_lt O a b
      rwa [show p ^ (row.length - 1) = p from e] at this
    rw [q hpl, q ha, q hb]
theorem filt_eq (m : Nat) : ∀ q, ((List.range q).filter fun a => decide (a = m)).length = if m < q then 1 else 0
  | 0 => by simp
  | q + 1 => by
    rw [List.range_succ, List.filter_append, List.length_append, filt_eq m q]
    by_cases h : q = m
    · subst h
      simp
    · by_cases h2 : m < q
      · rw [if_pos h2, if_pos (by omega)]
        simp [h]
      · rw [if_neg h2, if_neg (by omega)]
        simp [h]
theorem sumN_int (p k : Nat) : ∀ (l W : List Nat), l.length ≤ W.length → ((sumN p k l W : Nat) : Int) = sumTo l.length fun i => ((l.getD i 0 : Nat) : Int) * dg p (W.getD i 0) k
  | [], W, _ => by
    unfold sumN
    rfl
  | c :: l, [], h => by simp at h
  | c :: l, w :: W, h => by
    rw [sumN, List.length_cons, sumTo_succ', Int.natCast_add, sumN_int p k l W (by simpa using h), Int.natCast_mul]
    rfl
theorem root_iff {p : Nat} {row l W : List Nat} {a : Nat} (O : FOk p row) (hl : ∀ x ∈ l, x < p) (hlen : l.length ≤ W.length) (hW : ∀ i, i < W.length → W.getD i 0 = powV p row a i) : valV p row a l = 0 ↔ rootQ p (row.length - 1) l W = true := by
  have hp2 := O.p2
  have e : ∀ k, ((sumN p k l W : Nat) : Int) = sumTo l.length fun i => ((l.getD i 0 : Nat) : Int) * dg p (powV p row a i) k := fun k => by
    rw [sumN_int p k l W hlen]
    exact sumTo_congr fun i hi => by rw [hW i (by omega)]
  unfold rootQ
  rw [List.all_eq_true]
  constructor
  · intro h k hk
    refine decide_eq_true ?_
    have h1 := val_dg O a l hl k (List.mem_range.mp hk)
    rw [h, dg_zero, ← e k] at h1
    obtain ⟨c, hc⟩ := h1.symm
    have h2 : ((sumN p k l W : Nat) : Int) % ((p : Nat) : Int) = 0 := by
      rw [hc, Int.zero_add, Int.mul_emod_right]
    rw [← Int.natCast_emod] at h2
    omega
  · intro h
    refine dg_ext (show 0 < p by omega) (val_lt O a l) (Nat.pow_pos (by omega)) fun k hk => ?_
    have h1 := val_dg O a l hl k hk
    rw [← e k] at h1
    have h2 := of_decide_eq_true (h k (List.mem_range.mpr hk))
    rw [dg_zero]
    refine h1.trans ⟨((sumN p k l W / p : Nat) : Int), ?_⟩
    have h3 := Nat.div_add_mod (sumN p k l W) p
    rw [h2, Nat.add_zero] at h3
    rw [Int.zero_add, ← Int.natCast_mul, h3]
theorem roots_big {p : Nat} {row first : List Nat} {T : List (List (List Nat))} (O : FOk p row) (O' : FOk p first) (hl : first.length = row.length) (hpw : pwB p (row.length - 1) T = true) (hrt : rtB p (row.length - 1) T = true) : ((List.range (nF p row)).filter fun a => decide (valV p row a first = 0)).length = row.length - 1 := by
  obtain ⟨x, hx, e⟩ := row_fac O'
  obtain ⟨y, hy, e'⟩ := row_fac O
  have hl2 := O.l2
  have hrx := row_red O' e
  rw [hl] at e hx hrx
  have h2 := (List.all_eq_true.mp hrt) x (List.mem_range.mpr hx)
  rw [hrx, Bool.false_or] at h2
  have h4 := (List.all_eq_true.mp h2) y (List.mem_range.mpr hy)
  rw [row_red O e', Bool.false_or, ← e] at h4
  have h5 := (List.all_eq_true.mp hpw) y (List.mem_range.mpr hy)
  rw [row_red O e', Bool.false_or, ← e'] at h5
  refine Eq.trans (congrArg List.length (List.filter_congr fun a ha => ?_)) (of_decide_eq_true h4)
  have h6 := (List.all_eq_true.mp h5) a ha
  generalize (T.getD y []).getD a [] = W at h6
  unfold pwR at h6
  rw [Bool.and_eq_true, Bool.and_eq_true] at h6
  obtain ⟨⟨a1, a2⟩, a3⟩ := h6
  have hWl : W.length = row.length - 1 + 1 := of_decide_eq_true a1
  have hW : ∀ i, i < W.length → W.getD i 0 = powV p row a i := fun i => by
    induction i with
    | zero => exact fun _ => of_decide_eq_true a2
    | succ i ih =>
      intro hi
      rw [powV, ← ih (by omega)]
      exact (of_decide_eq_true ((List.all_eq_true.mp a3) i (List.mem_range.mpr (by omega)))).symm
  have h7 := root_iff (a := a) O O'.lt (by omega) hW
  by_cases h : valV p row a first = 0
  · rw [decide_eq_true h, h7.mp h]
  · rw [decide_eq_false h]
    exact (Bool.eq_false_iff.mpr fun z => h (h7.mpr z)).symm
theorem roots_many {p : Nat} {row first : List Nat} (O : FOk p row) (O' : FOk p first) (hl : first.length = row.length) : ((List.range (nF p row)).filter fun a => decide (valV p row a first = 0)).length = row.length - 1 := by
  have hl2 := O.l2
  have hl6 := O.l6
  have hp31 := O.p31
  by_cases h3 : 3 ≤ row.length
  · have hm := big_key (by omega) (show row.length - 1 < 6 by omega) (by omega) O.few (IsPr_b O.pr hp31)
    obtain ⟨T, g1, g2⟩ : ∃ T, pwB p (row.length - 1) T = true ∧ rtB p (row.length - 1) T = true := by
      simp only [bigL, List.mem_cons, Prod.mk.injEq, List.not_mem_nil, or_false] at hm
      rcases hm with ⟨e1, e2⟩ | ⟨e1, e2⟩ | ⟨e1, e2⟩ | ⟨e1, e2⟩ | ⟨e1, e2⟩ | ⟨e1, e2⟩ | ⟨e1, e2⟩ <;> rw [e1, e2]
      · exact ⟨_, pw22, rt22⟩
      · exact ⟨_, pw23, rt23⟩
      · exact ⟨_, pw24, rt24⟩
      · exact ⟨_, pw25, rt25⟩
      · exact ⟨_, pw32, rt32⟩
      · exact ⟨_, pw33, rt33⟩
      · exact ⟨_, pw52, rt52⟩
    exact roots_big O O' hl g1 g2
  · have hll : first.length = 2 := by omega
    obtain ⟨c, d, rfl⟩ : ∃ c d, first = [c, d] := by
      match first, hll with
      | [c, d], _ => exact ⟨c, d, rfl⟩
    have hd : d = 1 := O'.top
    subst hd
    have hc : c < p := O'.lt c (by simp)
    have h0q : 0 < nF p row := by have := nF_two O; omega
    have hf : ∀ a, a < nF p row → (decide (valV p row a [c, 1] = 0) = decide (a = mnV p row 0 c)) := fun a ha => by
      have ev : valV p row a [c, 1] = plV p row a c := by
        show plV p row (tmV p row (plV p row (tmV p row 0 a) 1) a) c = _
        rw [tm_comm O 0 a, tm_zero O, pl_zero O (nF_two O), tm_oneL O ha]
      rw [ev]
      by_cases h : a = mnV p row 0 c
      · rw [decide_eq_true h, h, pl_mn O h0q]
        rfl
      · rw [decide_eq_false h]
        refine decide_eq_false fun z => h ?_
        have := mn_pl O (b := c) ha
        rw [z] at this
        exact this.symm
    rw [List.filter_congr (fun a ha => hf a (List.mem_range.mp ha)), filt_eq, if_pos (mn_lt O 0 c)]
    omega

theorem niF7 {i j : Int} {A B : Prop} (h : i = j) (k : B) : if (!decide (V.int i = V.int j)) = true then A else B := by
  rw [decide_eq_true (congrArg V.int h)]
  exact iteF k
theorem scLTotal : FnScope ["_law_p", "_law_size", "_law_found", "_law_k"] ["_law_p", "_law_size"] (defScope sLTotal) := ⟨rfl, rfl, rfl, by decide +kernel, rfl, by decide +kernel, by decide +kernel⟩
def spTot : Sp := fun vs H Q _ => ∃ (p n : Nat), vs = [.int ((p : Nat) : Int), .int ((n : Nat) : Int)] ∧ p ≤ 31 ∧ n ≤ 6 ∧ Q (.int ((p ^ n : Nat) : Int)) H
theorem ok_tot {f : Addr} {fd : FuncData} (F : Fun K "_law_total" "_law_total" sLTotal f fd) (T : TxtB mg) : FnOk P w K mg base CX0 1 f fd ["_law_p", "_law_size"] spTot := by
  refine F.okQ scLTotal (fun vs H Q E h => ?_) (fun cdv A outer s H vs Q E hr h => ?_)
  · obtain ⟨p, n, rfl, _⟩ := h
    rfl
  · obtain ⟨p, n, rfl, hp, hn, q⟩ := h
    refine ⟨_, (qss_cons (qs_set (i := 2) scLTotal.nd rfl (Or.inl rfl) qe_int)
      (qss_cons (qs_for PassesOwn.never rfl (qi_range1 rfl T.range (qac (qv 1) qa_nil)) (qg_name (i := 3) scLTotal.nd rfl (Or.inl rfl))
        (qss_one (qs_set (i := 2) scLTotal.nd rfl (Or.inl rfl) (qe_op op_mul (qv 2) (qv 0)))))
      (qss_one (qs_ret (qv 2))))), ?_⟩
    refine ⟨_, rfl, ((n : Nat) : Int), rfl, by omega, by omega, ?_⟩
    rw [Int.toNat_natCast]
    refine for_range (lo := 0) (n := n) (fun i σ H2 => H2 = H ∧ ∃ x3, σ = [some (.int ((p : Nat) : Int)), some (.int ((n : Nat) : Int)), some (.int ((p ^ i : Nat) : Int)), x3]) ⟨rfl, none, rfl⟩ ?_ ?_
    · rintro i σ H2 hi ⟨rfl, x3, rfl⟩
      have hpw := pow_le6 hp (show i ≤ 6 by omega)
      have hps : ((p ^ i : Nat) : Int) * ((p : Nat) : Int) = ((p ^ (i + 1) : Nat) : Int) := by
        rw [Nat.pow_succ]
        simp
      refine ⟨_, rfl, _, rfl, _, _, rfl, rfl, .inl ⟨by omega, by omega⟩, rfl, some (.int (0 + ((i : Nat) : Int))), ?_⟩
      rw [← hps]
      rfl
    · rintro σ H2 ⟨rfl, x3, rfl⟩
      exact ⟨_, rfl, q⟩
def spRowBy : Sp := fun vs H Q _ => ∃ (p n x : Nat), vs = [.int ((p : Nat) : Int), .int ((n : Nat) : Int), .int ((x : Nat) : Int)] ∧ 1 ≤ p ∧ p ≤ 31 ∧ 1 ≤ n ∧ n ≤ 5 ∧ ∀ (t : Addr) (H' : Hp), Same H H' → H' t = some (.tup (nats (fac p n x))) → Q (.ref t) H'
theorem scLRowBy : FnScope ["_law_p", "_law_size", "_law_x", "_law_found", "_law_k"] ["_law_p", "_law_size", "_law_x"] (defScope sLRowBy) := ⟨rfl, rfl, rfl, by decide +kernel, rfl, by decide +kernel, by decide +kernel⟩
theorem ok_rowby {f : Addr} {fd : FuncData} (F : Fun K "_law_row_by" "_law_row_by" sLRowBy f fd) (T : TxtB mg) : FnOk P w K mg base CX0 1 f fd ["_law_p", "_law_size", "_law_x"] spRowBy := by
  refine F.okQ scLRowBy (fun vs H Q E h => ?_) (fun cdv A outer s H vs Q E hr h => ?_)
  · obtain ⟨p, n, x, rfl, _⟩ := h
    rfl
  · obtain ⟨p, n, x, rfl, hp, hp31, hn1, hn, q⟩ := h
    refine ⟨_, (qss_cons (qs_set (i := 3) scLRowBy.nd rfl (Or.inl rfl) (qe_lst qa_nil))
      (qss_cons (qs_for PassesOwn.never rfl (qi_range1 rfl T.range (qac (qv 1) qa_nil)) (qg_name (i := 4) scLRowBy.nd rfl (Or.inl rfl))
        (qss_cons (qs_expr (qe_bm PySem.F.plainAttrs_list PySem.F.slot_list_append PySem.F.type_list_append mt_append (qv 3) (qac (qe_op op_mod (qv 2) (qv 0)) qa_nil)))
        (qss_one (qs_set (i := 2) scLRowBy.nd rfl (Or.inl rfl) (qe_op op_fdiv (qv 2) (qv 0))))))
      (qss_one (qs_ret (qe_op op_catT (qe_callTy call_tuple_of (by rfl) T.tup (by decide +kernel) (qac (qv 3) qa_nil)) (qe_tup (qac qe_int qa_nil))))))), ?_⟩
    refine ⟨by show 0 ≤ sizeLine; decide, fun l hl => ⟨_, rfl, ((n : Nat) : Int), rfl, by omega, by omega, ?_⟩⟩
    rw [Int.toNat_natCast]
    refine for_range (lo := 0) (n := n) (fun j σ H2 => Same H H2 ∧ (∃ x4, σ = [some (.int ((p : Nat) : Int)), some (.int ((n : Nat) : Int)), some (.int ((x / p ^ j : Nat) : Int)), some (.ref l), x4]) ∧ H2 l = some (.lst (nats (digN p j x)))) ⟨same_new hl, ⟨none, by rw [Nat.pow_zero, Nat.div_one]; rfl⟩, upd_same⟩ ?_ ?_
    · rintro j σ H2 hj ⟨s2, ⟨x4, rfl⟩, hl2⟩
      have e1 : ((x / p ^ j : Nat) : Int) % ((p : Nat) : Int) = ((x / p ^ j % p : Nat) : Int) := by simp
      have e2 : ((x / p ^ j : Nat) : Int) / ((p : Nat) : Int) = ((x / p ^ (j + 1) : Nat) : Int) := by
        rw [Nat.pow_succ, ← Nat.div_div_eq_div_mul]
        simp
      refine ⟨_, rfl, .inl ⟨rfl, _, SqL.of hl2⟩, _, rfl, _, rfl, _, _, rfl, rfl, by omega, l, _, .int ((x / p ^ j % p : Nat) : Int), rfl, ?_, hl2, by rw [nats_len, digN_len]; exact Nat.lt_of_lt_of_le (show j < 7 by omega) (by decide), ?_⟩
      · show [V.int (((x / p ^ j : Nat) : Int) % ((p : Nat) : Int))] = _
        rw [e1]
      refine ⟨_, rfl, _, rfl, _, _, rfl, rfl, ⟨by omega, by omega⟩, same_upd s2 hl, ⟨some (.int (0 + ((j : Nat) : Int))), ?_⟩, ?_⟩
      · show [_, _, some (V.int (((x / p ^ j : Nat) : Int) / ((p : Nat) : Int))), _, _] = _
        rw [e2]
      · rw [upd_same, digN_snoc, nats_snoc]
    · rintro σ H2 ⟨s2, ⟨x4, rfl⟩, hl2⟩
      refine ⟨_, rfl, l, _, rfl, .inl ⟨SqL.of hl2, fun t ht => ⟨by show 1 ≤ sizeLine; decide, fun e he => ?_⟩⟩⟩
      have w3 := same_new (o := .tup (nats (digN p n x))) ht
      have w5 := same_new (o := .tup [.int 1]) he
      refine ⟨t, e, _, _, rfl, rfl, SqT.of (w5 _ _ upd_same), SqT.of upd_same, ?_, ?_, (fun z => by cases z), fun _ c hc => ?_⟩
      · intro z
        have := congrArg List.length z
        rw [nats_len, digN_len] at this
        simp at this
        omega
      · rw [nats_len, digN_len]
        exact Nat.le_trans (show n + 1 ≤ 6 by omega) (by decide)
      have ef : nats (digN p n x) ++ [V.int 1] = nats (fac p n x) := by
        unfold fac
        rw [nats_snoc]
        rfl
      rw [ef]
      exact q c _ (s2.trans (w3.trans (w5.trans (same_new hc)))) upd_same
/-- the row and what was taken off behind it -/
theorem restN_succ (p : Nat) (b : List Nat) : ∀ n l, restN p b (n + 1) l = stepL p b (restN p b n l)
  | 0, _ => rfl
  | n + 1, l => by
    rw [restN, restN_succ p b n (stepL p b l)]
    rfl
theorem restN_len (p : Nat) (b : List Nat) : ∀ n l, (restN p b n l).length = l.length - n
  | 0, _ => rfl
  | n + 1, l => by
    rw [restN_succ, stepL_len, restN_len p b n l]
    omega
theorem step_whole {p : Nat} {b l Z : List Nat} {m : Nat} (hp : 0 < p) (hb : b.length = m + 1) (h1 : b.getD m 0 = 1) (hl : m + 1 ≤ l.length) : stepJ p b (l.length - b.length) (l.getD (l.length - 1) 0) (l ++ Z) (m + 1) = stepL p b l ++ (0 :: Z) := by
  have hr0 : red p (l.getD (l.length - 1) 0) (l.getD (l.length - 1) 0) 1 = 0 := by
    unfold red
    simp
  apply List.ext_getElem
  · rw [stepJ_len, List.length_append, List.length_append, stepL_len, List.length_cons]
    omega
  · intro i g1 g2
    have hi : i < (l ++ Z).length := by rw [stepJ_len] at g1; exact g1
    rw [stepJ_get g1 hi]
    by_cases c1 : i < l.length - 1
    · rw [List.getElem_append_left (show i < (stepL p b l).length by rw [stepL_len]; exact c1)]
      unfold stepL
      rw [stepJ_get (by rw [stepJ_len, List.length_dropLast]; exact c1) (by rw [List.length_dropLast]; exact c1), List.getElem_append_left (show i < l.length by omega), List.getElem_dropLast]
      by_cases c2 : l.length - b.length ≤ i
      · rw [if_pos ⟨c2, by omega⟩, if_pos ⟨c2, by omega⟩]
      · rw [if_neg (by omega), if_neg (by omega)]
    · rw [List.getElem_append_right (show (stepL p b l).length ≤ i by rw [stepL_len]; omega)]
      by_cases c3 : i = l.length - 1
      · subst c3
        rw [if_pos ⟨by omega, by omega⟩, List.getElem_append_left (show l.length - 1 < l.length by omega), show l.length - 1 - (l.length - b.length) = m by omega, h1]
        have e : l[l.length - 1] = l.getD (l.length - 1) 0 := by
          rw [List.getD_eq_getElem?_getD, List.getElem?_eq_getElem (show l.length - 1 < l.length by omega)]
          rfl
        rw [e, hr0]
        simp [stepL_len]
      · rw [if_neg (by omega), List.getElem_append_right (show l.length ≤ i by omega)]
        rw [List.getElem_cons]
        simp only [stepL_len]
        rw [dif_neg (by omega)]
        congr 1
        omega
theorem rng_downF : ∀ N m : Fin 7, m.val ≤ N.val → 1 ≤ m.val → Builtin.Range.small (((N.val : Nat) : Int) - 1) (((m.val : Nat) : Int) - 1) (-1) = true ∧ Builtin.Range.rangeSize (((N.val : Nat) : Int) - 1) (((m.val : Nat) : Int) - 1) (-1) = ((N.val - m.val : Nat) : Int) := by decide
theorem rng_down (N : Nat) (hN : N < 7) (m : Nat) (hm : m < 7) (h : m ≤ N) (_ : 1 ≤ N) (h1 : 1 ≤ m) : Builtin.Range.small (((N : Nat) : Int) - 1) (((m : Nat) : Int) - 1) (-1) = true ∧ Builtin.Range.rangeSize (((N : Nat) : Int) - 1) (((m : Nat) : Int) - 1) (-1) = ((N - m : Nat) : Int) := rng_downF ⟨N, hN⟩ ⟨m, hm⟩ h h1
theorem trim_nil_iff (l : List Nat) : trimL l = [] ↔ ∀ x ∈ l, x = 0 := by
  constructor
  · intro h x hx
    obtain ⟨i, hi, rfl⟩ := List.mem_iff_getElem.mp hx
    have := trim_at l i
    rw [h, List.getD_eq_getElem?_getD, List.getD_eq_getElem?_getD, List.getElem?_eq_getElem hi] at this
    exact this.symm
  · intro h
    have e : trimL l = trimL [] := trim_ext fun i => by
      by_cases hi : i < l.length
      · rw [getD_in hi, h _ (List.getElem_mem hi)]
        rfl
      · rw [getD_out (by omega)]
        rfl
    rw [e]
    rfl
def spDivd : Sp := fun vs H Q _ => ∃ (a b : Addr) (p m : Nat) (row by' : List Nat), vs = [.int ((p : Nat) : Int), .ref a, .ref b] ∧ H a = some (.tup (nats row)) ∧ H b = some (.tup (nats by')) ∧ 1 ≤ p ∧ p ≤ 31 ∧ by'.length = m + 1 ∧ by'.getD m 0 = 1 ∧ 1 ≤ m ∧ m + 1 ≤ row.length ∧ row.length ≤ 6 ∧ (∀ x ∈ row, x < 32) ∧ ∀ H', Same H H' → Q (.bl (decide (trimL (restF p by' row) = []))) H'
theorem scLDivided : FnScope ["_law_p", "_law_row", "_law_by", "_law_left", "_law_top", "_law_much", "_law_k", "_law_at"] ["_law_p", "_law_row", "_law_by"] (defScope sLDivided) := ⟨rfl, rfl, rfl, by decide +kernel, rfl, by decide +kernel, by decide +kernel⟩
theorem ok_divd {f : Addr} {fd : FuncData} (F : Fun K "_law_divided" "_law_divided" sLDivided f fd) (T : TxtB mg) : FnOk P w K mg base CX0 1 f fd ["_law_p", "_law_row", "_law_by"] spDivd := by
  refine F.okQ scLDivided (fun vs H Q E h => ?_) (fun cdv A outer s H vs Q E hr1 h => ?_)
  · obtain ⟨a, b, p, m, row, by', rfl, _⟩ := h
    rfl
  · obtain ⟨a, b, p, m, row, by', rfl, ha, hb, hp1, hp31, hbm, hb1, hm1, hmr, hr6, hrow, q⟩ := h
    refine ⟨_, (qss_cons (qs_set (i := 3) scLDivided.nd rfl (Or.inl rfl) (qe_callTy call_list_of (by rfl) T.lst (by decide +kernel) (qac (qv 1) qa_nil)))
      (qss_cons (qs_for PassesOwn.never rfl (qi_range3 rfl T.range (qac (qe_op op_sub (qe_callB call_len_seq (by rfl) T.len PySem.boot_len (qac (qv 3) qa_nil)) qe_int) (qac (qe_op op_sub (qe_callB call_len_seq (by rfl) T.len PySem.boot_len (qac (qv 2) qa_nil)) qe_int) (qac (qe_un un_neg qe_int) qa_nil)))) (qg_name (i := 4) scLDivided.nd rfl (Or.inl rfl))
        (qss_cons (qs_set (i := 5) scLDivided.nd rfl (Or.inl rfl) (qe_ix ix_list (qv 3) (qv 4) (fun _ _ => rfl)))
        (qss_one (qs_for PassesOwn.never rfl (qi_range1 rfl T.range (qac (qe_callB call_len_seq (by rfl) T.len PySem.boot_len (qac (qv 2) qa_nil)) qa_nil)) (qg_name (i := 6) scLDivided.nd rfl (Or.inl rfl))
          (qss_cons (qs_set (i := 7) scLDivided.nd rfl (Or.inl rfl) (qe_op op_add (qe_op op_add (qe_op op_sub (qv 4) (qe_callB call_len_seq (by rfl) T.len PySem.boot_len (qac (qv 2) qa_nil))) qe_int) (qv 6)))
          (qss_one (qs_asg (qe_op op_mod (qe_op op_sub (qe_ix ix_list (qv 3) (qv 7) (fun _ _ => rfl)) (qe_op op_mul (qv 5) (qe_ix ix_tup (qv 2) (qv 6) (fun _ _ => rfl)))) (qv 0)) (qg_sub (qv 3) (qv 7) set_list))))))))
      (qss_one (qs_ret (qe_callB (call_all rfl) (by rfl) T.all (by decide +kernel) (qac (qe_comp (g := gName 0) (N := ["_law_part"]) (src := [none]) rfl (comp_scope (defScope sLDivided) ["_law_p", "_law_row", "_law_by", "_law_left", "_law_top", "_law_much", "_law_k", "_law_at"] rfl rfl (by decide +kernel) rfl) (qi_list (qv 3)) (fun _ _ _ _ _ => (qg_name (i := 0) (show (["_law_part"] : List Str).Nodup by decide +kernel) rfl (Or.inl rfl) (Or.inr rfl))) (fun _ _ _ _ _ => qif_nil) (fun _ _ _ _ _ => (qe_cmpR op_eq (qv 0) qe_int (nomark _)))) qa_nil)))))), ?_⟩
    refine ⟨_, rfl, a, _, rfl, .inr (SqT.of ha), fun g hg => ?_⟩
    have w1 := same_new (o := .lst (nats row)) hg
    have hg1 : (upd H g (.lst (nats row))) g = some (.lst (nats row)) := upd_same
    generalize upd H g (.lst (nats row)) = H1 at w1 hg1 ⊢
    obtain ⟨rs, rz⟩ := rng_down row.length (by omega) m (by omega) (by omega) (by omega) (by omega)
    refine ⟨_, rfl, g, _, rfl, .inl (SqL.of hg1), _, _, rfl, rfl, _, rfl, b, _, rfl, .inr (SqT.of (w1 _ _ hb)), _, _, rfl, rfl, _, rfl, ((row.length : Nat) : Int) - 1, ((m : Nat) : Int) - 1, -1, row.length - m, ?_, by decide, by decide, rs, rz, ?_⟩
    · show [V.int ((((nats row).length : Nat) : Int) - 1), V.int ((((nats by').length : Nat) : Int) - 2), V.int (-1)] = _
      rw [nats_len, nats_len, hbm, show ((m + 1 : Nat) : Int) - 2 = ((m : Nat) : Int) - 1 by omega]
    refine for_its (lo := ((row.length : Nat) : Int) - 1) (c := -1) (n := row.length - m) (fun i σ H2 => Same H H2 ∧ H2 g = some (.lst (nats (restN p by' i row ++ List.replicate i 0))) ∧ (∀ x ∈ restN p by' i row, x < 32) ∧ ∃ x4 x5 x6 x7 : Option V, σ = [some (.int ((p : Nat) : Int)), some (.ref a), some (.ref b), some (.ref g), x4, x5, x6, x7]) ⟨w1, by rw [show restN p by' 0 row = row from rfl, List.replicate_zero, List.append_nil]; exact hg1, hrow, none, none, none, none, rfl⟩ ?_ ?_
    · rintro i σ H2 hi ⟨s2, hg2, hlt, x4, x5, x6, x7, rfl⟩
      have hll := restN_len p by' i row
      obtain ⟨l, el⟩ : ∃ l, restN p by' i row = l := ⟨_, rfl⟩
      rw [el] at hg2 hlt hll
      have hl1 : m + 1 ≤ l.length := by omega
      have etop : ((row.length : Nat) : Int) - 1 + ((i : Nat) : Int) * -1 = ((l.length - 1 : Nat) : Int) := by omega
      rw [etop]
      have hLl : (l ++ List.replicate i 0).length = row.length := by rw [List.length_append, List.length_replicate]; omega
      have etl : (l ++ List.replicate i 0).getD (l.length - 1) 0 = l.getD (l.length - 1) 0 := by
        rw [List.getD_eq_getElem?_getD, List.getElem?_append_left (by omega), ← List.getD_eq_getElem?_getD]
      have htop : l.getD (l.length - 1) 0 < 32 := by
        rw [List.getD_eq_getElem?_getD, List.getElem?_eq_getElem (by omega)]
        exact hlt _ (List.getElem_mem _)
      have e0 : atI (nats (l ++ List.replicate i 0)) ((l.length - 1 : Nat) : Int) = some (.int ((l.getD (l.length - 1) 0 : Nat) : Int)) := by
        rw [nat_atQ (by omega), etl]
      refine ⟨_, rfl, _, rfl, g, _, _, _, rfl, rfl, SqL.of hg2, e0, ?_⟩
      refine ⟨_, rfl, b, _, rfl, .inr (SqT.of (s2 _ _ hb)), ((m + 1 : Nat) : Int), ?_, by omega, by omega, ?_⟩
      · show [V.int (((nats by').length : Nat) : Int)] = _
        rw [nats_len, hbm]
      rw [Int.toNat_natCast]
      refine for_range (lo := 0) (n := m + 1) (fun j σ H5 => Same H H5 ∧ (∃ x6 x7 : Option V, σ = [some (.int ((p : Nat) : Int)), some (.ref a), some (.ref b), some (.ref g), some (.int ((l.length - 1 : Nat) : Int)), some (.int ((l.getD (l.length - 1) 0 : Nat) : Int)), x6, x7]) ∧ H5 g = some (.lst (nats (stepJ p by' (l.length - by'.length) (l.getD (l.length - 1) 0) (l ++ List.replicate i 0) j)))) ⟨s2, ⟨_, _, rfl⟩, by rw [stepJ_zero]; exact hg2⟩ ?_ ?_
      · rintro j σ H6 hj ⟨s6, ⟨x6, x7, rfl⟩, hg6⟩
        rw [Int.zero_add]
        have hix : l.length - by'.length + j < (l ++ List.replicate i 0).length := by rw [hLl]; omega
        have e2 : atI (nats (stepJ p by' (l.length - by'.length) (l.getD (l.length - 1) 0) (l ++ List.replicate i 0) j)) ((l.length - by'.length + j : Nat) : Int) = some (.int (((l ++ List.replicate i 0).getD (l.length - by'.length + j) 0 : Nat) : Int)) := by
          rw [nat_atQ (by rw [stepJ_len]; exact hix), stepJ_at hix]
        obtain ⟨r1, r2⟩ := red_int (p := p) (v := (l ++ List.replicate i 0).getD (l.length - by'.length + j) 0) (t := l.getD (l.length - 1) 0) (d := by'.getD j 0) (by omega)
        refine ⟨_, rfl, _, rfl, b, _, rfl, .inr (SqT.of (s6 _ _ hb)), _, _, rfl, rfl, _, _, rfl, rfl, _, rfl, _, _, rfl, rfl, ?_⟩
        dsimp only
        rw [nats_len, show ((l.length - 1 : Nat) : Int) - ((by'.length : Nat) : Int) + 1 + ((j : Nat) : Int) = ((l.length - by'.length + j : Nat) : Int) by omega]
        refine ⟨_, rfl, _, rfl, g, _, _, _, rfl, rfl, SqL.of hg6, e2, _, rfl, _, rfl, _, rfl, b, _, _, _, rfl, rfl, SqT.of (s6 _ _ hb), nat_atQ (by omega), _, _, rfl, rfl, .inl ⟨by omega, by omega⟩, _, _, rfl, rfl, _, rfl, _, _, rfl, rfl, by omega, _, rfl, _, rfl, g, _, _, l.length - by'.length + j, rfl, rfl, hg6, by rw [nats_len, stepJ_len]; exact ixN_nat hix, ?_⟩
        have key : (nats (stepJ p by' (l.length - by'.length) (l.getD (l.length - 1) 0) (l ++ List.replicate i 0) j)).set (l.length - by'.length + j) (V.int (((((l ++ List.replicate i 0).getD (l.length - by'.length + j) 0 : Nat) : Int) - ((l.getD (l.length - 1) 0 : Nat) : Int) * ((by'.getD j 0 : Nat) : Int)) % ((p : Nat) : Int))) = nats (stepJ p by' (l.length - by'.length) (l.getD (l.length - 1) 0) (l ++ List.replicate i 0) (j + 1)) := by
          rw [r1, nats_setQ, stepJ_succ hix]
        refine ⟨same_upd s6 hg, ⟨_, _, rfl⟩, ?_⟩
        rw [upd_same]
        exact congrArg (fun z => some (HO.lst z)) key
      · rintro σ H5 ⟨s5, ⟨x6, x7, rfl⟩, hg5⟩
        rw [step_whole hp1 hbm hb1 hl1] at hg5
        refine ⟨s5, ?_, ?_, _, _, _, _, rfl⟩
        · rw [restN_succ, el, List.replicate_succ]
          exact hg5
        · rw [restN_succ, el]
          exact stepJ_lt (by omega) (by omega) fun x hx => hlt x (List.dropLast_subset _ hx)
    · rintro σ H2 ⟨s2, hg2, hlt, x4, x5, x6, x7, rfl⟩
      have eF : restN p by' (row.length - m) row = restF p by' row := by
        unfold restF
        rw [hbm, show row.length + 1 - (m + 1) = row.length - m by omega]
      rw [eF] at hg2
      have hLl : (restF p by' row ++ List.replicate (row.length - m) 0).length = row.length := by
        rw [← eF, List.length_append, List.length_replicate, restN_len]
        omega
      refine ⟨_, rfl, g, rfl, ⟨_, SqL.of hg2⟩, comp_list (K := K) (a := g) (xs := nats (restF p by' row ++ List.replicate (row.length - m) 0)) (fun i zs H3 => H3 = H2 ∧ zs = (((restF p by' row ++ List.replicate (row.length - m) 0).take i).map fun x => decide (V.int ((x : Nat) : Int) = V.int 0)).map V.bl) ⟨rfl, rfl⟩ (fun i zs H3 _ ⟨e, _⟩ => SqL.of (e ▸ hg2)) ?_ ?_⟩
      · rintro i v zs H3 N hi ⟨rfl, rfl⟩ nx
        obtain ⟨y, hy, rfl⟩ := L2.nats_get hi
        have hil := (List.getElem?_eq_some_iff.mp hy).1
        refine ⟨Weak.set (by intro v z; cases z), ⟨_, rfl, rfl, ?_, nx _ _ ⟨rfl, ?_⟩⟩⟩
        · rw [List.length_map, List.length_map, List.length_take]
          exact Nat.lt_of_le_of_lt (show min i _ ≤ 6 by omega) (by decide)
        · rw [take_snoc hy, List.map_append, List.map_append]
          rfl
      · rintro zs H3 ⟨rfl, rfl⟩
        rw [nats_len, List.take_length]
        refine ⟨by rw [List.length_map, List.length_map]; exact Nat.le_trans (show _ ≤ 6 by omega) (by decide), fun u hu => ?_⟩
        refine ⟨u, _, rfl, SqL.of upd_same, ?_⟩
        have e : (((restF p by' row ++ List.replicate (row.length - m) 0).map fun x => decide (V.int ((x : Nat) : Int) = V.int 0)).all id) = decide (trimL (restF p by' row) = []) := by
          by_cases h : trimL (restF p by' row) = []
          · rw [decide_eq_true h, List.all_eq_true]
            intro z hz
            obtain ⟨x, hx, rfl⟩ := List.mem_map.mp hz
            have hx0 : x = 0 := by
              rcases List.mem_append.mp hx with y | y
              · exact (trim_nil_iff _).mp h x y
              · exact List.eq_of_mem_replicate y
            subst hx0
            exact decide_eq_true rfl
          · rw [decide_eq_false h]
            refine Bool.eq_false_iff.mpr fun z => h ((trim_nil_iff _).mpr fun x hx => ?_)
            have h2 := (List.all_eq_true.mp z) _ (List.mem_map.mpr ⟨x, List.mem_append_left _ hx, rfl⟩)
            have h3 := V.int.inj (of_decide_eq_true h2)
            omega
        rw [e]
        exact q _ (s2.trans (same_new hu))
def spStays : Sp := fun vs H Q _ => ∃ (a : Addr) (p : Nat) (row : List Nat), vs = [.int ((p : Nat) : Int), .ref a] ∧ H a = some (.tup (nats row)) ∧ 2 ≤ p ∧ p ≤ 31 ∧ 2 ≤ row.length ∧ row.length ≤ 6 ∧ (∀ x ∈ row, x < 32) ∧ ∀ (c : Bool) (H' : Hp), Same H H' → (c = true → Dv p row none) → (c = false → ¬ Dv p row none) → Q (.bl c) H'
theorem scLStays : FnScope ["_law_p", "_law_row", "_law_size", "_law_x"] ["_law_p", "_law_row"] (defScope sLStays) := ⟨rfl, rfl, rfl, by decide +kernel, rfl, by decide +kernel, by decide +kernel⟩
theorem fac_top (p n x : Nat) : (fac p n x).getD n 0 = 1 := by
  unfold fac
  rw [List.getD_eq_getElem?_getD, List.getElem?_append_right (by rw [digN_len]; exact Nat.le_refl _), digN_len, Nat.sub_self]
  rfl
theorem ok_stays {f : Addr} {fd : FuncData} (F : Fun K "_law_stays" "_law_stays" sLStays f fd) (T : TxtB mg) (pLTotal : Pm P w K mg base CX0 1 "_law_total" ["_law_p", "_law_size"] spTot) (pLRowBy : Pm P w K mg base CX0 1 "_law_row_by" ["_law_p", "_law_size", "_law_x"] spRowBy) (pLDivided : Pm P w K mg base CX0 1 "_law_divided" ["_law_p", "_law_row", "_law_by"] spDivd) : FnOk P w K mg base CX0 2 f fd ["_law_p", "_law_row"] spStays := by
  refine F.okQ scLStays (fun vs H Q E h => ?_) (fun cdv A outer s H vs Q E hr1 h => ?_)
  · obtain ⟨a, p, row, rfl, _⟩ := h
    rfl
  · obtain ⟨a, p, row, rfl, ha, hp2, hp31, hr2, hr6, hrow, q⟩ := h
    refine ⟨_, (qss_cons (qs_for PassesOwn.never rfl (qi_range2 rfl T.range (qac qe_int (qac (qe_op op_add (qe_op op_fdiv (qe_op op_sub (qe_callB call_len_seq (by rfl) T.len PySem.boot_len (qac (qv 1) qa_nil)) qe_int) qe_int) qe_int) qa_nil))) (qg_name (i := 2) scLStays.nd rfl (Or.inl rfl))
        (qss_one (qs_for PassesOwn.never rfl (qi_range1 rfl T.range (qac (qe_callP pLTotal hr1 rfl pass0 (qac (qv 0) (qac (qv 2) qa_nil))) qa_nil)) (qg_name (i := 3) scLStays.nd rfl (Or.inl rfl))
          (qss_one (qs_if (qt_val (qe_callP pLDivided hr1 rfl pass0 (qac (qv 0) (qac (qv 1) (qac (qe_callP pLRowBy hr1 rfl pass0 (qac (qv 0) (qac (qv 2) (qac (qv 3) qa_nil)))) qa_nil))))) (qss_one (qs_ret qe_bl)) qss_nil)))))
      (qss_one (qs_ret qe_bl))), ?_⟩
    have hM : ((((row.length : Nat) : Int) - 1) / 2 + 1 - 1).toNat = (row.length - 1) / 2 := by
      rw [Int.add_sub_cancel]
      rcases half_int row.length with z | z
      · rw [z, Int.toNat_natCast]
      · exact z
    refine ⟨_, rfl, a, _, rfl, .inr (SqT.of ha), _, _, rfl, rfl, _, _, rfl, rfl, ⟨by decide, by decide⟩, _, _, rfl, rfl, 1, (((row.length : Nat) : Int) - 1) / 2 + 1, by rw [nats_len], ⟨by omega, by omega, by omega, by omega⟩, ?_⟩
    rw [hM]
    refine for_range (lo := 1) (n := (row.length - 1) / 2) (fun i σ H2 => Same H H2 ∧ (∃ x2 x3 : Option V, σ = [some (.int ((p : Nat) : Int)), some (.ref a), x2, x3]) ∧ ∀ s x, 1 ≤ s → s ≤ i → x < p ^ s → trimL (restF p (fac p s x) row) ≠ []) ⟨Same.refl _, ⟨none, none, rfl⟩, fun s x z1 z2 => by omega⟩ ?_ ?_
    · rintro i σ H2 hi ⟨s2, ⟨x2, x3, rfl⟩, hno⟩
      have hi2 : i + 1 ≤ 2 := by omega
      have hpw1 := pow_le6 hp31 (show i + 1 ≤ 6 by omega)
      rw [show (1 : Int) + ((i : Nat) : Int) = ((i + 1 : Nat) : Int) by omega]
      refine ⟨_, rfl, _, rfl, p, i + 1, rfl, hp31, by omega, ((p ^ (i + 1) : Nat) : Int), rfl, by omega, by omega, ?_⟩
      rw [Int.toNat_natCast]
      refine for_range (lo := 0) (n := p ^ (i + 1)) (fun x σ H3 => Same H H3 ∧ (∃ x3 : Option V, σ = [some (.int ((p : Nat) : Int)), some (.ref a), some (.int ((i + 1 : Nat) : Int)), x3]) ∧ ∀ y, y < x → trimL (restF p (fac p (i + 1) y) row) ≠ []) ⟨s2, ⟨_, rfl⟩, fun y z => by omega⟩ ?_ ?_
      · rintro x σ H3 hx ⟨s3, ⟨x3, rfl⟩, hno2⟩
        rw [Int.zero_add]
        refine ⟨_, rfl, _, rfl, _, rfl, _, rfl, _, rfl, p, i + 1, x, rfl, by omega, hp31, by omega, by omega, fun t H4 s4 ht4 => ?_⟩
        refine ⟨a, t, p, i + 1, row, fac p (i + 1) x, rfl, (s3.trans s4) _ _ ha, ht4, by omega, hp31, fac_len .., fac_top .., by omega, by omega, hr6, hrow, fun H5 s5 => ⟨_, rfl, ?_⟩⟩
        have s35 := s3.trans (s4.trans s5)
        by_cases h1 : trimL (restF p (fac p (i + 1) x) row) = []
        · exact ifT h1 (q false _ s35 (fun z => by cases z) fun _ z => z (i + 1) x (by omega) (by omega) hx h1)
        · refine ifF h1 ⟨s35, ⟨_, rfl⟩, fun y hy => ?_⟩
          by_cases e2 : y = x
          · subst e2
            exact h1
          · exact hno2 y (by omega)
      · rintro σ H3 ⟨s3, ⟨x3, rfl⟩, hno2⟩
        refine ⟨s3, ⟨_, _, rfl⟩, fun s x z1 z2 z3 => ?_⟩
        by_cases e2 : s = i + 1
        · subst e2
          exact hno2 x z3
        · exact hno s x z1 (by omega) z3
    · rintro σ H2 ⟨s2, ⟨x2, x3, rfl⟩, hno⟩
      exact q true _ s2 (fun _ => hno) fun z => by cases z
def spRowFrom : Sp := fun vs H Q _ => ∃ (p n : Nat) (z : Int), vs = [.int ((p : Nat) : Int), .int ((n : Nat) : Int), .int z] ∧ p ∈ PrL ∧ 1 ≤ n ∧ n ≤ 5 ∧ p ^ n ≤ 32 ∧ ∀ (t : Addr) (row : List Nat) (H' : Hp), Same H H' → H' t = some (.tup (nats row)) → FOk p row → row.length = n + 1 → Q (.ref t) H'
theorem scLRowFrom : FnScope ["_law_p", "_law_size", "_law_x", "_law_total_here"] ["_law_p", "_law_size", "_law_x"] (defScope sLRowFrom) := ⟨rfl, rfl, rfl, by decide +kernel, rfl, by decide +kernel, by decide +kernel⟩
theorem ok_rowfrom {f : Addr} {fd : FuncData} (F : Fun K "_law_row_from" "_law_row_from" sLRowFrom f fd) (pLTotal : Pm P w K mg base CX0 1 "_law_total" ["_law_p", "_law_size"] spTot) (pLRowBy : Pm P w K mg base CX0 1 "_law_row_by" ["_law_p", "_law_size", "_law_x"] spRowBy) (pLStays : Pm P w K mg base CX0 2 "_law_stays" ["_law_p", "_law_row"] spStays) : FnOk P w K mg base CX0 3 f fd ["_law_p", "_law_size", "_law_x"] spRowFrom := by
  refine F.okQ scLRowFrom (fun vs H Q E h => ?_) (fun cdv A outer s H vs Q E hr2 h => ?_)
  · obtain ⟨p, n, z, rfl, _⟩ := h
    rfl
  · obtain ⟨p, n, z, rfl, hpr, hn1, hn5, hpn32, q⟩ := h
    have hr1 := hr2.mono (show 1 ≤ 2 by decide)
    obtain ⟨hp2, hp31, _⟩ := prL_all p hpr
    refine ⟨_, (qss_cons (qs_set (i := 3) scLRowFrom.nd rfl (Or.inl rfl) (qe_callP pLTotal hr1 rfl pass0 (qac (qv 0) (qac (qv 1) qa_nil))))
      (qss_cons (qs_set (i := 2) scLRowFrom.nd rfl (Or.inl rfl) (qe_op op_mod (qv 2) (qv 3)))
      (qss_cons (qs_while PassesOwn.never (qt_not (qt_val (qe_callP pLStays hr2 rfl pass0 (qac (qv 0) (qac (qe_callP pLRowBy hr1 rfl pass0 (qac (qv 0) (qac (qv 1) (qac (qv 2) qa_nil)))) qa_nil)))))
        (qss_one (qs_set (i := 2) scLRowFrom.nd rfl (Or.inl rfl) (qe_op op_mod (qe_op op_add (qv 2) qe_int) (qv 3)))))
      (qss_one (qs_ret (qe_callP pLRowBy hr1 rfl pass0 (qac (qv 0) (qac (qv 1) (qac (qv 2) qa_nil))))))))), ?_⟩
    have hpn0 : 0 < p ^ n := Nat.pow_pos (by omega)
    obtain ⟨s0, hs0, hirr⟩ := irr_ex hpr hn1 hn5 hpn32
    obtain ⟨st, est, hst⟩ : ∃ st : Nat, z % ((p ^ n : Nat) : Int) = ((st : Nat) : Int) ∧ st < p ^ n := by
      have h1 := Int.emod_nonneg z (show ((p ^ n : Nat) : Int) ≠ 0 by omega)
      have h2 := Int.emod_lt_of_pos z (show (0 : Int) < ((p ^ n : Nat) : Int) by omega)
      exact ⟨(z % ((p ^ n : Nat) : Int)).toNat, by omega, by omega⟩
    refine ⟨_, rfl, _, rfl, p, n, rfl, hp31, by omega, _, rfl, _, rfl, _, _, rfl, rfl, by omega, ?_⟩
    dsimp only
    rw [est]
    have hfl : ∀ x, ∀ y ∈ fac p n x, y < 32 := fun x y hy => by
      unfold fac at hy
      rcases List.mem_append.mp hy with w | w
      · have := digN_lt (show 0 < p by omega) _ _ y w
        omega
      · rw [List.mem_singleton.mp w]
        decide
    refine seqVia (fun σ' H3 => Same H H3 ∧ ∃ x : Nat, Dv p (fac p n x) none ∧ σ' = [some (.int ((p : Nat) : Int)), some (.int ((n : Nat) : Int)), some (.int ((x : Nat) : Int)), some (.int ((p ^ n : Nat) : Int))]) ?_ (fun D' go => ?_)
    rotate_left
    · refine while_w (fun σ H3 => Same H H3 ∧ ∃ x : Nat, x < p ^ n ∧ σ = [some (.int ((p : Nat) : Int)), some (.int ((n : Nat) : Int)), some (.int ((x : Nat) : Int)), some (.int ((p ^ n : Nat) : Int))])
        (fun σ _ => match σ with | [_, _, some (.int x), _] => far (p ^ n) s0 x.toNat | _ => 0) ⟨Same.refl _, st, hst, rfl⟩ ?_
      rintro mm σ H3 ⟨s3, x, hx, rfl⟩ hmm
      refine ⟨_, rfl, _, rfl, _, rfl, _, rfl, p, n, x, rfl, by omega, hp31, hn1, hn5, fun t H4 s4 ht4 => ?_⟩
      refine ⟨t, p, fac p n x, rfl, ht4, hp2, hp31, by rw [fac_len]; omega, by rw [fac_len]; omega, hfl x, fun c H5 s5 hc1 hc2 => ⟨c, rfl, ?_⟩⟩
      cases c with
      | true => exact iteF (go _ _ ⟨s3.trans (s4.trans s5), x, hc1 rfl, rfl⟩)
      | false =>
        have hne : x ≠ s0 := fun w => by
          subst w
          exact hc2 rfl hirr
        refine iteT (WTurn.of ⟨_, rfl, _, _, rfl, rfl, _, rfl, _, _, rfl, rfl, by omega, ?_⟩)
        have em : (((x : Nat) : Int) + 1) % ((p ^ n : Nat) : Int) = (((x + 1) % p ^ n : Nat) : Int) := by
          rw [Int.natCast_emod]
          rfl
        dsimp only
        rw [em]
        refine ⟨⟨s3.trans (s4.trans s5), (x + 1) % p ^ n, Nat.mod_lt _ hpn0, rfl⟩, ?_⟩
        rw [hmm]
        show far (p ^ n) s0 (((x + 1) % p ^ n : Nat) : Int).toNat < far (p ^ n) s0 ((x : Nat) : Int).toNat
        rw [Int.toNat_natCast, Int.toNat_natCast]
        exact far_step hs0 hx hne
    rintro σ H3 ⟨s3, x, hdv, rfl⟩
    refine ⟨_, rfl, _, rfl, _, rfl, p, n, x, rfl, by omega, hp31, hn1, hn5, fun t H4 s4 ht4 => ?_⟩
    exact q t _ _ (s3.trans s4) ht4 (fac_ok hpr hn1 hn5 hpn32 hdv) (fac_len ..)
def spPowr (C : Addr) : Sp := fun vs H Q _ => ∃ (f : Addr) (p a k : Nat) (row : List Nat), vs = [.ref f, .int ((a : Nat) : Int), .int ((k : Nat) : Int)] ∧ FieldAt C H f p row ∧ FOk p row ∧ a < nF p row ∧ k ≤ 32 ∧ ∀ H', Same H H' → Q (.int ((powV p row a k : Nat) : Int)) H'
theorem scLPower : FnScope ["_law_field", "_law_a", "_law_often", "_law_found", "_law_turn"] ["_law_field", "_law_a", "_law_often"] (defScope sLPower) := ⟨rfl, rfl, rfl, by decide +kernel, rfl, by decide +kernel, by decide +kernel⟩
theorem ok_powr {f : Addr} {fd : FuncData} (F : Fun K "_law_power" "_law_power" sLPower f fd) (T : TxtB mg) (Z : FieldK K C) (pTimes : Mp P w K mg base CX0 4 C "times" ["self", "a", "b"] (spBin C tmV)) : FnOk P w K mg base CX0 5 f fd ["_law_field", "_law_a", "_law_often"] (spPowr C) := by
  refine F.okQ scLPower (fun vs H Q E h => ?_) (fun cdv A outer s H vs Q E hr4 h => ?_)
  · obtain ⟨f, p, a, k, row, rfl, _⟩ := h
    rfl
  · obtain ⟨f, p, a, k, row, rfl, hF, O, ha, hk, q⟩ := h
    obtain ⟨dx, r, hf, hr'⟩ := id hF
    refine ⟨_, (qss_cons (qs_set (i := 3) scLPower.nd rfl (Or.inl rfl) qe_int)
      (qss_cons (qs_for PassesOwn.never rfl (qi_range1 rfl T.range (qac (qv 2) qa_nil)) (qg_name (i := 4) scLPower.nd rfl (Or.inl rfl))
        (qss_one (qs_set (i := 3) scLPower.nd rfl (Or.inl rfl) (qe_methP pTimes Z.cl hr4 (qv 0) pass0 (qac (qv 3) (qac (qv 1) qa_nil))))))
      (qss_one (qs_ret (qv 3))))), ?_⟩
    refine ⟨_, rfl, ((k : Nat) : Int), rfl, by omega, by omega, ?_⟩
    rw [Int.toNat_natCast]
    refine for_range (lo := 0) (n := k) (fun i σ H2 => Same H H2 ∧ ∃ x4 : Option V, σ = [some (.ref f), some (.int ((a : Nat) : Int)), some (.int ((k : Nat) : Int)), some (.int ((powV p row a i : Nat) : Int)), x4]) ⟨Same.refl _, none, rfl⟩ ?_ ?_
    · rintro i σ H2 hi ⟨s2, x4, rfl⟩
      exact ⟨_, rfl, f, dx, _, rfl, s2 _ _ hf, fld_no _ _ _ (by decide +kernel) (by decide +kernel) (by decide +kernel), _, rfl, _, rfl, f, p, powV p row a i, a, row, rfl, hF.sm s2, O, pow_lt O a i, ha, fun H3 s3 => ⟨s2.trans s3, _, rfl⟩⟩
    · rintro σ H2 ⟨s2, x4, rfl⟩
      exact ⟨_, rfl, q _ s2⟩
def spValue (C : Addr) : Sp := fun vs H Q _ => ∃ (f b : Addr) (p α : Nat) (row l : List Nat), vs = [.ref f, .ref b, .int ((α : Nat) : Int)] ∧ FieldAt C H f p row ∧ FOk p row ∧ H b = some (.tup (nats l)) ∧ (∀ x ∈ l, x < p) ∧ α < nF p row ∧ ∀ H', Same H H' → Q (.int ((valV p row α l : Nat) : Int)) H'
theorem scLValue : FnScope ["_law_field", "_law_parts", "_law_a", "_law_found", "_law_part"] ["_law_field", "_law_parts", "_law_a"] (defScope sLValue) := ⟨rfl, rfl, rfl, by decide +kernel, rfl, by decide +kernel, by decide +kernel⟩
theorem nats_rev7 (l : List Nat) : (nats l).reverse = nats l.reverse := by unfold nats; rw [List.map_reverse]
theorem rev_step7 {l : List Nat} {i : Nat} {v : V} (h : (nats l.reverse)[i]? = some v) : ∃ x, v = .int ((x : Nat) : Int) ∧ i < l.length ∧ l.drop (l.length - (i + 1)) = x :: l.drop (l.length - i) ∧ x ∈ l := by
  obtain ⟨x, hx, rfl⟩ := L2.nats_get h
  have hil : i < l.length := by
    have := (List.getElem?_eq_some_iff.mp hx).1
    rwa [List.length_reverse] at this
  rw [List.getElem?_reverse hil] at hx
  refine ⟨x, rfl, hil, ?_, List.mem_of_getElem? hx⟩
  have z := drop_cons (l := l) (i := l.length - 1 - i) (by omega)
  rw [show l.length - 1 - i + 1 = l.length - i by omega] at z
  rw [show l.length - (i + 1) = l.length - 1 - i by omega, z]
  have := (List.getElem?_eq_some_iff.mp hx).2
  rw [this]
theorem ok_value {f : Addr} {fd : FuncData} (F : Fun K "_law_value" "_law_value" sLValue f fd) (Z : FieldK K C) (pPlus : Mp P w K mg base CX0 4 C "plus" ["self", "a", "b"] (spBin C plV)) (pTimes : Mp P w K mg base CX0 4 C "times" ["self", "a", "b"] (spBin C tmV)) : FnOk P w K mg base CX0 5 f fd ["_law_field", "_law_parts", "_law_a"] (spValue C) := by
  refine F.okQ scLValue (fun vs H Q E h => ?_) (fun cdv A outer s H vs Q E hr4 h => ?_)
  · obtain ⟨f, b, p, α, row, l, rfl, _⟩ := h
    rfl
  · obtain ⟨f, b, p, α, row, l, rfl, hF, O, hb, hl, hα, q⟩ := h
    obtain ⟨dx, r, hf, hr'⟩ := id hF
    have hpq := p_le O
    refine ⟨_, (qss_cons (qs_set (i := 3) scLValue.nd rfl (Or.inl rfl) qe_int)
      (qss_cons (qs_for PassesOwn.never rfl (qi_tup (qe_revB (qv 1))) (qg_name (i := 4) scLValue.nd rfl (Or.inl rfl))
        (qss_one (qs_set (i := 3) scLValue.nd rfl (Or.inl rfl) (qe_methP pPlus Z.cl hr4 (qv 0) pass0 (qac (qe_methP pTimes Z.cl hr4 (qv 0) pass0 (qac (qv 3) (qac (qv 2) qa_nil))) (qac (qv 4) qa_nil))))))
      (qss_one (qs_ret (qv 3))))), ?_⟩
    refine ⟨_, rfl, .inr ⟨b, nats l, rfl, SqT.of hb, fun u hu => ?_⟩⟩
    rw [nats_rev7]
    have w1 := same_new (o := .tup (nats l.reverse)) hu
    have hu1 : (upd H u (.tup (nats l.reverse))) u = some (.tup (nats l.reverse)) := upd_same
    generalize upd H u (.tup (nats l.reverse)) = H1 at w1 hu1 ⊢
    refine ⟨u, rfl, ⟨_, SqT.of hu1⟩, for_tup (K := K) (a := u) (xs := nats l.reverse) (fun i σ H2 => Same H1 H2 ∧ ∃ x4 : Option V, σ = [some (.ref f), some (.ref b), some (.int ((α : Nat) : Int)), some (.int ((valV p row α (l.drop (l.length - i)) : Nat) : Int)), x4]) ⟨Same.refl _, none, by rw [Nat.sub_zero, List.drop_length]; rfl⟩ (fun i σ H2 _ ⟨e, _⟩ => SqT.of (e _ _ hu1)) ?_ ?_⟩
    · rintro i v σ H2 hi ⟨s2, x4, rfl⟩
      obtain ⟨x, rfl, hil, e1, hxl⟩ := rev_step7 hi
      have s12 := w1.trans s2
      refine ⟨_, rfl, f, dx, _, rfl, s12 _ _ hf, fld_no _ _ _ (by decide +kernel) (by decide +kernel) (by decide +kernel), _, rfl, f, dx, _, rfl, s12 _ _ hf, fld_no _ _ _ (by decide +kernel) (by decide +kernel) (by decide +kernel), _, rfl, _, rfl, f, p, _, α, row, rfl, hF.sm s12, O, val_lt O _ _, hα, fun H3 s3 => ?_⟩
      refine ⟨_, rfl, f, p, _, x, row, rfl, hF.sm (s12.trans s3), O, tm_lt O _ _, Nat.lt_of_lt_of_le (hl x hxl) hpq, fun H4 s4 => ⟨s2.trans (s3.trans s4), some (.int ((x : Nat) : Int)), ?_⟩⟩
      rw [e1, valV]
      rfl
    · rintro σ H2 ⟨s2, x4, rfl⟩
      refine ⟨_, rfl, ?_⟩
      rw [nats_len, List.length_reverse, Nat.sub_self, List.drop_zero]
      exact q _ (w1.trans s2)
theorem not_wholeH {n : Nat} : ¬ (HT.sIx (n + 1) 0 none = 0 ∧ HT.sIx (n + 1) (n + 1) (some ((n : Nat) : Int)) = n + 1) := by
  rintro ⟨_, h1⟩
  rw [HT.sIx_nat] at h1
  omega
theorem fac_cut (p n x : Nat) : cutV (nats (fac p n x)) none (some ((n : Nat) : Int)) = nats (digN p n x) := by
  rw [cut_to (by rw [nats_len, fac_len]; omega)]
  unfold fac nats
  rw [List.map_append, List.take_append_of_le_length (by rw [List.length_map, digN_len]; exact Nat.le_refl _), List.take_of_length_le (by rw [List.length_map, digN_len]; exact Nat.le_refl _)]
def ledL (p : Nat) (row : List Nat) (α : Nat) : List Nat := (List.range (nF p row)).map fun x => valV p row α (digN p (row.length - 1) x)
def spLed (C : Addr) : Sp := fun vs H Q _ => ∃ (f : Addr) (p α : Nat) (row : List Nat), vs = [.ref f, .int ((p : Nat) : Int), .int ((row.length - 1 : Nat) : Int), .int ((α : Nat) : Int)] ∧ FieldAt C H f p row ∧ FOk p row ∧ α < nF p row ∧ ∀ (l : Addr) (H' : Hp), Same H H' → H' l = some (.lst (nats (ledL p row α))) → Q (.ref l) H'
theorem scLLed : FnScope ["_law_field", "_law_p", "_law_size", "_law_root"] ["_law_field", "_law_p", "_law_size", "_law_root"] (defScope sLLed) := ⟨rfl, rfl, rfl, by decide +kernel, rfl, by decide +kernel, by decide +kernel⟩
theorem ok_led {f : Addr} {fd : FuncData} (F : Fun K "_law_led" "_law_led" sLLed f fd) (T : TxtB mg) (pLTotal : Pm P w K mg base CX0 1 "_law_total" ["_law_p", "_law_size"] spTot) (pLRowBy : Pm P w K mg base CX0 1 "_law_row_by" ["_law_p", "_law_size", "_law_x"] spRowBy) (pLValue : Pm P w K mg base CX0 5 "_law_value" ["_law_field", "_law_parts", "_law_a"] (spValue C)) : FnOk P w K mg base CX0 6 f fd ["_law_field", "_law_p", "_law_size", "_law_root"] (spLed C) := by
  refine F.okQ scLLed (fun vs H Q E h => ?_) (fun cdv A outer s H vs Q E hr5 h => ?_)
  · obtain ⟨f, p, α, row, rfl, _⟩ := h
    rfl
  · obtain ⟨f, p, α, row, rfl, hF, O, hα, q⟩ := h
    have hr1 := hr5.mono (show 1 ≤ 5 by decide)
    have hp2 := O.p2
    have hp31 := O.p31
    have hl2 := O.l2
    have hl6 := O.l6
    have h32 : nF p row ≤ 32 := O.few
    refine ⟨_, (qss_one (qs_ret (qe_comp (g := gName 0) (N := ["_law_x", "_law_field", "_law_p", "_law_size", "_law_root"]) (src := [none, some 0, some 1, some 2, some 3]) rfl (comp_scope (defScope sLLed) ["_law_field", "_law_p", "_law_size", "_law_root"] rfl rfl (by decide +kernel) rfl) (qi_range1 rfl T.range (qac (qe_callP pLTotal hr1 rfl pass0 (qac (qv 1) (qac (qv 2) qa_nil))) qa_nil)) (fun _ _ _ _ _ => (qg_name (i := 0) (show (["_law_x", "_law_field", "_law_p", "_law_size", "_law_root"] : List Str).Nodup by decide +kernel) rfl (Or.inl rfl) (Or.inr rfl))) (fun _ _ _ _ _ => qif_nil) (fun _ _ _ _ _ => (qe_callP pLValue hr5 rfl pass0 (qac (qv 1) (qac (qe_slice (show SlR _ (rSlT K) from sl_tup) (qe_callP pLRowBy hr1 rfl pass0 (qac (qv 2) (qac (qv 3) (qac (qv 0) qa_nil)))) qo_none (qo_some (qv 3))) (qac (qv 4) qa_nil)))))))), ?_⟩
    refine ⟨_, rfl, _, rfl, p, row.length - 1, rfl, hp31, by omega, ((nF p row : Nat) : Int), rfl, by omega, by omega, ?_⟩
    rw [Int.toNat_natCast]
    refine comp_rng (lo := 0) (n := nF p row) (fun i zs H2 => Same H H2 ∧ zs = nats ((List.range i).map fun x => valV p row α (digN p (row.length - 1) x))) ⟨Same.refl _, rfl⟩ ?_ ?_
    · rintro i zs H2 N hi ⟨s2, rfl⟩ nx
      rw [Int.zero_add]
      refine ⟨Weak.set (by intro v z; cases z), ⟨_, rfl, _, rfl, _, rfl, _, rfl, p, row.length - 1, i, rfl, by omega, hp31, by omega, by omega, fun t H3 s3 ht3 => ?_⟩⟩
      refine ⟨_, rfl, _, rfl, t, _, rfl, SqT.of ht3, (by rw [nats_len, fac_len]; exact not_wholeH), fun u hu => ?_⟩
      rw [fac_cut]
      have w4 := same_new (o := .tup (nats (digN p (row.length - 1) i))) hu
      have s24 := s2.trans (s3.trans w4)
      refine ⟨_, rfl, f, u, p, α, row, digN p (row.length - 1) i, rfl, hF.sm s24, O, upd_same, digN_lt (by omega) _ _, hα, fun H5 s5 => ?_⟩
      refine ⟨by rw [nats_len, List.length_map, List.length_range]; exact Nat.lt_of_lt_of_le (show i < 33 by omega) (by decide), nx _ _ ⟨s24.trans s5, ?_⟩⟩
      rw [map_snoc, nats_snoc]
    · rintro zs H2 ⟨s2, rfl⟩
      refine ⟨by rw [nats_len, List.length_map, List.length_range]; exact Nat.le_trans h32 (by decide), fun u hu => ?_⟩
      exact q u _ (s2.trans (same_new hu)) upd_same
/-- pairs of numbers below q, each a tuple -/
def PsAt (H : Hp) (q : Nat) (ws : List V) : Prop := ∀ v ∈ ws, ∃ (t : Addr) (x y : Nat), v = .ref t ∧ x < q ∧ y < q ∧ H t = some (.tup [.int ((x : Nat) : Int), .int ((y : Nat) : Int)])
theorem PsAt.sm {H H' : Hp} (s : Same H H') {q : Nat} {ws : List V} (h : PsAt H q ws) : PsAt H' q ws := fun v hv => by
  obtain ⟨t, x, y, e, h1, h2, h3⟩ := h v hv
  exact ⟨t, x, y, e, h1, h2, s _ _ h3⟩
theorem PsAt.snoc {H : Hp} {q x y : Nat} {ws : List V} {t : Addr} (h : PsAt H q ws) (hx : x < q) (hy : y < q) (ht : H t = some (.tup [.int ((x : Nat) : Int), .int ((y : Nat) : Int)])) : PsAt H q (ws ++ [.ref t]) := fun v hv => by
  rcases List.mem_append.mp hv with z | z
  · exact h v z
  · exact ⟨t, x, y, List.mem_singleton.mp z, hx, hy, ht⟩
theorem mod_nat7 (z : Int) {q : Nat} (hq : 0 < q) : ∃ x : Nat, z % ((q : Nat) : Int) = ((x : Nat) : Int) ∧ x < q := by
  have h1 := Int.emod_nonneg z (show ((q : Nat) : Int) ≠ 0 by omega)
  have h2 := Int.emod_lt_of_pos z (show (0 : Int) < ((q : Nat) : Int) by omega)
  exact ⟨(z % ((q : Nat) : Int)).toNat, by omega, by omega⟩
def spPairs (K : PySem.W.Frag) : Sp := fun vs H Q _ => ∃ (a : Addr) (ns : List Int) (q : Nat), vs = [.ref a, .int ((q : Nat) : Int)] ∧ SqL K H a (ns.map V.int) ∧ ns.length ≤ 63 ∧ 2 ≤ q ∧ q ≤ 32 ∧ ∀ (l : Addr) (ws : List V) (H' : Hp), Same H H' → H' l = some (.lst ws) → PsAt H' q ws → Q (.ref l) H'
theorem scLPairs : FnScope ["_law_script", "_law_total_here", "_law_found", "_law_cell_here", "_law_xs"] ["_law_script", "_law_total_here"] (defScope sLPairs) := ⟨rfl, rfl, rfl, by decide +kernel, rfl, by decide +kernel, by decide +kernel⟩
theorem ok_pairs {f : Addr} {fd : FuncData} (F : Fun K "_law_pairs" "_law_pairs" sLPairs f fd) (pLNumbers : Pm P w K mg base CX0 1 "_law_numbers" ["_law_cell_here", "_law_many"] spNums) : FnOk P w K mg base CX0 2 f fd ["_law_script", "_law_total_here"] (spPairs K) := by
  refine F.okQ scLPairs (fun vs H Q E h => ?_) (fun cdv A outer s H vs Q E hr1 h => ?_)
  · obtain ⟨a, ns, q, rfl, _⟩ := h
    rfl
  · obtain ⟨a, ns, q, rfl, hS, hlen, hq2, hq32, k⟩ := h
    refine ⟨_, (qss_cons (qs_set (i := 2) scLPairs.nd rfl (Or.inl rfl) (qe_lst (qac (qe_tup (qac qe_int (qac qe_int qa_nil))) (qac (qe_tup (qac qe_int (qac qe_int qa_nil))) (qac (qe_tup (qac (qe_op op_sub (qv 1) qe_int) (qac (qe_op op_sub (qv 1) qe_int) qa_nil))) qa_nil)))))
      (qss_cons (qs_for PassesOwn.never rfl (qi_list (qe_slice sl_list (qv 0) (qo_some qe_int) (qo_some qe_int))) (qg_name (i := 3) scLPairs.nd rfl (Or.inl rfl))
        (qss_cons (qs_set (i := 4) scLPairs.nd rfl (Or.inl rfl) (qe_callP pLNumbers hr1 rfl pass0 (qac (qv 3) (qac qe_int qa_nil))))
        (qss_one (qs_expr (qe_bm PySem.F.plainAttrs_list PySem.F.slot_list_append PySem.F.type_list_append mt_append (qv 2) (qac (qe_tup (qac (qe_op op_mod (qe_ix ix_list (qv 4) qe_int (fun _ _ => rfl)) (qv 1)) (qac (qe_op op_mod (qe_ix ix_list (qv 4) qe_int (fun _ _ => rfl)) (qv 1)) qa_nil))) qa_nil))))))
      (qss_one (qs_ret (qv 2))))), ?_⟩
    have eq1 : ((q : Nat) : Int) - 1 = ((q - 1 : Nat) : Int) := by omega
    refine ⟨by show 2 ≤ sizeLine; decide, fun t1 ht1 => ⟨by show 2 ≤ sizeLine; decide, fun t2 ht2 => ⟨_, rfl, _, _, rfl, rfl, _, rfl, _, _, rfl, rfl, by show 2 ≤ sizeLine; decide, fun t3 ht3 => ⟨by show 3 ≤ sizeLine; decide, fun m hm => ?_⟩⟩⟩⟩
    have v1 := same_new (o := .tup [.int 0, .int 1]) ht1
    have v2 := same_new (o := .tup [.int 1, .int 1]) ht2
    have v3 := same_new (o := .tup [.int (((q : Nat) : Int) - 1), .int (((q : Nat) : Int) - 1)]) ht3
    have v4 := same_new (o := .lst [.ref t1, .ref t2, .ref t3]) hm
    have hm0 := (v1.trans (v2.trans v3)).free hm
    have sA := v1.trans (v2.trans (v3.trans v4))
    have r1 := (v2.trans (v3.trans v4)) t1 (.tup [.int 0, .int 1]) upd_same
    have r2 := (v3.trans v4) t2 (.tup [.int 1, .int 1]) upd_same
    have r3 := v4 t3 (.tup [.int (((q : Nat) : Int) - 1), .int (((q : Nat) : Int) - 1)]) upd_same
    have hm1 : (upd (upd (upd (upd H t1 (.tup [.int 0, .int 1])) t2 (.tup [.int 1, .int 1])) t3 (.tup [.int (((q : Nat) : Int) - 1), .int (((q : Nat) : Int) - 1)])) m (.lst [.ref t1, .ref t2, .ref t3])) m = some (.lst [.ref t1, .ref t2, .ref t3]) := upd_same
    have hP0 : PsAt (upd (upd (upd (upd H t1 (.tup [.int 0, .int 1])) t2 (.tup [.int 1, .int 1])) t3 (.tup [.int (((q : Nat) : Int) - 1), .int (((q : Nat) : Int) - 1)])) m (.lst [.ref t1, .ref t2, .ref t3])) q [.ref t1, .ref t2, .ref t3] := fun v hv => by
      simp only [List.mem_cons, List.not_mem_nil, or_false] at hv
      rcases hv with rfl | rfl | rfl
      · exact ⟨t1, 0, 1, rfl, by omega, by omega, r1⟩
      · exact ⟨t2, 1, 1, rfl, by omega, by omega, r2⟩
      · exact ⟨t3, q - 1, q - 1, rfl, by omega, by omega, by rw [← eq1]; exact r3⟩
    show tSeq _ _ _ [some (.ref a), some (.int ((q : Nat) : Int)), some (.ref m), none, none] (upd (upd (upd (upd H t1 (.tup [.int 0, .int 1])) t2 (.tup [.int 1, .int 1])) t3 (.tup [.int (((q : Nat) : Int) - 1), .int (((q : Nat) : Int) - 1)])) m (.lst [.ref t1, .ref t2, .ref t3]))
    generalize upd (upd (upd (upd H t1 (.tup [.int 0, .int 1])) t2 (.tup [.int 1, .int 1])) t3 (.tup [.int (((q : Nat) : Int) - 1), .int (((q : Nat) : Int) - 1)])) m (.lst [.ref t1, .ref t2, .ref t3]) = Hm at sA hm1 hP0 ⊢
    refine ⟨_, rfl, _, rfl, _, rfl, a, _, rfl, sA.seq hS, fun c hc => ?_⟩
    have s3 := same_new (o := .lst (cutV (ns.map V.int) (some 4) (some 16))) hc
    have hcl : (cutV (ns.map V.int) (some 4) (some 16)).length ≤ 63 := Nat.le_trans (cutV_length _ _ _) (by rw [List.length_map]; exact hlen)
    have hc3 : (upd Hm c (.lst (cutV (ns.map V.int) (some 4) (some 16)))) c = some (.lst (cutV (ns.map V.int) (some 4) (some 16))) := upd_same
    have hcm : c ≠ m := fun z => by
      rw [z, hm1] at hc
      cases hc
    have hX : ∀ v ∈ cutV (ns.map V.int) (some 4) (some 16), ∃ c, v = V.int c := fun v hv => cut_ints v hv
    generalize cutV (ns.map V.int) (some 4) (some 16) = xs at s3 hcl hc3 hX ⊢
    refine ⟨c, rfl, ⟨_, SqL.of hc3⟩, for_list (K := K) (a := c) (xs := xs) (fun i σ H4 => Same H H4 ∧ H4 c = some (.lst xs) ∧ ∃ (ws : List V) (x3 x4 : Option V), σ = [some (.ref a), some (.int ((q : Nat) : Int)), some (.ref m), x3, x4] ∧ H4 m = some (.lst ws) ∧ ws.length = 3 + i ∧ PsAt H4 q ws) ⟨sA.trans s3, hc3, [.ref t1, .ref t2, .ref t3], none, none, rfl, s3 _ _ hm1, rfl, hP0.sm s3⟩ (fun i σ H4 _ ⟨_, e, _⟩ => SqL.of e) ?_ ?_⟩
    · rintro i v σ H4 hi ⟨s4, hc4, ws, x3, x4, rfl, hm4, hwl, hP⟩
      obtain ⟨cc, rfl⟩ := hX v (List.mem_of_getElem? hi)
      have hil := (List.getElem?_eq_some_iff.mp hi).1
      refine ⟨_, rfl, cc, 2, rfl, by decide, fun ly ys H5 hly s5 hy5 hn5 hns5 => ?_⟩
      obtain ⟨y0, a0, _⟩ := at_ok (ns := ys) (i := 0) (by omega)
      obtain ⟨y1, a1, _⟩ := at_ok (ns := ys) (i := 1) (by omega)
      obtain ⟨u0, e0, hu0⟩ := mod_nat7 y0 (show 0 < q by omega)
      obtain ⟨u1, e1, hu1⟩ := mod_nat7 y1 (show 0 < q by omega)
      refine ⟨_, rfl, .inl ⟨rfl, _, SqL.of (s5 _ _ hm4)⟩, _, rfl, ly, _, 0, .int y0, rfl, rfl, SqL.of hy5, a0, _, rfl, _, _, rfl, rfl, by omega, _, rfl, ly, _, 1, .int y1, rfl, rfl, SqL.of hy5, a1, _, rfl, _, _, rfl, rfl, by omega, by show 2 ≤ sizeLine; decide, fun t ht => ?_⟩
      have w6 := same_new (o := .tup [.int (y0 % ((q : Nat) : Int)), .int (y1 % ((q : Nat) : Int))]) ht
      have hm6 := (s5.trans w6) _ _ hm4
      refine ⟨m, ws, .ref t, rfl, rfl, hm6, Nat.lt_of_le_of_lt (show ws.length ≤ 66 by omega) (by decide), ?_⟩
      have nmt : ∀ {b : Addr} {zs : List V}, (upd H5 t (.tup [.int (y0 % ((q : Nat) : Int)), .int (y1 % ((q : Nat) : Int))])) b = some (.tup zs) → b ≠ m := fun {b zs} h z => by
        rw [z, hm6] at h
        cases h
      refine ⟨same_upd (s4.trans (s5.trans w6)) hm0, by rw [upd_ne hcm]; exact (s5.trans w6) _ _ hc4, ws ++ [.ref t], some (.int cc), _, rfl, upd_same, by rw [List.length_append, hwl]; rfl, ?_⟩
      refine PsAt.snoc (x := u0) (y := u1) (fun v hv => ?_) hu0 hu1 ?_
      · obtain ⟨t', x, y, e, h1, h2, h3⟩ := hP v hv
        have h4 := (s5.trans w6) _ _ h3
        exact ⟨t', x, y, e, h1, h2, by rw [upd_ne (nmt h4)]; exact h4⟩
      · rw [upd_ne (nmt upd_same), upd_same]
        show some (HO.tup [V.int (y0 % ((q : Nat) : Int)), V.int (y1 % ((q : Nat) : Int))]) = _
        rw [e0, e1]
    · rintro σ H4 ⟨s4, hc4, ws, x3, x4, rfl, hm4, hwl, hP⟩
      exact ⟨_, rfl, k m ws H4 s4 hm4 hP⟩
/-- the primes and sizes to choose of -/
def SmAt (H : Hp) (ws : List V) : Prop := ∀ v ∈ ws, ∃ (t : Addr) (p n : Nat), v = .ref t ∧ H t = some (.tup [.int ((p : Nat) : Int), .int ((n : Nat) : Int)]) ∧ p ∈ PrL ∧ 1 ≤ n ∧ n ≤ 5 ∧ p ^ n ≤ 32
theorem SmAt.nil {H : Hp} : SmAt H [] := fun v hv => by cases hv
theorem SmAt.sm {H H' : Hp} (s : Same H H') {ws : List V} (h : SmAt H ws) : SmAt H' ws := fun v hv => by
  obtain ⟨t, p, n, e, h1, r⟩ := h v hv
  exact ⟨t, p, n, e, s _ _ h1, r⟩
theorem SmAt.add {H : Hp} {ws : List V} {t : Addr} {p n : Nat} {ip jn : Int} (h : SmAt H ws) (ht : H t = none) (e1 : ip = ((p : Nat) : Int)) (e2 : jn = ((n : Nat) : Int)) (hp : p ∈ PrL) (h1 : 1 ≤ n) (h5 : n ≤ 5) (hf : p ^ n ≤ 32) : SmAt (upd H t (.tup [.int ip, .int jn])) (ws ++ [.ref t]) := fun v hv => by
  subst e1 e2
  rcases List.mem_append.mp hv with z | z
  · exact (h.sm (same_new ht)) v z
  · exact ⟨t, p, n, List.mem_singleton.mp z, upd_same, hp, h1, h5, hf⟩
theorem at_mod13 {ws : List V} (z : Int) (h : ws.length = 13) : ∃ v ∈ ws, atI ws (z % 13) = some v := by
  have h1 := Int.emod_nonneg z (show (13 : Int) ≠ 0 by decide)
  have h2 := Int.emod_lt_of_pos z (show (0 : Int) < 13 by decide)
  obtain ⟨j, hj⟩ : ∃ j : Nat, z % 13 = ((j : Nat) : Int) := ⟨(z % 13).toNat, by omega⟩
  rw [hj]
  have hjl : j < ws.length := by omega
  exact ⟨ws[j], List.getElem_mem _, atI_nat (List.getElem?_eq_getElem hjl)⟩
theorem list_isD7 {K : PySem.W.Frag} {H : Hp} {l : Addr} {xs : List Nat} (h : H l = some (.lst (nats xs))) : IsD K H (dBlk xs) (.ref l) := by
  simp only [dBlk, IsD]
  exact ⟨l, _, rfl, SqL.of h, ints_isD' xs⟩
theorem list_eqv7 (L : List Nat) : PyData.eqv (dBlk L) (dBlk L) = true := by
  simp only [dBlk, PyData.eqv]
  exact eqv_ints' L
theorem map_at7 {f : Nat → Nat} {n k : Nat} (h : k < n) : atI (nats ((List.range n).map f)) ((k : Nat) : Int) = some (.int ((f k : Nat) : Int)) := by
  refine atI_nat ?_
  unfold nats
  rw [List.getElem?_map, List.getElem?_map, List.getElem?_range h]
  rfl
theorem led_sorted {p : Nat} {row first b : List Nat} {α : Nat} (O : FOk p row) (O' : FOk p first) (hl : first.length = row.length) (hr : RootOf p row first α) (hp : b.Perm (ledL p row α)) (hs : b.Pairwise (· ≤ ·)) : b = List.range (nF p row) := by
  have hq : nF p first = nF p row := by unfold nF; rw [hl]
  have eL : ∀ x, valV p row α (digN p (row.length - 1) x) = ledV p row first α x := fun x => by unfold ledV; rw [hl]
  have hnd : (ledL p row α).Nodup := by
    unfold ledL
    refine List.pairwise_map.mpr (List.Pairwise.imp_of_mem (fun {a b} ha hb hne z => hne ?_) List.nodup_range)
    rw [eL a, eL b] at z
    exact led_inj O O' hr (by rw [hq]; exact List.mem_range.mp ha) (by rw [hq]; exact List.mem_range.mp hb) z
  have h1 := EM.perm_of_sub (l := ledL p row α) (l' := List.range (nF p row)) hnd (fun x hx => by
    unfold ledL at hx
    obtain ⟨z, _, rfl⟩ := List.mem_map.mp hx
    exact List.mem_range.mpr (val_lt O _ _)) (by unfold ledL; rw [List.length_map]; exact Nat.le_refl _)
  exact (hp.trans h1.symm).eq_of_pairwise (fun a b _ _ x y => Nat.le_antisymm x y) hs (List.pairwise_lt_range.imp Nat.le_of_lt)
def rtF (p : Nat) (row first : List Nat) : Nat → Bool := fun a => decide (valV p row a first = 0)
theorem rt_mem {p : Nat} {row first : List Nat} {x n : Nat} (h : x ∈ fltL (rtF p row first) n) : x < n ∧ RootOf p row first x := by
  obtain ⟨h1, h2⟩ := List.mem_filter.mp h
  exact ⟨List.mem_range.mp h1, show valV p row x first = 0 from of_decide_eq_true h2⟩
theorem scLaw : FnScope ["_law_script", "_law_xs", "_law_some", "_law_p", "_law_size", "_law_first", "_law_one", "_law_other", "_law_total_here", "_law_roots", "_law_root", "_law_led_here", "_law_a", "_law_b"] ["_law_script"] (defScope sLaw) := ⟨rfl, rfl, rfl, by decide +kernel, rfl, by decide +kernel, by decide +kernel⟩
theorem ok_law {f : Addr} {fd : FuncData} (F : Fun K "law" "law" sLaw f fd) (T : TxtB mg) (Z : FieldK K C) (pCell : Pm P w K mg base CX0 1 "_law_cell" ["_law_script", "_law_k"] (spCell2 K)) (pLNumbers : Pm P w K mg base CX0 1 "_law_numbers" ["_law_cell_here", "_law_many"] spNums) (pLRowFrom : Pm P w K mg base CX0 3 "_law_row_from" ["_law_p", "_law_size", "_law_x"] spRowFrom) (pField : Mkp P w K mg base CX0 7 "Field" C ["self", "p", "row"] (spInit C)) (pSizeM : Mp P w K mg base CX0 1 C "size" ["self"] (spSizeM C)) (pPlus : Mp P w K mg base CX0 4 C "plus" ["self", "a", "b"] (spBin C plV)) (pTimes : Mp P w K mg base CX0 4 C "times" ["self", "a", "b"] (spBin C tmV)) (pLValue : Pm P w K mg base CX0 5 "_law_value" ["_law_field", "_law_parts", "_law_a"] (spValue C)) (pLLed : Pm P w K mg base CX0 6 "_law_led" ["_law_field", "_law_p", "_law_size", "_law_root"] (spLed C)) (pLPairs : Pm P w K mg base CX0 2 "_law_pairs" ["_law_script", "_law_total_here"] (spPairs K)) (pLPower : Pm P w K mg base CX0 5 "_law_power" ["_law_field", "_law_a", "_law_often"] (spPowr C)) : FnOk P w K mg base CX0 12 f fd ["_law_script"] (spLaw K) := by
  refine F.okQ scLaw (fun vs H Q E h => ?_) (fun cdv A outer s H vs Q E hr h => ?_)
  · obtain ⟨a, ns, rfl, _⟩ := h
    rfl
  · obtain ⟨a, ns, rfl, hS, hlen, q⟩ := h
    have hr1 := hr.mono (show 1 ≤ 11 by decide)
    have hr2 := hr.mono (show 2 ≤ 11 by decide)
    have hr3 := hr.mono (show 3 ≤ 11 by decide)
    have hr4 := hr.mono (show 4 ≤ 11 by decide)
    have hr5 := hr.mono (show 5 ≤ 11 by decide)
    have hr6 := hr.mono (show 6 ≤ 11 by decide)
    have hr8 := hr.mono (show 8 ≤ 11 by decide)
    have hun := hr.units
    refine ⟨_, (qss_cons (qs_set (i := 1) scLaw.nd rfl (Or.inl rfl) (qe_callP pLNumbers hr1 rfl pass0 (qac (qe_callP pCell hr1 rfl pass0 (qac (qv 0) (qac qe_int qa_nil))) (qac qe_int qa_nil))))
      (qss_cons (qs_set (i := 2) scLaw.nd rfl (Or.inl rfl) (qe_lst (qac (qe_tup (qac qe_int (qac qe_int qa_nil))) (qac (qe_tup (qac qe_int (qac qe_int qa_nil))) (qac (qe_tup (qac qe_int (qac qe_int qa_nil))) (qac (qe_tup (qac qe_int (qac qe_int qa_nil))) (qac (qe_tup (qac qe_int (qac qe_int qa_nil))) (qac (qe_tup (qac qe_int (qac qe_int qa_nil))) (qac (qe_tup (qac qe_int (qac qe_int qa_nil))) (qac (qe_tup (qac qe_int (qac qe_int qa_nil))) (qac (qe_tup (qac qe_int (qac qe_int qa_nil))) (qac (qe_tup (qac qe_int (qac qe_int qa_nil))) (qac (qe_tup (qac qe_int (qac qe_int qa_nil))) (qac (qe_tup (qac qe_int (qac qe_int qa_nil))) (qac (qe_tup (qac qe_int (qac qe_int qa_nil))) qa_nil)))))))))))))))
      (qss_cons (qs_asg (qe_ix ix_list (qv 2) (qe_op op_mod (qe_ix ix_list (qv 1) qe_int (fun _ _ => rfl)) qe_int) (fun _ _ => rfl)) (qg_tup rfl (qgs_cons (qg_name (i := 3) scLaw.nd rfl (Or.inl rfl)) (qgs_cons (qg_name (i := 4) scLaw.nd rfl (Or.inl rfl)) qgs_nil))))
      (qss_cons (qs_set (i := 5) scLaw.nd rfl (Or.inr rfl) (qe_callP pLRowFrom hr3 rfl pass0 (qac (qv 3) (qac (qv 4) (qac (qe_ix ix_list (qv 1) qe_int (fun _ _ => rfl)) qa_nil)))))
      (qss_cons (qs_asg (qe_tup (qac (qe_makeP pField hr8 rfl pass0 (qac (qv 3) (qac (qv 5) qa_nil))) (qac (qe_makeP pField hr8 rfl pass0 (qac (qv 3) (qac (qe_callP pLRowFrom hr3 rfl pass0 (qac (qv 3) (qac (qv 4) (qac (qe_ix ix_list (qv 1) qe_int (fun _ _ => rfl)) qa_nil)))) qa_nil))) qa_nil))) (qg_tup rfl (qgs_cons (qg_name (i := 6) scLaw.nd rfl (Or.inl rfl)) (qgs_cons (qg_name (i := 7) scLaw.nd rfl (Or.inr rfl)) qgs_nil))))
      (qss_cons (qs_set (i := 8) scLaw.nd rfl (Or.inl rfl) (qe_methP0 pSizeM Z.cl hr1 (qv 6) pass0))
      (qss_cons (qs_setComp (i := 9) (g := gName 0) (N := ["_law_a", "_law_first", "_law_other"]) (src := [none, some 5, some 7]) rfl (comp_scope (defScope sLaw) ["_law_script", "_law_xs", "_law_some", "_law_p", "_law_size", "_law_first", "_law_one", "_law_other", "_law_total_here", "_law_roots", "_law_root", "_law_led_here", "_law_a", "_law_b"] rfl rfl (by decide +kernel) rfl) (qi_range1 rfl T.range (qac (qv 8) qa_nil)) (fun _ _ _ _ _ => (qg_name (i := 0) (show (["_law_a", "_law_first", "_law_other"] : List Str).Nodup by decide +kernel) rfl (Or.inl rfl) (Or.inr rfl))) (fun _ _ _ _ _ => (qif_one (qt_cmpR op_eq (qe_callP pLValue hr5 rfl pass0 (qac (qv 2) (qac (qv 1) (qac (qv 0) qa_nil)))) qe_int (nomark _)))) (fun _ _ _ _ _ => (qv 0)) (qg_name (i := 9) scLaw.nd rfl (Or.inl rfl)))
      (qss_cons (qs_if (QW.pt (qw_or (qt_cmpR op_ne (qe_methP0 pSizeM Z.cl hr1 (qv 7) pass0) (qv 8) (nomark _)) (qw_or1 (qt_cmpR op_ne (qe_callB call_len_seq (by rfl) T.len PySem.boot_len (qac (qv 9) qa_nil)) (qv 4) (nomark _))))) (qss_one (qs_ret qe_bl)) qss_nil)
      (qss_cons (qs_for PassesOwn.never rfl (qi_list (qv 9)) (qg_name (i := 10) scLaw.nd rfl (Or.inl rfl))
        (qss_cons (qs_set (i := 11) scLaw.nd rfl (Or.inl rfl) (qe_callP pLLed hr6 rfl pass0 (qac (qv 7) (qac (qv 3) (qac (qv 4) (qac (qv 10) qa_nil))))))
        (qss_cons (qs_if (qt_cmpR (op_neD hun) (qe_callB call_sortI (by rfl) T.sor (by decide +kernel) (qac (qv 11) qa_nil)) (qe_callTy (call_list_rng rfl) (by rfl) T.lst (by decide +kernel) (qac (qe_callTy call_rng1 (by rfl) T.range PyProof.Rows.boot_range (qac (qv 8) qa_nil)) qa_nil)) (nomark _)) (qss_one (qs_ret qe_bl)) qss_nil)
        (qss_one (qs_for PassesOwn.never rfl (qi_list (qe_callP pLPairs hr2 rfl pass0 (qac (qv 0) (qac (qv 8) qa_nil)))) (qg_tup rfl (qgs_cons (qg_name (i := 12) scLaw.nd rfl (Or.inl rfl)) (qgs_cons (qg_name (i := 13) scLaw.nd rfl (Or.inl rfl)) qgs_nil)))
          (qss_cons (qs_if (qt_cmpR op_ne (qe_ix ix_list (qv 11) (qe_methP pPlus Z.cl hr4 (qv 6) pass0 (qac (qv 12) (qac (qv 13) qa_nil))) (fun _ _ => rfl)) (qe_methP pPlus Z.cl hr4 (qv 7) pass0 (qac (qe_ix ix_list (qv 11) (qv 12) (fun _ _ => rfl)) (qac (qe_ix ix_list (qv 11) (qv 13) (fun _ _ => rfl)) qa_nil))) (nomark _)) (qss_one (qs_ret qe_bl)) qss_nil)
          (qss_one (qs_if (qt_cmpR op_ne (qe_ix ix_list (qv 11) (qe_methP pTimes Z.cl hr4 (qv 6) pass0 (qac (qv 12) (qac (qv 13) qa_nil))) (fun _ _ => rfl)) (qe_methP pTimes Z.cl hr4 (qv 7) pass0 (qac (qe_ix ix_list (qv 11) (qv 12) (fun _ _ => rfl)) (qac (qe_ix ix_list (qv 11) (qv 13) (fun _ _ => rfl)) qa_nil))) (nomark _)) (qss_one (qs_ret qe_bl)) qss_nil))))))))
      (qss_cons (qs_for PassesOwn.never rfl (qi_list (qe_callP pLPairs hr2 rfl pass0 (qac (qv 0) (qac (qv 8) qa_nil)))) (qg_tup rfl (qgs_cons (qg_name (i := 12) scLaw.nd rfl (Or.inl rfl)) (qgs_cons (qg_name (i := 13) scLaw.nd rfl (Or.inl rfl)) qgs_nil)))
        (qss_cons (qs_if (qt_cmpR op_ne (qe_callP pLPower hr5 rfl pass0 (qac (qv 6) (qac (qv 12) (qac (qv 8) qa_nil)))) (qv 12) (nomark _)) (qss_one (qs_ret qe_bl)) qss_nil)
        (qss_one (qs_if (qt_cmpR op_ne (qe_callP pLPower hr5 rfl pass0 (qac (qv 6) (qac (qe_methP pPlus Z.cl hr4 (qv 6) pass0 (qac (qv 12) (qac (qv 13) qa_nil))) (qac (qv 3) qa_nil)))) (qe_methP pPlus Z.cl hr4 (qv 6) pass0 (qac (qe_callP pLPower hr5 rfl pass0 (qac (qv 6) (qac (qv 12) (qac (qv 3) qa_nil)))) (qac (qe_callP pLPower hr5 rfl pass0 (qac (qv 6) (qac (qv 13) (qac (qv 3) qa_nil)))) qa_nil))) (nomark _)) (qss_one (qs_ret qe_bl)) qss_nil))))
      (qss_one (qs_ret qe_bl)))))))))))), ?_⟩
    refine ⟨_, rfl, a, ns, 0, rfl, hS, by decide, fun c1 H1 s1 => ⟨c1, 3, rfl, by decide, fun lx xs H2 hlx s2 hx2 hn hns => ?_⟩⟩
    obtain ⟨y0, a0, _⟩ := at_ok (ns := xs) (i := 0) (by omega)
    obtain ⟨y1, a1, _⟩ := at_ok (ns := xs) (i := 1) (by omega)
    obtain ⟨y2, a2, _⟩ := at_ok (ns := xs) (i := 2) (by omega)
    refine ⟨by show 2 ≤ sizeLine; decide, fun t1 h1 => ?_⟩
    have u1 := same_new (o := .tup [.int 2, .int 1]) h1
    have m1 : SmAt (upd H2 t1 (.tup [.int 2, .int 1])) [.ref t1] := SmAt.add (p := 2) (n := 1) SmAt.nil h1 rfl rfl (by decide) (by decide) (by decide) (by decide)
    generalize upd H2 t1 (.tup [.int 2, .int 1]) = G1 at u1 m1 ⊢
    refine ⟨by show 2 ≤ sizeLine; decide, fun t2 h2 => ?_⟩
    have u2 := same_new (o := .tup [.int 2, .int 2]) h2
    have m2 : SmAt (upd G1 t2 (.tup [.int 2, .int 2])) [.ref t1, .ref t2] := SmAt.add (p := 2) (n := 2) m1 h2 rfl rfl (by decide) (by decide) (by decide) (by decide)
    generalize upd G1 t2 (.tup [.int 2, .int 2]) = G2 at u2 m2 ⊢
    refine ⟨by show 2 ≤ sizeLine; decide, fun t3 h3 => ?_⟩
    have u3 := same_new (o := .tup [.int 2, .int 3]) h3
    have m3 : SmAt (upd G2 t3 (.tup [.int 2, .int 3])) [.ref t1, .ref t2, .ref t3] := SmAt.add (p := 2) (n := 3) m2 h3 rfl rfl (by decide) (by decide) (by decide) (by decide)
    generalize upd G2 t3 (.tup [.int 2, .int 3]) = G3 at u3 m3 ⊢
    refine ⟨by show 2 ≤ sizeLine; decide, fun t4 h4 => ?_⟩
    have u4 := same_new (o := .tup [.int 2, .int 4]) h4
    have m4 : SmAt (upd G3 t4 (.tup [.int 2, .int 4])) [.ref t1, .ref t2, .ref t3, .ref t4] := SmAt.add (p := 2) (n := 4) m3 h4 rfl rfl (by decide) (by decide) (by decide) (by decide)
    generalize upd G3 t4 (.tup [.int 2, .int 4]) = G4 at u4 m4 ⊢
    refine ⟨by show 2 ≤ sizeLine; decide, fun t5 h5 => ?_⟩
    have u5 := same_new (o := .tup [.int 2, .int 5]) h5
    have m5 : SmAt (upd G4 t5 (.tup [.int 2, .int 5])) [.ref t1, .ref t2, .ref t3, .ref t4, .ref t5] := SmAt.add (p := 2) (n := 5) m4 h5 rfl rfl (by decide) (by decide) (by decide) (by decide)
    generalize upd G4 t5 (.tup [.int 2, .int 5]) = G5 at u5 m5 ⊢
    refine ⟨by show 2 ≤ sizeLine; decide, fun t6 h6 => ?_⟩
    have u6 := same_new (o := .tup [.int 3, .int 1]) h6
    have m6 : SmAt (upd G5 t6 (.tup [.int 3, .int 1])) [.ref t1, .ref t2, .ref t3, .ref t4, .ref t5, .ref t6] := SmAt.add (p := 3) (n := 1) m5 h6 rfl rfl (by decide) (by decide) (by decide) (by decide)
    generalize upd G5 t6 (.tup [.int 3, .int 1]) = G6 at u6 m6 ⊢
    refine ⟨by show 2 ≤ sizeLine; decide, fun t7 h7 => ?_⟩
    have u7 := same_new (o := .tup [.int 3, .int 2]) h7
    have m7 : SmAt (upd G6 t7 (.tup [.int 3, .int 2])) [.ref t1, .ref t2, .ref t3, .ref t4, .ref t5, .ref t6, .ref t7] := SmAt.add (p := 3) (n := 2) m6 h7 rfl rfl (by decide) (by decide) (by decide) (by decide)
    generalize upd G6 t7 (.tup [.int 3, .int 2]) = G7 at u7 m7 ⊢
    refine ⟨by show 2 ≤ sizeLine; decide, fun t8 h8 => ?_⟩
    have u8 := same_new (o := .tup [.int 3, .int 3]) h8
    have m8 : SmAt (upd G7 t8 (.tup [.int 3, .int 3])) [.ref t1, .ref t2, .ref t3, .ref t4, .ref t5, .ref t6, .ref t7, .ref t8] := SmAt.add (p := 3) (n := 3) m7 h8 rfl rfl (by decide) (by decide) (by decide) (by decide)
    generalize upd G7 t8 (.tup [.int 3, .int 3]) = G8 at u8 m8 ⊢
    refine ⟨by show 2 ≤ sizeLine; decide, fun t9 h9 => ?_⟩
    have u9 := same_new (o := .tup [.int 5, .int 1]) h9
    have m9 : SmAt (upd G8 t9 (.tup [.int 5, .int 1])) [.ref t1, .ref t2, .ref t3, .ref t4, .ref t5, .ref t6, .ref t7, .ref t8, .ref t9] := SmAt.add (p := 5) (n := 1) m8 h9 rfl rfl (by decide) (by decide) (by decide) (by decide)
    generalize upd G8 t9 (.tup [.int 5, .int 1]) = G9 at u9 m9 ⊢
    refine ⟨by show 2 ≤ sizeLine; decide, fun t10 h10 => ?_⟩
    have u10 := same_new (o := .tup [.int 5, .int 2]) h10
    have m10 : SmAt (upd G9 t10 (.tup [.int 5, .int 2])) [.ref t1, .ref t2, .ref t3, .ref t4, .ref t5, .ref t6, .ref t7, .ref t8, .ref t9, .ref t10] := SmAt.add (p := 5) (n := 2) m9 h10 rfl rfl (by decide) (by decide) (by decide) (by decide)
    generalize upd G9 t10 (.tup [.int 5, .int 2]) = G10 at u10 m10 ⊢
    refine ⟨by show 2 ≤ sizeLine; decide, fun t11 h11 => ?_⟩
    have u11 := same_new (o := .tup [.int 7, .int 1]) h11
    have m11 : SmAt (upd G10 t11 (.tup [.int 7, .int 1])) [.ref t1, .ref t2, .ref t3, .ref t4, .ref t5, .ref t6, .ref t7, .ref t8, .ref t9, .ref t10, .ref t11] := SmAt.add (p := 7) (n := 1) m10 h11 rfl rfl (by decide) (by decide) (by decide) (by decide)
    generalize upd G10 t11 (.tup [.int 7, .int 1]) = G11 at u11 m11 ⊢
    refine ⟨by show 2 ≤ sizeLine; decide, fun t12 h12 => ?_⟩
    have u12 := same_new (o := .tup [.int 11, .int 1]) h12
    have m12 : SmAt (upd G11 t12 (.tup [.int 11, .int 1])) [.ref t1, .ref t2, .ref t3, .ref t4, .ref t5, .ref t6, .ref t7, .ref t8, .ref t9, .ref t10, .ref t11, .ref t12] := SmAt.add (p := 11) (n := 1) m11 h12 rfl rfl (by decide) (by decide) (by decide) (by decide)
    generalize upd G11 t12 (.tup [.int 11, .int 1]) = G12 at u12 m12 ⊢
    refine ⟨by show 2 ≤ sizeLine; decide, fun t13 h13 => ?_⟩
    have u13 := same_new (o := .tup [.int 31, .int 1]) h13
    have m13 : SmAt (upd G12 t13 (.tup [.int 31, .int 1])) [.ref t1, .ref t2, .ref t3, .ref t4, .ref t5, .ref t6, .ref t7, .ref t8, .ref t9, .ref t10, .ref t11, .ref t12, .ref t13] := SmAt.add (p := 31) (n := 1) m12 h13 rfl rfl (by decide) (by decide) (by decide) (by decide)
    generalize upd G12 t13 (.tup [.int 31, .int 1]) = G13 at u13 m13 ⊢
    refine ⟨by show 13 ≤ sizeLine; decide, fun l hl => ?_⟩
    have u14 := same_new (o := .lst [.ref t1, .ref t2, .ref t3, .ref t4, .ref t5, .ref t6, .ref t7, .ref t8, .ref t9, .ref t10, .ref t11, .ref t12, .ref t13]) hl
    have hl3 : (upd G13 l (.lst [.ref t1, .ref t2, .ref t3, .ref t4, .ref t5, .ref t6, .ref t7, .ref t8, .ref t9, .ref t10, .ref t11, .ref t12, .ref t13])) l = some (.lst [.ref t1, .ref t2, .ref t3, .ref t4, .ref t5, .ref t6, .ref t7, .ref t8, .ref t9, .ref t10, .ref t11, .ref t12, .ref t13]) := upd_same
    have m14 := m13.sm u14
    have sG : Same H2 (upd G13 l (.lst [.ref t1, .ref t2, .ref t3, .ref t4, .ref t5, .ref t6, .ref t7, .ref t8, .ref t9, .ref t10, .ref t11, .ref t12, .ref t13])) := (u1.trans (u2.trans (u3.trans (u4.trans (u5.trans (u6.trans (u7.trans (u8.trans (u9.trans (u10.trans (u11.trans (u12.trans (u13))))))))))))).trans u14
    generalize upd G13 l (.lst [.ref t1, .ref t2, .ref t3, .ref t4, .ref t5, .ref t6, .ref t7, .ref t8, .ref t9, .ref t10, .ref t11, .ref t12, .ref t13]) = H3 at hl3 m14 sG ⊢
    obtain ⟨v, hv, hat⟩ := at_mod13 (ws := [.ref t1, .ref t2, .ref t3, .ref t4, .ref t5, .ref t6, .ref t7, .ref t8, .ref t9, .ref t10, .ref t11, .ref t12, .ref t13]) y0 rfl
    obtain ⟨t, p, n, rfl, ht, hpr, hn1, hn5, hpn⟩ := m14 v hv
    obtain ⟨hp2, hp31, _⟩ := prL_all p hpr
    have hx3 := sG _ _ hx2
    refine ⟨_, rfl, _, rfl, lx, _, 0, .int y0, rfl, rfl, SqL.of hx3, a0, _, _, rfl, rfl, (by decide : (0 : Int) < 13), l, _, _, .ref t, rfl, rfl, SqL.of hl3, hat, t, _, rfl, SqT.of ht, rfl, _, _, rfl, _, _, rfl, rfl, ?_⟩
    refine ⟨_, rfl, _, rfl, _, rfl, lx, _, 1, .int y1, rfl, rfl, SqL.of hx3, a1, p, n, y1, rfl, hpr, hn1, hn5, hpn, fun tF first H4 s4 htF OF hlF => ?_⟩
    refine ⟨_, rfl, _, rfl, fun x dx hx hdx hne => ?_⟩
    refine ⟨x, dx, tF, p, first, upd H4 dx (.own x), rfl, (by rw [upd_ne (Ne.symm hne)]; exact hx), rfl, (same_new hdx) _ _ htF, OF, fun H5 s5 hF1 => ⟨rfl, ?_⟩⟩
    have s45 := (same_new (o := .own x) hdx).trans s5
    refine ⟨_, rfl, _, rfl, _, rfl, _, rfl, lx, _, 2, .int y2, rfl, rfl, SqL.of ((s4.trans s45) _ _ hx3), a2, p, n, y2, rfl, hpr, hn1, hn5, hpn, fun tR row H6 s6 htR OR hlR => ?_⟩
    refine fun y dy hy hdy hne' => ?_
    refine ⟨y, dy, tR, p, row, upd H6 dy (.own y), rfl, (by rw [upd_ne (Ne.symm hne')]; exact hy), rfl, (same_new hdy) _ _ htR, OR, fun H7 s7 hF2 => ⟨rfl, ?_⟩⟩
    have s67 := (same_new (o := .own y) hdy).trans s7
    refine ⟨by show 2 ≤ sizeLine; decide, fun tt htt => ?_⟩
    have w8 := same_new (o := .tup [.ref x, .ref y]) htt
    refine ⟨tt, _, rfl, SqT.of upd_same, rfl, _, _, rfl, _, _, rfl, rfl, ?_⟩
    have hF1' := hF1.sm (s6.trans (s67.trans w8))
    have hF2' := hF2.sm w8
    have htF' := (s45.trans (s6.trans (s67.trans w8))) _ _ htF
    have sS := s1.trans (s2.trans (sG.trans (s4.trans (s45.trans (s6.trans (s67.trans w8))))))
    generalize upd H7 tt (.tup [.ref x, .ref y]) = H8 at hF1' hF2' htF' sS ⊢
    have hlen' : first.length = row.length := by omega
    have hq : nF p row = nF p first := by unfold nF; rw [hlen']
    have hq32 : nF p first ≤ 32 := OF.few
    have hq2 := nF_two OF
    obtain ⟨dx1, r1, hfx, _⟩ := id hF1'
    obtain ⟨dy1, r2, hfy, _⟩ := id hF2'
    refine ⟨_, rfl, x, dx1, _, rfl, hfx, fld_no _ _ _ (by decide +kernel) (by decide +kernel) (by decide +kernel), x, p, first, rfl, hF1', ?_⟩
    refine ⟨_, rfl, ((nF p first : Nat) : Int), rfl, by omega, by omega, ?_⟩
    rw [Int.toNat_natCast]
    refine comp_rng (lo := 0) (n := nF p first) (fun i zs H9 => Same H8 H9 ∧ zs = nats (fltL (rtF p row first) i)) ⟨Same.refl _, rfl⟩ ?_ ?_
    · rintro i zs H9 N hi ⟨s9, rfl⟩ nx
      rw [Int.zero_add]
      have e := flt_snoc (rtF p row first) i
      refine ⟨Weak.set (by intro v z; cases z), ⟨_, rfl, _, rfl, _, rfl, y, tF, p, i, row, first, rfl, hF2'.sm s9, OR, s9 _ _ htF', OF.lt, by rw [hq]; exact hi, fun H10 s10 => ⟨rfl, _, rfl, ?_⟩⟩⟩
      by_cases h : valV p row i first = 0
      · rw [if_pos (show rtF p row first i = true from decide_eq_true h)] at e
        refine ifT (by rw [h]; rfl) ⟨_, rfl, ?_, nx _ _ ⟨s9.trans s10, by rw [e, nats_snoc]⟩⟩
        rw [nats_len]
        exact Nat.lt_of_le_of_lt (flt_le _ i) (Nat.lt_of_lt_of_le (show i < 33 by omega) (by decide))
      · rw [if_neg (show ¬ rtF p row first i = true by unfold rtF; simp [h]), List.append_nil] at e
        exact ifF (fun z => h (by have := V.int.inj z; omega)) (nx _ _ ⟨s9.trans s10, by rw [e]⟩)
    rintro zs H9 ⟨s9, rfl⟩
    refine ⟨by rw [nats_len]; exact Nat.le_trans (flt_le ..) (Nat.le_trans hq32 (by decide)), fun lR hlR' => ?_⟩
    have w10 := same_new (o := .lst (nats (fltL (rtF p row first) (nF p first)))) hlR'
    have hR10 : (upd H9 lR (.lst (nats (fltL (rtF p row first) (nF p first))))) lR = some (.lst (nats (fltL (rtF p row first) (nF p first)))) := upd_same
    have s810 := s9.trans w10
    generalize upd H9 lR (.lst (nats (fltL (rtF p row first) (nF p first)))) = H10 at hR10 s810 ⊢
    have hmany : (fltL (rtF p row first) (nF p first)).length = n := by
      have := roots_many OR OF hlen'
      rw [hq, hlR] at this
      exact this
    refine ⟨_, rfl, y, dy1, _, rfl, s810 _ _ hfy, fld_no _ _ _ (by decide +kernel) (by decide +kernel) (by decide +kernel), y, p, row, rfl, hF2'.sm s810, _, rfl, rfl, _, rfl, niF7 (congrArg (fun z : Nat => (z : Int)) hq) ?_⟩
    refine ⟨_, rfl, lR, _, rfl, .inl (SqL.of hR10), _, rfl, rfl, _, rfl, niF7 (by rw [nats_len, hmany]) ?_⟩
    refine ⟨_, rfl, lR, rfl, ⟨_, SqL.of hR10⟩, for_list (K := K) (a := lR) (xs := nats (fltL (rtF p row first) (nF p first))) (fun i σ H11 => Same H10 H11 ∧ ∃ x10 x11 x12 x13 : Option V, σ = [some (.ref a), some (.ref lx), some (.ref l), some (.int ((p : Nat) : Int)), some (.int ((n : Nat) : Int)), some (.ref tF), some (.ref x), some (.ref y), some (.int ((nF p first : Nat) : Int)), some (.ref lR), x10, x11, x12, x13]) ⟨Same.refl _, none, none, none, none, rfl⟩ (fun i σ H11 _ ⟨e, _⟩ => SqL.of (e _ _ hR10)) ?_ ?_⟩
    · rintro i v σ H11 hi ⟨s11, x10, x11, x12, x13, rfl⟩
      obtain ⟨r, hri, rfl⟩ := L2.nats_get hi
      obtain ⟨hrq, hroot⟩ := rt_mem (List.mem_of_getElem? hri)
      have s811 := s810.trans s11
      refine ⟨_, rfl, _, rfl, _, rfl, _, rfl, y, p, r, row, (by rw [hlR]; rfl), hF2'.sm s811, OR, by rw [hq]; exact hrq, fun lL H12 s12 hL12 => ?_⟩
      have hLl : (ledL p row r).length = nF p row := by unfold ledL; rw [List.length_map, List.length_range]
      refine ⟨_, rfl, lL, (ledL p row r).map (fun z => ((z : Nat) : Int)), rfl, SqL.of (by rw [← nats_ints]; exact hL12), by rw [List.length_map, hLl, hq]; omega, fun l13 ns' hl13 hpm hso => ?_⟩
      obtain ⟨b', eb, hp', hs'⟩ := back_nats hpm hso
      have hbr := led_sorted OR OF hlen' hroot hp' hs'
      rw [eb, hbr, hq]
      have w13 := same_new (o := .lst (nats (List.range (nF p first)))) hl13
      refine ⟨_, rfl, ((nF p first : Nat) : Int), rfl, fun r14 hr14 => ⟨r14, nF p first, rfl, upd_same, by omega, fun l15 hl15 => ?_⟩⟩
      have w14 := same_new (o := .rng 0 ((nF p first : Nat) : Int)) hr14
      have w15 := same_new (o := .lst (nats (List.range (nF p first)))) hl15
      refine ⟨_, _, list_isD7 ((w14.trans w15) _ _ upd_same), list_isD7 (xs := List.range (nF p first)) upd_same, shaped_blk _, shaped_blk _, _, rfl, ?_⟩
      rw [list_eqv7]
      refine iteF ?_
      have s1215 := w13.trans (w14.trans w15)
      have hL15 := s1215 _ _ hL12
      have s815 := s811.trans (s12.trans s1215)
      have s1015 := s11.trans (s12.trans s1215)
      have eL : ∀ z, valV p row r (digN p (row.length - 1) z) = ledV p row first r z := fun z => by unfold ledV; rw [hlen']
      have lat : ∀ {k : Nat}, k < nF p first → atI (nats (ledL p row r)) ((k : Nat) : Int) = some (.int ((ledV p row first r k : Nat) : Int)) := fun {k} hk => by
        rw [← eL]
        exact map_at7 (by rw [hq]; exact hk)
      refine ⟨_, rfl, _, rfl, a, ns, nF p first, rfl, (sS.trans s815).seq hS, hlen, hq2, hq32, fun l16 ps H16 s16 hl16 hP => ?_⟩
      refine ⟨l16, rfl, ⟨_, SqL.of hl16⟩, for_list (K := K) (a := l16) (xs := ps) (fun i σ H17 => Same H16 H17 ∧ ∃ x12 x13 : Option V, σ = [some (.ref a), some (.ref lx), some (.ref l), some (.int ((p : Nat) : Int)), some (.int ((n : Nat) : Int)), some (.ref tF), some (.ref x), some (.ref y), some (.int ((nF p first : Nat) : Int)), some (.ref lR), some (.int ((r : Nat) : Int)), some (.ref lL), x12, x13]) ⟨Same.refl _, _, _, rfl⟩ (fun i σ H17 _ ⟨e, _⟩ => SqL.of (e _ _ hl16)) ?_ ?_⟩
      · rintro i v σ H17 hi ⟨s17, x12, x13, rfl⟩
        obtain ⟨t18, a', b', rfl, ha', hb', ht18⟩ := hP v (List.mem_of_getElem? hi)
        have s1517 := s16.trans s17
        have s817 := s815.trans s1517
        refine ⟨t18, _, rfl, SqT.of (s17 _ _ ht18), rfl, _, _, rfl, _, _, rfl, rfl, ?_⟩
        refine ⟨_, rfl, _, rfl, x, dx1, _, rfl, s817 _ _ hfx, fld_no _ _ _ (by decide +kernel) (by decide +kernel) (by decide +kernel), _, rfl, _, rfl, x, p, a', b', first, rfl, hF1'.sm s817, OF, ha', hb', fun H18 s18 => ?_⟩
        have hL18 := (s1517.trans s18) _ _ hL15
        have s818 := s817.trans s18
        refine ⟨lL, _, _, _, rfl, rfl, SqL.of hL18, lat (pl_lt OF a' b'), ?_⟩
        refine ⟨_, rfl, y, dy1, _, rfl, s818 _ _ hfy, fld_no _ _ _ (by decide +kernel) (by decide +kernel) (by decide +kernel), _, rfl, _, rfl, lL, _, _, _, rfl, rfl, SqL.of hL18, lat ha', _, rfl, _, rfl, lL, _, _, _, rfl, rfl, SqL.of hL18, lat hb', y, p, _, _, row, rfl, hF2'.sm s818, OR, led_lt OR .., led_lt OR .., fun H19 s19 => ⟨rfl, _, rfl, niF7 (by rw [led_add OR]) ?_⟩⟩
        have s819 := s818.trans s19
        refine ⟨_, rfl, _, rfl, x, dx1, _, rfl, s819 _ _ hfx, fld_no _ _ _ (by decide +kernel) (by decide +kernel) (by decide +kernel), _, rfl, _, rfl, x, p, a', b', first, rfl, hF1'.sm s819, OF, ha', hb', fun H20 s20 => ?_⟩
        have hL20 := (s19.trans s20) _ _ hL18
        have s820 := s819.trans s20
        refine ⟨lL, _, _, _, rfl, rfl, SqL.of hL20, lat (tm_lt OF a' b'), ?_⟩
        exact ⟨_, rfl, y, dy1, _, rfl, s820 _ _ hfy, fld_no _ _ _ (by decide +kernel) (by decide +kernel) (by decide +kernel), _, rfl, _, rfl, lL, _, _, _, rfl, rfl, SqL.of hL20, lat ha', _, rfl, _, rfl, lL, _, _, _, rfl, rfl, SqL.of hL20, lat hb', y, p, _, _, row, rfl, hF2'.sm s820, OR, led_lt OR .., led_lt OR .., fun H21 s21 => ⟨rfl, _, rfl, niF7 (by rw [led_mul OR OF hroot]) ⟨s17.trans (s18.trans (s19.trans (s20.trans s21))), _, _, rfl⟩⟩⟩
      · rintro σ H17 ⟨s17, x12, x13, rfl⟩
        exact ⟨s1015.trans (s16.trans s17), _, _, _, _, rfl⟩
    · rintro σ H11 ⟨s11, x10, x11, x12, x13, rfl⟩
      have s811 := s810.trans s11
      refine ⟨_, rfl, _, rfl, a, ns, nF p first, rfl, (sS.trans s811).seq hS, hlen, hq2, hq32, fun l16 ps H16 s16 hl16 hP => ?_⟩
      refine ⟨l16, rfl, ⟨_, SqL.of hl16⟩, for_list (K := K) (a := l16) (xs := ps) (fun i σ H17 => Same H16 H17 ∧ ∃ x12 x13 : Option V, σ = [some (.ref a), some (.ref lx), some (.ref l), some (.int ((p : Nat) : Int)), some (.int ((n : Nat) : Int)), some (.ref tF), some (.ref x), some (.ref y), some (.int ((nF p first : Nat) : Int)), some (.ref lR), x10, x11, x12, x13]) ⟨Same.refl _, _, _, rfl⟩ (fun i σ H17 _ ⟨e, _⟩ => SqL.of (e _ _ hl16)) ?_ ?_⟩
      · rintro i v σ H17 hi ⟨s17, x12, x13, rfl⟩
        obtain ⟨t18, a', b', rfl, ha', hb', ht18⟩ := hP v (List.mem_of_getElem? hi)
        have s817 := s811.trans (s16.trans s17)
        refine ⟨t18, _, rfl, SqT.of (s17 _ _ ht18), rfl, _, _, rfl, _, _, rfl, rfl, ?_⟩
        refine ⟨_, rfl, _, rfl, _, rfl, x, p, a', nF p first, first, rfl, hF1'.sm s817, OF, ha', hq32, fun H18 s18 => ⟨_, rfl, rfl, _, rfl, niF7 (by rw [pow_q OF ha']) ?_⟩⟩
        have s818 := s817.trans s18
        refine ⟨_, rfl, _, rfl, x, dx1, _, rfl, s818 _ _ hfx, fld_no _ _ _ (by decide +kernel) (by decide +kernel) (by decide +kernel), _, rfl, _, rfl, x, p, a', b', first, rfl, hF1'.sm s818, OF, ha', hb', fun H19 s19 => ?_⟩
        have s819 := s818.trans s19
        refine ⟨_, rfl, x, p, plV p first a' b', p, first, rfl, hF1'.sm s819, OF, pl_lt OF a' b', by omega, fun H20 s20 => ?_⟩
        have s820 := s819.trans s20
        refine ⟨_, rfl, x, dx1, _, rfl, s820 _ _ hfx, fld_no _ _ _ (by decide +kernel) (by decide +kernel) (by decide +kernel), _, rfl, _, rfl, _, rfl, x, p, a', p, first, rfl, hF1'.sm s820, OF, ha', by omega, fun H21 s21 => ?_⟩
        have s821 := s820.trans s21
        refine ⟨_, rfl, _, rfl, _, rfl, x, p, b', p, first, rfl, hF1'.sm s821, OF, hb', by omega, fun H22 s22 => ?_⟩
        exact ⟨x, p, powV p first a' p, powV p first b' p, first, rfl, hF1'.sm (s821.trans s22), OF, pow_lt OF a' p, pow_lt OF b' p, fun H23 s23 => ⟨rfl, _, rfl, niF7 (by rw [frob OF ha' hb']) ⟨s17.trans (s18.trans (s19.trans (s20.trans (s21.trans (s22.trans s23))))), _, _, rfl⟩⟩⟩
      · rintro σ H17 ⟨s17, x12, x13, rfl⟩
        exact q _
structure FieldC (K : PySem.W.Frag) (C : Addr) : Prop where
  nC : PySem.W.nsIn K mainGlobals "Field" = some (some (.ref C))
  Z : FieldK K C
  mkc : PySem.W.makesIn K C = true
  kc : PySem.W.keepIn K (.ref C) = true
  nR : PySem.W.nsIn K mainGlobals "reversed" = some none
  iInit : ∃ (f : Addr) (fd : FuncData), Meth K C "__init__" f ∧ Fun K "__init__" "Field.__init__" sMInit f fd
  iSize : ∃ (f : Addr) (fd : FuncData), Meth K C "size" f ∧ Fun K "size" "Field.size" sMSize f fd
  iPlus : ∃ (f : Addr) (fd : FuncData), Meth K C "plus" f ∧ Fun K "plus" "Field.plus" sMPlus f fd
  iTimes : ∃ (f : Addr) (fd : FuncData), Meth K C "times" f ∧ Fun K "times" "Field.times" sMTimes f fd
  iMustHave : ∃ (f : Addr) (fd : FuncData), Meth K C "must_have" f ∧ Fun K "must_have" "Field.must_have" sMMustHave f fd
theorem field_mk {K : PySem.W.Frag} {C f0 f1 f2 f3 f4 : Addr} {oc0 kV0 dc0 pm0 cd0 ct0 : Value} {od0 an0 : Option Addr} {sl0 : Array (Option Value)} {oc1 kV1 dc1 pm1 cd1 ct1 : Value} {od1 an1 : Option Addr} {sl1 : Array (Option Value)} {oc2 kV2 dc2 pm2 cd2 ct2 : Value} {od2 an2 : Option Addr} {sl2 : Array (Option Value)} {oc3 kV3 dc3 pm3 cd3 ct3 : Value} {od3 an3 : Option Addr} {sl3 : Array (Option Value)} {oc4 kV4 dc4 pm4 cd4 ct4 : Value} {od4 an4 : Option Addr} {sl4 : Array (Option Value)}
    (nC : PySem.W.nsIn K mainGlobals "Field" = some (some (.ref C))) (pg : PySem.W.plainGet K C Str.empty = true) (hd : PySem.W.hasDictIn K C = true) (po : PySem.W.plainOver K C = true) (sa : PySem.W.findIn K (.ref C) "__setattr__" = some (some (.builtin "object.__setattr__"))) (mk : PySem.W.makesIn K C = true) (kc : PySem.W.keepIn K (.ref C) = true) (n0 : PySem.W.findIn K (.ref C) "many" = some none) (n1 : PySem.W.findIn K (.ref C) "prime" = some none) (n2 : PySem.W.findIn K (.ref C) "row" = some none) (nR : PySem.W.nsIn K mainGlobals "reversed" = some none)
    (a0 : PySem.W.findIn K (.ref C) "__init__" = some (some (.ref f0))) (i0 : PySem.W.isFn K (.ref f0) = true) (l0 : K.lookup f0 = some ⟨oc0, od0, .func (PySem.W.fnOf "__init__" "Field.__init__" (defArgs sMInit) (defBody sMInit) (defScope sMInit) .none kV0 dc0 pm0 an0 cd0 ct0), sl0⟩) (c0 : PySem.W.codeIn K cd0 "Field.__init__" = true) (k0 : PySem.W.keepIn K (.ref f0) = true)
    (a1 : PySem.W.findIn K (.ref C) "size" = some (some (.ref f1))) (i1 : PySem.W.isFn K (.ref f1) = true) (l1 : K.lookup f1 = some ⟨oc1, od1, .func (PySem.W.fnOf "size" "Field.size" (defArgs sMSize) (defBody sMSize) (defScope sMSize) .none kV1 dc1 pm1 an1 cd1 ct1), sl1⟩) (c1 : PySem.W.codeIn K cd1 "Field.size" = true) (k1 : PySem.W.keepIn K (.ref f1) = true)
    (a2 : PySem.W.findIn K (.ref C) "plus" = some (some (.ref f2))) (i2 : PySem.W.isFn K (.ref f2) = true) (l2 : K.lookup f2 = some ⟨oc2, od2, .func (PySem.W.fnOf "plus" "Field.plus" (defArgs sMPlus) (defBody sMPlus) (defScope sMPlus) .none kV2 dc2 pm2 an2 cd2 ct2), sl2⟩) (c2 : PySem.W.codeIn K cd2 "Field.plus" = true) (k2 : PySem.W.keepIn K (.ref f2) = true)
    (a3 : PySem.W.findIn K (.ref C) "times" = some (some (.ref f3))) (i3 : PySem.W.isFn K (.ref f3) = true) (l3 : K.lookup f3 = some ⟨oc3, od3, .func (PySem.W.fnOf "times" "Field.times" (defArgs sMTimes) (defBody sMTimes) (defScope sMTimes) .none kV3 dc3 pm3 an3 cd3 ct3), sl3⟩) (c3 : PySem.W.codeIn K cd3 "Field.times" = true) (k3 : PySem.W.keepIn K (.ref f3) = true)
    (a4 : PySem.W.findIn K (.ref C) "must_have" = some (some (.ref f4))) (i4 : PySem.W.isFn K (.ref f4) = true) (l4 : K.lookup f4 = some ⟨oc4, od4, .func (PySem.W.fnOf "must_have" "Field.must_have" (defArgs sMMustHave) (defBody sMMustHave) (defScope sMMustHave) .none kV4 dc4 pm4 an4 cd4 ct4), sl4⟩) (c4 : PySem.W.codeIn K cd4 "Field.must_have" = true) (k4 : PySem.W.keepIn K (.ref f4) = true)
    : ∃ C : Addr, FieldC K C := ⟨C, nC, ⟨⟨pg, hd, po, sa⟩, n0, n1, n2⟩, mk, kc, nR, ⟨f0, _, ⟨a0, i0, k0⟩, fun_mk l0 c0 k0⟩, ⟨f1, _, ⟨a1, i1, k1⟩, fun_mk l1 c1 k1⟩, ⟨f2, _, ⟨a2, i2, k2⟩, fun_mk l2 c2 k2⟩, ⟨f3, _, ⟨a3, i3, k3⟩, fun_mk l3 c3 k3⟩, ⟨f4, _, ⟨a4, i4, k4⟩, fun_mk l4 c4 k4⟩⟩
end
end E1
namespace E1
open PySem L2
theorem all_mk {l : PySem.W.OpenLaw} {w : World} {K : PySem.W.Frag} {h : Heap} {mg : Str → Option Value} {fa : Addr} (X : K.In h) (G : h.Ns mainGlobals mg) (hfa : mg "law" = some (.ref fa))
    (N : PySem.W.nsIn K mainGlobals "isinstance" = some none ∧ PySem.W.nsIn K mainGlobals "int" = some none ∧ PySem.W.nsIn K mainGlobals "bool" = some none ∧ PySem.W.nsIn K mainGlobals "abs" = some none ∧ PySem.W.nsIn K mainGlobals "len" = some none ∧ PySem.W.nsIn K mainGlobals "range" = some none ∧ PySem.W.nsIn K mainGlobals "tuple" = some none ∧ PySem.W.nsIn K mainGlobals "list" = some none ∧ PySem.W.nsIn K mainGlobals "sorted" = some none ∧ PySem.W.nsIn K mainGlobals "all" = some none ∧ PySem.W.nsIn K mainGlobals "set" = some none ∧ PySem.W.nsIn K mainGlobals "zip" = some none ∧ PySem.W.nsIn K mainGlobals "enumerate" = some none ∧ PySem.W.nsIn K mainGlobals "any" = some none ∧ PySem.W.nsIn K mainGlobals "max" = some none ∧ PySem.W.nsIn K mainGlobals "min" = some none ∧ PySem.W.nsIn K mainGlobals "str" = some none ∧ PySem.W.nsIn K mainGlobals "sum" = some none)
    (Zc : ∃ C : Addr, FieldC K C)
    (CMostNumbers : ∃ t, PySem.W.nsIn K mainGlobals "MOST_NUMBERS" = some (some (.int 32 t)))
    (AWhole : At K "is_whole" sWhole) (AIsBelow : At K "is_below" sIsBelow) (AMust : At K "must_be_whole" sMust) (AFrom : At K "must_be_from" sFrom) (APrimes : At K "primes_of" sPrimes) (AIsPrime : At K "is_prime" sIsPrime) (ARowTimes : At K "row_times" sRowTimes) (ARowRest : At K "row_rest" sRowRest) (ARowFactor : At K "row_factor" sRowFactor) (ATrimmed : At K "trimmed" sTrimmed) (ADigitsOf : At K "digits_of" sDigitsOf) (ANumberOf : At K "number_of" sNumberOf) (AMustBeRow : At K "must_be_row" sMustBeRow) (ASizeWithin : At K "size_within" sSizeWithin) (AMustBePrime : At K "must_be_prime" sMustBePrime) (AMustBeNoProduct : At K "must_be_no_product" sMustBeNoProduct) (AJoined : At K "joined" sJoined) (ACell : At K "_law_cell" sCell) (ALNumbers : At K "_law_numbers" sLNumbers) (ALDivided : At K "_law_divided" sLDivided) (ALRowBy : At K "_law_row_by" sLRowBy) (ALTotal : At K "_law_total" sLTotal) (ALStays : At K "_law_stays" sLStays) (ALRowFrom : At K "_law_row_from" sLRowFrom) (ALPower : At K "_law_power" sLPower) (ALValue : At K "_law_value" sLValue) (ALLed : At K "_law_led" sLLed) (ALPairs : At K "_law_pairs" sLPairs) (ALaw : At K "law" sLaw) :
    ∃ fd : FuncData, (∀ (s : Shared) (v : Value), BindsTo s fd ⟨[v], []⟩ [("_law_script", v)]) ∧ ∀ base : Heap, K.In base → base.Ns mainGlobals mg → FnOk l.prog w K mg base CX0 12 fa fd ["_law_script"] (spLaw K) := by
  obtain ⟨n0, n1, n2, n3, n4, n5, n6, n7, n8, n9, n10, n11, n12, n13, n14, n15, n16, n17⟩ := N
  have T : TxtB mg := ⟨PySem.W.mg_none_of X G n0, PySem.W.mg_none_of X G n1, PySem.W.mg_none_of X G n2, PySem.W.mg_none_of X G n3, PySem.W.mg_none_of X G n4, PySem.W.mg_none_of X G n5, PySem.W.mg_none_of X G n6, PySem.W.mg_none_of X G n7, PySem.W.mg_none_of X G n8, PySem.W.mg_none_of X G n9, PySem.W.mg_none_of X G n10, PySem.W.mg_none_of X G n11, PySem.W.mg_none_of X G n12, PySem.W.mg_none_of X G n13, PySem.W.mg_none_of X G n14, PySem.W.mg_none_of X G n15, PySem.W.mg_none_of X G n16, PySem.W.mg_none_of X G n17⟩
  obtain ⟨C, Zc⟩ := Zc
  have mF := PySem.W.mg_of X G Zc.nC
  have mR := PySem.W.mg_none_of X G Zc.nR
  obtain ⟨fMInit, fdMInit, eMInit, FMInit⟩ := Zc.iInit
  have bMInit := FMInit.binds (ps := ["self", "p", "row"]) fun _ _ _ _ _ _ us hl => match us, hl with | [_, _, _], _ => rfl
  obtain ⟨fMSize, fdMSize, eMSize, FMSize⟩ := Zc.iSize
  have bMSize := FMSize.binds (ps := ["self"]) fun _ _ _ _ _ _ us hl => match us, hl with | [_], _ => rfl
  obtain ⟨fMPlus, fdMPlus, eMPlus, FMPlus⟩ := Zc.iPlus
  have bMPlus := FMPlus.binds (ps := ["self", "a", "b"]) fun _ _ _ _ _ _ us hl => match us, hl with | [_, _, _], _ => rfl
  obtain ⟨fMTimes, fdMTimes, eMTimes, FMTimes⟩ := Zc.iTimes
  have bMTimes := FMTimes.binds (ps := ["self", "a", "b"]) fun _ _ _ _ _ _ us hl => match us, hl with | [_, _, _], _ => rfl
  obtain ⟨fMMustHave, fdMMustHave, eMMustHave, FMMustHave⟩ := Zc.iMustHave
  have bMMustHave := FMMustHave.binds (ps := ["self", "thing"]) fun _ _ _ _ _ _ us hl => match us, hl with | [_, _], _ => rfl
  obtain ⟨tMostNumbers, cMostNumbers⟩ := CMostNumbers
  have mMostNumbers := PySem.W.mg_of X G cMostNumbers
  obtain ⟨fWhole, fdWhole, aWhole, FWhole⟩ := AWhole
  obtain ⟨fIsBelow, fdIsBelow, aIsBelow, FIsBelow⟩ := AIsBelow
  obtain ⟨fMust, fdMust, aMust, FMust⟩ := AMust
  obtain ⟨fFrom, fdFrom, aFrom, FFrom⟩ := AFrom
  obtain ⟨fPrimes, fdPrimes, aPrimes, FPrimes⟩ := APrimes
  obtain ⟨fIsPrime, fdIsPrime, aIsPrime, FIsPrime⟩ := AIsPrime
  obtain ⟨fRowTimes, fdRowTimes, aRowTimes, FRowTimes⟩ := ARowTimes
  obtain ⟨fRowRest, fdRowRest, aRowRest, FRowRest⟩ := ARowRest
  obtain ⟨fRowFactor, fdRowFactor, aRowFactor, FRowFactor⟩ := ARowFactor
  obtain ⟨fTrimmed, fdTrimmed, aTrimmed, FTrimmed⟩ := ATrimmed
  obtain ⟨fDigitsOf, fdDigitsOf, aDigitsOf, FDigitsOf⟩ := ADigitsOf
  obtain ⟨fNumberOf, fdNumberOf, aNumberOf, FNumberOf⟩ := ANumberOf
  obtain ⟨fMustBeRow, fdMustBeRow, aMustBeRow, FMustBeRow⟩ := AMustBeRow
  obtain ⟨fSizeWithin, fdSizeWithin, aSizeWithin, FSizeWithin⟩ := ASizeWithin
  obtain ⟨fMustBePrime, fdMustBePrime, aMustBePrime, FMustBePrime⟩ := AMustBePrime
  obtain ⟨fMustBeNoProduct, fdMustBeNoProduct, aMustBeNoProduct, FMustBeNoProduct⟩ := AMustBeNoProduct
  obtain ⟨fJoined, fdJoined, aJoined, FJoined⟩ := AJoined
  obtain ⟨fCell, fdCell, aCell, FCell⟩ := ACell
  obtain ⟨fLNumbers, fdLNumbers, aLNumbers, FLNumbers⟩ := ALNumbers
  obtain ⟨fLDivided, fdLDivided, aLDivided, FLDivided⟩ := ALDivided
  obtain ⟨fLRowBy, fdLRowBy, aLRowBy, FLRowBy⟩ := ALRowBy
  obtain ⟨fLTotal, fdLTotal, aLTotal, FLTotal⟩ := ALTotal
  obtain ⟨fLStays, fdLStays, aLStays, FLStays⟩ := ALStays
  obtain ⟨fLRowFrom, fdLRowFrom, aLRowFrom, FLRowFrom⟩ := ALRowFrom
  obtain ⟨fLPower, fdLPower, aLPower, FLPower⟩ := ALPower
  obtain ⟨fLValue, fdLValue, aLValue, FLValue⟩ := ALValue
  obtain ⟨fLLed, fdLLed, aLLed, FLLed⟩ := ALLed
  obtain ⟨fLPairs, fdLPairs, aLPairs, FLPairs⟩ := ALPairs
  obtain ⟨fLaw, fdLaw, aLaw, FLaw⟩ := ALaw
  have e := hfa.symm.trans (PySem.W.mg_of X G aLaw)
  cases e
  have bWhole := FWhole.binds (ps := ["thing"]) fun _ _ _ _ _ _ us hl => match us, hl with | [_], _ => rfl
  have mWhole := PySem.W.mg_of X G aWhole
  have bIsBelow := FIsBelow.binds (ps := ["thing", "many"]) fun _ _ _ _ _ _ us hl => match us, hl with | [_, _], _ => rfl
  have mIsBelow := PySem.W.mg_of X G aIsBelow
  have bMust := FMust.binds (ps := ["thing"]) fun _ _ _ _ _ _ us hl => match us, hl with | [_], _ => rfl
  have mMust := PySem.W.mg_of X G aMust
  have bFrom := FFrom.binds (ps := ["least", "thing"]) fun _ _ _ _ _ _ us hl => match us, hl with | [_, _], _ => rfl
  have mFrom := PySem.W.mg_of X G aFrom
  have bPrimes := FPrimes.binds (ps := ["n"]) fun _ _ _ _ _ _ us hl => match us, hl with | [_], _ => rfl
  have mPrimes := PySem.W.mg_of X G aPrimes
  have bIsPrime := FIsPrime.binds (ps := ["p"]) fun _ _ _ _ _ _ us hl => match us, hl with | [_], _ => rfl
  have mIsPrime := PySem.W.mg_of X G aIsPrime
  have bRowTimes := FRowTimes.binds (ps := ["p", "one", "other"]) fun _ _ _ _ _ _ us hl => match us, hl with | [_, _, _], _ => rfl
  have mRowTimes := PySem.W.mg_of X G aRowTimes
  have bRowRest := FRowRest.binds (ps := ["p", "one", "by"]) fun _ _ _ _ _ _ us hl => match us, hl with | [_, _, _], _ => rfl
  have mRowRest := PySem.W.mg_of X G aRowRest
  have bRowFactor := FRowFactor.binds (ps := ["p", "row"]) fun _ _ _ _ _ _ us hl => match us, hl with | [_, _], _ => rfl
  have mRowFactor := PySem.W.mg_of X G aRowFactor
  have bTrimmed := FTrimmed.binds (ps := ["digits"]) fun _ _ _ _ _ _ us hl => match us, hl with | [_], _ => rfl
  have mTrimmed := PySem.W.mg_of X G aTrimmed
  have bDigitsOf := FDigitsOf.binds (ps := ["p", "number"]) fun _ _ _ _ _ _ us hl => match us, hl with | [_, _], _ => rfl
  have mDigitsOf := PySem.W.mg_of X G aDigitsOf
  have bNumberOf := FNumberOf.binds (ps := ["p", "digits"]) fun _ _ _ _ _ _ us hl => match us, hl with | [_, _], _ => rfl
  have mNumberOf := PySem.W.mg_of X G aNumberOf
  have bMustBeRow := FMustBeRow.binds (ps := ["p", "row"]) fun _ _ _ _ _ _ us hl => match us, hl with | [_, _], _ => rfl
  have mMustBeRow := PySem.W.mg_of X G aMustBeRow
  have bSizeWithin := FSizeWithin.binds (ps := ["p", "row"]) fun _ _ _ _ _ _ us hl => match us, hl with | [_, _], _ => rfl
  have mSizeWithin := PySem.W.mg_of X G aSizeWithin
  have bMustBePrime := FMustBePrime.binds (ps := ["p"]) fun _ _ _ _ _ _ us hl => match us, hl with | [_], _ => rfl
  have mMustBePrime := PySem.W.mg_of X G aMustBePrime
  have bMustBeNoProduct := FMustBeNoProduct.binds (ps := ["p", "row"]) fun _ _ _ _ _ _ us hl => match us, hl with | [_, _], _ => rfl
  have mMustBeNoProduct := PySem.W.mg_of X G aMustBeNoProduct
  have bJoined := FJoined.binds (ps := ["p", "a", "b", "sign"]) fun _ _ _ _ _ _ us hl => match us, hl with | [_, _, _, _], _ => rfl
  have mJoined := PySem.W.mg_of X G aJoined
  have bCell := FCell.binds (ps := ["_law_script", "_law_k"]) fun _ _ _ _ _ _ us hl => match us, hl with | [_, _], _ => rfl
  have mCell := PySem.W.mg_of X G aCell
  have bLNumbers := FLNumbers.binds (ps := ["_law_cell_here", "_law_many"]) fun _ _ _ _ _ _ us hl => match us, hl with | [_, _], _ => rfl
  have mLNumbers := PySem.W.mg_of X G aLNumbers
  have bLDivided := FLDivided.binds (ps := ["_law_p", "_law_row", "_law_by"]) fun _ _ _ _ _ _ us hl => match us, hl with | [_, _, _], _ => rfl
  have mLDivided := PySem.W.mg_of X G aLDivided
  have bLRowBy := FLRowBy.binds (ps := ["_law_p", "_law_size", "_law_x"]) fun _ _ _ _ _ _ us hl => match us, hl with | [_, _, _], _ => rfl
  have mLRowBy := PySem.W.mg_of X G aLRowBy
  have bLTotal := FLTotal.binds (ps := ["_law_p", "_law_size"]) fun _ _ _ _ _ _ us hl => match us, hl with | [_, _], _ => rfl
  have mLTotal := PySem.W.mg_of X G aLTotal
  have bLStays := FLStays.binds (ps := ["_law_p", "_law_row"]) fun _ _ _ _ _ _ us hl => match us, hl with | [_, _], _ => rfl
  have mLStays := PySem.W.mg_of X G aLStays
  have bLRowFrom := FLRowFrom.binds (ps := ["_law_p", "_law_size", "_law_x"]) fun _ _ _ _ _ _ us hl => match us, hl with | [_, _, _], _ => rfl
  have mLRowFrom := PySem.W.mg_of X G aLRowFrom
  have bLPower := FLPower.binds (ps := ["_law_field", "_law_a", "_law_often"]) fun _ _ _ _ _ _ us hl => match us, hl with | [_, _, _], _ => rfl
  have mLPower := PySem.W.mg_of X G aLPower
  have bLValue := FLValue.binds (ps := ["_law_field", "_law_parts", "_law_a"]) fun _ _ _ _ _ _ us hl => match us, hl with | [_, _, _], _ => rfl
  have mLValue := PySem.W.mg_of X G aLValue
  have bLLed := FLLed.binds (ps := ["_law_field", "_law_p", "_law_size", "_law_root"]) fun _ _ _ _ _ _ us hl => match us, hl with | [_, _, _, _], _ => rfl
  have mLLed := PySem.W.mg_of X G aLLed
  have bLPairs := FLPairs.binds (ps := ["_law_script", "_law_total_here"]) fun _ _ _ _ _ _ us hl => match us, hl with | [_, _], _ => rfl
  have mLPairs := PySem.W.mg_of X G aLPairs
  refine ⟨fdLaw, ?_, fun base _ _ => ?_⟩
  · obtain ⟨oc, od, kV, doc, pm, an, cdv, ct, osl, rfl, lk, hcd⟩ := FLaw.ex
    exact fun s v => .of_eq rfl
  · have pW : Pm l.prog w K mg base CX0 1 "is_whole" ["thing"] (spWhole K) := ⟨fWhole, fdWhole, mWhole, FWhole.kp, bWhole, ok_whole FWhole T⟩
    have pI : Pm l.prog w K mg base CX0 2 "is_below" ["thing", "many"] spBelow := ⟨fIsBelow, fdIsBelow, mIsBelow, FIsBelow.kp, bIsBelow, ok_below FIsBelow pW⟩
    have pMu : Pm l.prog w K mg base CX0 2 "must_be_whole" ["thing"] spMustN := ⟨fMust, fdMust, mMust, FMust.kp, bMust, ok_mustN FMust pW⟩
    have pPr : Pm l.prog w K mg base CX0 4 "primes_of" ["n"] spPrimesN := ⟨fPrimes, fdPrimes, mPrimes, FPrimes.kp, bPrimes, ok_primes FPrimes FFrom bFrom mFrom (ok_fromN FFrom pMu)⟩
    have pIP : Pm l.prog w K mg base CX0 5 "is_prime" ["p"] spIsPrime := ⟨fIsPrime, fdIsPrime, mIsPrime, FIsPrime.kp, bIsPrime, ok_isprime FIsPrime pPr⟩
    have pTr : Pm l.prog w K mg base CX0 1 "trimmed" ["digits"] spTrim := ⟨fTrimmed, fdTrimmed, mTrimmed, FTrimmed.kp, bTrimmed, ok_trimmed FTrimmed T⟩
    have pRT : Pm l.prog w K mg base CX0 2 "row_times" ["p", "one", "other"] spProd := ⟨fRowTimes, fdRowTimes, mRowTimes, FRowTimes.kp, bRowTimes, ok_times FRowTimes T pTr⟩
    have pRR : Pm l.prog w K mg base CX0 2 "row_rest" ["p", "one", "by"] spRest := ⟨fRowRest, fdRowRest, mRowRest, FRowRest.kp, bRowRest, ok_rest FRowRest T pTr⟩
    have pDi : Pm l.prog w K mg base CX0 1 "digits_of" ["p", "number"] spDigits := ⟨fDigitsOf, fdDigitsOf, mDigitsOf, FDigitsOf.kp, bDigitsOf, ok_digits FDigitsOf T⟩
    have pDG : Pm l.prog w K mg base CX0 1 "digits_of" ["p", "number"] spDigG := ⟨fDigitsOf, fdDigitsOf, mDigitsOf, FDigitsOf.kp, bDigitsOf, ok_digG FDigitsOf T⟩
    have pRF : Pm l.prog w K mg base CX0 3 "row_factor" ["p", "row"] spDv := ⟨fRowFactor, fdRowFactor, mRowFactor, FRowFactor.kp, bRowFactor, ok_factor FRowFactor T pDi pRR⟩
    have pNu : Pm l.prog w K mg base CX0 1 "number_of" ["p", "digits"] spNum := ⟨fNumberOf, fdNumberOf, mNumberOf, FNumberOf.kp, bNumberOf, ok_num FNumberOf mR⟩
    have pJo : Pm l.prog w K mg base CX0 1 "joined" ["p", "a", "b", "sign"] spJoin := ⟨fJoined, fdJoined, mJoined, FJoined.kp, bJoined, ok_join FJoined⟩
    have pMR : Pm l.prog w K mg base CX0 3 "must_be_row" ["p", "row"] spMRow := ⟨fMustBeRow, fdMustBeRow, mMustBeRow, FMustBeRow.kp, bMustBeRow, ok_mrow FMustBeRow T pW pI⟩
    have pSi : Pm l.prog w K mg base CX0 1 "size_within" ["p", "row"] spSize := ⟨fSizeWithin, fdSizeWithin, mSizeWithin, FSizeWithin.kp, bSizeWithin, ok_size FSizeWithin mMostNumbers⟩
    have pMP : Pm l.prog w K mg base CX0 6 "must_be_prime" ["p"] spMP := ⟨fMustBePrime, fdMustBePrime, mMustBePrime, FMustBePrime.kp, bMustBePrime, ok_mp FMustBePrime pIP⟩
    have pMN : Pm l.prog w K mg base CX0 4 "must_be_no_product" ["p", "row"] spMNo := ⟨fMustBeNoProduct, fdMustBeNoProduct, mMustBeNoProduct, FMustBeNoProduct.kp, bMustBeNoProduct, ok_mno FMustBeNoProduct pRF⟩
    have pMk : Mkp l.prog w K mg base CX0 7 "Field" C ["self", "p", "row"] (spInit C) := ⟨fMInit, fdMInit, mF, ⟨Zc.mkc, eMInit.at_, eMInit.fn, Zc.kc⟩, bMInit, ok_init FMInit Zc.Z pMR pSi pMP pMN⟩
    have pHa : Mp l.prog w K mg base CX0 3 C "must_have" ["self", "thing"] (spHave C) := ⟨fMMustHave, fdMMustHave, eMMustHave, bMMustHave, ok_have FMMustHave Zc.Z pI⟩
    have pSz : Mp l.prog w K mg base CX0 1 C "size" ["self"] (spSizeM C) := ⟨fMSize, fdMSize, eMSize, bMSize, ok_sizeM FMSize Zc.Z⟩
    have pPl : Mp l.prog w K mg base CX0 4 C "plus" ["self", "a", "b"] (spBin C plV) := ⟨fMPlus, fdMPlus, eMPlus, bMPlus, ok_plus FMPlus Zc.Z pHa pJo⟩
    have pTi : Mp l.prog w K mg base CX0 4 C "times" ["self", "a", "b"] (spBin C tmV) := ⟨fMTimes, fdMTimes, eMTimes, bMTimes, ok_timesM FMTimes Zc.Z pHa pDG pRT pRR pNu⟩
    have pN : Pm l.prog w K mg base CX0 1 "_law_numbers" ["_law_cell_here", "_law_many"] spNums := ⟨fLNumbers, fdLNumbers, mLNumbers, FLNumbers.kp, bLNumbers, ok_numbers FLNumbers T⟩
    have pC : Pm l.prog w K mg base CX0 1 "_law_cell" ["_law_script", "_law_k"] (spCell2 K) := ⟨fCell, fdCell, mCell, FCell.kp, bCell, ok_cell2 FCell T⟩
    have pTo : Pm l.prog w K mg base CX0 1 "_law_total" ["_law_p", "_law_size"] spTot := ⟨fLTotal, fdLTotal, mLTotal, FLTotal.kp, bLTotal, ok_tot FLTotal T⟩
    have pRB : Pm l.prog w K mg base CX0 1 "_law_row_by" ["_law_p", "_law_size", "_law_x"] spRowBy := ⟨fLRowBy, fdLRowBy, mLRowBy, FLRowBy.kp, bLRowBy, ok_rowby FLRowBy T⟩
    have pDd : Pm l.prog w K mg base CX0 1 "_law_divided" ["_law_p", "_law_row", "_law_by"] spDivd := ⟨fLDivided, fdLDivided, mLDivided, FLDivided.kp, bLDivided, ok_divd FLDivided T⟩
    have pSt : Pm l.prog w K mg base CX0 2 "_law_stays" ["_law_p", "_law_row"] spStays := ⟨fLStays, fdLStays, mLStays, FLStays.kp, bLStays, ok_stays FLStays T pTo pRB pDd⟩
    have pFr : Pm l.prog w K mg base CX0 3 "_law_row_from" ["_law_p", "_law_size", "_law_x"] spRowFrom := ⟨fLRowFrom, fdLRowFrom, mLRowFrom, FLRowFrom.kp, bLRowFrom, ok_rowfrom FLRowFrom pTo pRB pSt⟩
    have pPw : Pm l.prog w K mg base CX0 5 "_law_power" ["_law_field", "_law_a", "_law_often"] (spPowr C) := ⟨fLPower, fdLPower, mLPower, FLPower.kp, bLPower, ok_powr FLPower T Zc.Z pTi⟩
    have pVa : Pm l.prog w K mg base CX0 5 "_law_value" ["_law_field", "_law_parts", "_law_a"] (spValue C) := ⟨fLValue, fdLValue, mLValue, FLValue.kp, bLValue, ok_value FLValue Zc.Z pPl pTi⟩
    have pLe : Pm l.prog w K mg base CX0 6 "_law_led" ["_law_field", "_law_p", "_law_size", "_law_root"] (spLed C) := ⟨fLLed, fdLLed, mLLed, FLLed.kp, bLLed, ok_led FLLed T pTo pRB pVa⟩
    have pPs : Pm l.prog w K mg base CX0 2 "_law_pairs" ["_law_script", "_law_total_here"] (spPairs K) := ⟨fLPairs, fdLPairs, mLPairs, FLPairs.kp, bLPairs, ok_pairs FLPairs pN⟩
    exact ok_law FLaw T Zc.Z pC pN pFr pMk pSz pPl pTi pVa pLe pPs pPw
end E1
def PySem.W.Fast.tw12392098436246172870 : Nat := 0
def PySem.W.Fast.tw12235931864992449854 : Nat := 0
def PySem.W.Fast.tw14856053354258342343 : Nat := 0
def PySem.W.Fast.tw18041268356131549955 : Nat := 0
def PySem.W.Fast.tw12793527550447650243 : Nat := 0
def PySem.W.Fast.tw5596086117060723305 : Nat := 0
def PySem.W.Fast.tw13773104862836573152 : Nat := 0
def PySem.W.Fast.tw2234350157806132026 : Nat := 0
def PySem.W.Fast.tw17784979751608601992 : Nat := 0
def PySem.W.Fast.tw15800722439973066299 : Nat := 0
open PySem PySem.W PyProof.Rows
set_option maxRecDepth 100000 in
set_option maxHeartbeats 0 in
theorem PySem.Challenge.cw_evenmeet_k27_whole_fields_of_one_size_holds : PySem.Challenge.rw_evenmeet_k27_whole_fields_of_one_size.Holds := by
  w_on; o_law; k_head; (case hw => w_witness2)
  k_fill
  refine E1.walk (l := PySem.Challenge.rw_evenmeet_k27_whole_fields_of_one_size) (k := 12) ⟨rfl, by decide, by decide⟩ rfl rfl (fun w h Y => PySem.W.kIn_of Y) ?F
  case F =>
    intro w mg fa h KX G hmg
    have N : PySem.W.nsIn (L2.KOf KX) mainGlobals "isinstance" = some none ∧ PySem.W.nsIn (L2.KOf KX) mainGlobals "int" = some none ∧ PySem.W.nsIn (L2.KOf KX) mainGlobals "bool" = some none ∧ PySem.W.nsIn (L2.KOf KX) mainGlobals "abs" = some none ∧ PySem.W.nsIn (L2.KOf KX) mainGlobals "len" = some none ∧ PySem.W.nsIn (L2.KOf KX) mainGlobals "range" = some none ∧ PySem.W.nsIn (L2.KOf KX) mainGlobals "tuple" = some none ∧ PySem.W.nsIn (L2.KOf KX) mainGlobals "list" = some none ∧ PySem.W.nsIn (L2.KOf KX) mainGlobals "sorted" = some none ∧ PySem.W.nsIn (L2.KOf KX) mainGlobals "all" = some none ∧ PySem.W.nsIn (L2.KOf KX) mainGlobals "set" = some none ∧ PySem.W.nsIn (L2.KOf KX) mainGlobals "zip" = some none ∧ PySem.W.nsIn (L2.KOf KX) mainGlobals "enumerate" = some none ∧ PySem.W.nsIn (L2.KOf KX) mainGlobals "any" = some none ∧ PySem.W.nsIn (L2.KOf KX) mainGlobals "max" = some none ∧ PySem.W.nsIn (L2.KOf KX) mainGlobals "min" = some none ∧ PySem.W.nsIn (L2.KOf KX) mainGlobals "str" = some none ∧ PySem.W.nsIn (L2.KOf KX) mainGlobals "sum" = some none := by
      dsimp only [L2.KOf]
      refine' ⟨?z0, ?z1, ?z2, ?z3, ?z4, ?z5, ?z6, ?z7, ?z8, ?z9, ?z10, ?z11, ?z12, ?z13, ?z14, ?z15, ?z16, ?z17⟩
      (case z0 => k_is)
      (case z1 => k_is)
      (case z2 => k_is)
      (case z3 => k_is)
      (case z4 => k_is)
      (case z5 => k_is)
      (case z6 => k_is)
      (case z7 => k_is)
      (case z8 => k_is)
      (case z9 => k_is)
      (case z10 => k_is)
      (case z11 => k_is)
      (case z12 => k_is)
      (case z13 => k_is)
      (case z14 => k_is)
      (case z15 => k_is)
      (case z16 => k_is)
      (case z17 => k_is)
    have CMostNumbers : ∃ t, PySem.W.nsIn (L2.KOf KX) mainGlobals "MOST_NUMBERS" = some (some (.int 32 t)) := by
      dsimp only [L2.KOf]
      refine' E1.cint_mk ?a
      (case a => k_is)
    have AWhole : E1.At (L2.KOf KX) "is_whole" E1.sWhole := by
      dsimp only [L2.KOf]
      refine' E1.fn_mk ?a ?l ?c ?k
      (case a => k_is); (case l => k_is); (case c => k_is); (case k => k_is)
    have AIsBelow : E1.At (L2.KOf KX) "is_below" E1.sIsBelow := by
      dsimp only [L2.KOf]
      refine' E1.fn_mk ?a ?l ?c ?k
      (case a => k_is); (case l => k_is); (case c => k_is); (case k => k_is)
    have AMust : E1.At (L2.KOf KX) "must_be_whole" E1.sMust := by
      dsimp only [L2.KOf]
      refine' E1.fn_mk ?a ?l ?c ?k
      (case a => k_is); (case l => k_is); (case c => k_is); (case k => k_is)
    have AFrom : E1.At (L2.KOf KX) "must_be_from" E1.sFrom := by
      dsimp only [L2.KOf]
      refine' E1.fn_mk ?a ?l ?c ?k
      (case a => k_is); (case l => k_is); (case c => k_is); (case k => k_is)
    have APrimes : E1.At (L2.KOf KX) "primes_of" E1.sPrimes := by
      dsimp only [L2.KOf]
      refine' E1.fn_mk ?a ?l ?c ?k
      (case a => k_is); (case l => k_is); (case c => k_is); (case k => k_is)
    have AIsPrime : E1.At (L2.KOf KX) "is_prime" E1.sIsPrime := by
      dsimp only [L2.KOf]
      refine' E1.fn_mk ?a ?l ?c ?k
      (case a => k_is); (case l => k_is); (case c => k_is); (case k => k_is)
    have ARowTimes : E1.At (L2.KOf KX) "row_times" E1.sRowTimes := by
      dsimp only [L2.KOf]
      refine' E1.fn_mk ?a ?l ?c ?k
      (case a => k_is); (case l => k_is); (case c => k_is); (case k => k_is)
    have ARowRest : E1.At (L2.KOf KX) "row_rest" E1.sRowRest := by
      dsimp only [L2.KOf]
      refine' E1.fn_mk ?a ?l ?c ?k
      (case a => k_is); (case l => k_is); (case c => k_is); (case k => k_is)
    have ARowFactor : E1.At (L2.KOf KX) "row_factor" E1.sRowFactor := by
      dsimp only [L2.KOf]
      refine' E1.fn_mk ?a ?l ?c ?k
      (case a => k_is); (case l => k_is); (case c => k_is); (case k => k_is)
    have ATrimmed : E1.At (L2.KOf KX) "trimmed" E1.sTrimmed := by
      dsimp only [L2.KOf]
      refine' E1.fn_mk ?a ?l ?c ?k
      (case a => k_is); (case l => k_is); (case c => k_is); (case k => k_is)
    have ADigitsOf : E1.At (L2.KOf KX) "digits_of" E1.sDigitsOf := by
      dsimp only [L2.KOf]
      refine' E1.fn_mk ?a ?l ?c ?k
      (case a => k_is); (case l => k_is); (case c => k_is); (case k => k_is)
    have ANumberOf : E1.At (L2.KOf KX) "number_of" E1.sNumberOf := by
      dsimp only [L2.KOf]
      refine' E1.fn_mk ?a ?l ?c ?k
      (case a => k_is); (case l => k_is); (case c => k_is); (case k => k_is)
    have AMustBeRow : E1.At (L2.KOf KX) "must_be_row" E1.sMustBeRow := by
      dsimp only [L2.KOf]
      refine' E1.fn_mk ?a ?l ?c ?k
      (case a => k_is); (case l => k_is); (case c => k_is); (case k => k_is)
    have ASizeWithin : E1.At (L2.KOf KX) "size_within" E1.sSizeWithin := by
      dsimp only [L2.KOf]
      refine' E1.fn_mk ?a ?l ?c ?k
      (case a => k_is); (case l => k_is); (case c => k_is); (case k => k_is)
    have AMustBePrime : E1.At (L2.KOf KX) "must_be_prime" E1.sMustBePrime := by
      dsimp only [L2.KOf]
      refine' E1.fn_mk ?a ?l ?c ?k
      (case a => k_is); (case l => k_is); (case c => k_is); (case k => k_is)
    have AMustBeNoProduct : E1.At (L2.KOf KX) "must_be_no_product" E1.sMustBeNoProduct := by
      dsimp only [L2.KOf]
      refine' E1.fn_mk ?a ?l ?c ?k
      (case a => k_is); (case l => k_is); (case c => k_is); (case k => k_is)
    have AJoined : E1.At (L2.KOf KX) "joined" E1.sJoined := by
      dsimp only [L2.KOf]
      refine' E1.fn_mk ?a ?l ?c ?k
      (case a => k_is); (case l => k_is); (case c => k_is); (case k => k_is)
    have ACell : E1.At (L2.KOf KX) "_law_cell" E1.sCell := by
      dsimp only [L2.KOf]
      refine' E1.fn_mk ?a ?l ?c ?k
      (case a => k_is); (case l => k_is); (case c => k_is); (case k => k_is)
    have ALNumbers : E1.At (L2.KOf KX) "_law_numbers" E1.sLNumbers := by
      dsimp only [L2.KOf]
      refine' E1.fn_mk ?a ?l ?c ?k
      (case a => k_is); (case l => k_is); (case c => k_is); (case k => k_is)
    have ALDivided : E1.At (L2.KOf KX) "_law_divided" E1.sLDivided := by
      dsimp only [L2.KOf]
      refine' E1.fn_mk ?a ?l ?c ?k
      (case a => k_is); (case l => k_is); (case c => k_is); (case k => k_is)
    have ALRowBy : E1.At (L2.KOf KX) "_law_row_by" E1.sLRowBy := by
      dsimp only [L2.KOf]
      refine' E1.fn_mk ?a ?l ?c ?k
      (case a => k_is); (case l => k_is); (case c => k_is); (case k => k_is)
    have ALTotal : E1.At (L2.KOf KX) "_law_total" E1.sLTotal := by
      dsimp only [L2.KOf]
      refine' E1.fn_mk ?a ?l ?c ?k
      (case a => k_is); (case l => k_is); (case c => k_is); (case k => k_is)
    have ALStays : E1.At (L2.KOf KX) "_law_stays" E1.sLStays := by
      dsimp only [L2.KOf]
      refine' E1.fn_mk ?a ?l ?c ?k
      (case a => k_is); (case l => k_is); (case c => k_is); (case k => k_is)
    have ALRowFrom : E1.At (L2.KOf KX) "_law_row_from" E1.sLRowFrom := by
      dsimp only [L2.KOf]
      refine' E1.fn_mk ?a ?l ?c ?k
      (case a => k_is); (case l => k_is); (case c => k_is); (case k => k_is)
    have ALPower : E1.At (L2.KOf KX) "_law_power" E1.sLPower := by
      dsimp only [L2.KOf]
      refine' E1.fn_mk ?a ?l ?c ?k
      (case a => k_is); (case l => k_is); (case c => k_is); (case k => k_is)
    have ALValue : E1.At (L2.KOf KX) "_law_value" E1.sLValue := by
      dsimp only [L2.KOf]
      refine' E1.fn_mk ?a ?l ?c ?k
      (case a => k_is); (case l => k_is); (case c => k_is); (case k => k_is)
    have ALLed : E1.At (L2.KOf KX) "_law_led" E1.sLLed := by
      dsimp only [L2.KOf]
      refine' E1.fn_mk ?a ?l ?c ?k
      (case a => k_is); (case l => k_is); (case c => k_is); (case k => k_is)
    have ALPairs : E1.At (L2.KOf KX) "_law_pairs" E1.sLPairs := by
      dsimp only [L2.KOf]
      refine' E1.fn_mk ?a ?l ?c ?k
      (case a => k_is); (case l => k_is); (case c => k_is); (case k => k_is)
    have ALaw : E1.At (L2.KOf KX) "law" E1.sLaw := by
      dsimp only [L2.KOf]
      refine' E1.fn_mk ?a ?l ?c ?k
      (case a => k_is); (case l => k_is); (case c => k_is); (case k => k_is)
    have Zc : ∃ C : Addr, E1.FieldC (L2.KOf KX) C := by
      dsimp only [L2.KOf]
      refine' E1.field_mk ?nC ?pg ?hd ?po ?sa ?mk ?kc ?n0 ?n1 ?n2 ?nR ?a0 ?i0 ?l0 ?c0 ?k0 ?a1 ?i1 ?l1 ?c1 ?k1 ?a2 ?i2 ?l2 ?c2 ?k2 ?a3 ?i3 ?l3 ?c3 ?k3 ?a4 ?i4 ?l4 ?c4 ?k4
      (case nC => k_is)
      (case pg => k_is)
      (case hd => k_is)
      (case po => k_is)
      (case sa => k_is)
      (case mk => k_is)
      (case kc => k_is)
      (case n0 => k_is)
      (case n1 => k_is)
      (case n2 => k_is)
      (case nR => k_is)
      (case a0 => k_is)
      (case i0 => k_is)
      (case l0 => k_is)
      (case c0 => k_is)
      (case k0 => k_is)
      (case a1 => k_is)
      (case i1 => k_is)
      (case l1 => k_is)
      (case c1 => k_is)
      (case k1 => k_is)
      (case a2 => k_is)
      (case i2 => k_is)
      (case l2 => k_is)
      (case c2 => k_is)
      (case k2 => k_is)
      (case a3 => k_is)
      (case i3 => k_is)
      (case l3 => k_is)
      (case c3 => k_is)
      (case k3 => k_is)
      (case a4 => k_is)
      (case i4 => k_is)
      (case l4 => k_is)
      (case c4 => k_is)
      (case k4 => k_is)
    exact E1.all_mk KX G hmg N Zc CMostNumbers AWhole AIsBelow AMust AFrom APrimes AIsPrime ARowTimes ARowRest ARowFactor ATrimmed ADigitsOf ANumberOf AMustBeRow ASizeWithin AMustBePrime AMustBeNoProduct AJoined ACell ALNumbers ALDivided ALRowBy ALTotal ALStays ALRowFrom ALPower ALValue ALLed ALPairs ALaw


