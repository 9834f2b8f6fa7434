import PyProof.Rows.All
import Wide.All
import OpenK.AllK
import Wide.FinOn
import Lean
import PyProof.EqAt
import PyProof.EqKinds
import PyProof.TupleCall
import PySem.Challenge.RW_evenmeet_k17_triples_and_flags
set_option Elab.async false
set_option linter.all false
set_option maxRecDepth 100000
/-! THE HAND LAYER, for ints, bools, texts, own classes, LISTS and tuples (index, slices, in, append, pop ..), calls, loops. Paste it whole ahead of your own text; what your proof does not reach may be deleted. -/
namespace L2
open PySem PySem.Spec PyProof.Rows

/-- a key: an int or a str -/
abbrev Key := Sum Int Str
def keyIs : Key → Value → Bool
  | .inl k, v => Value.isInt k v
  | .inr x, v => Value.isStrOf x v
def keyH (w : World) : Key → Int
  | .inl k => hashInt k
  | .inr x => hashStr w x
theorem keyIs_shape : ∀ {k : Key} {v : Value}, keyIs k v = true → (∃ i t, k = Sum.inl i ∧ v = Value.int i t) ∨ (∃ x t, k = Sum.inr x ∧ v = Value.str x t)
  | .inl i, v, h => by
    obtain ⟨t, e⟩ := Value.isInt_shape (k := i) (v := v) h
    exact .inl ⟨i, t, rfl, e⟩
  | .inr x, v, h => by
    obtain ⟨t, e⟩ := Value.isStrOf_shape (x := x) (v := v) h
    exact .inr ⟨x, t, rfl, e⟩
theorem key_ll (a b : Int) : decide ((Sum.inl a : Key) = Sum.inl b) = (a == b) := by
  by_cases e : a = b
  · subst e; simp
  · have h : ¬ (Sum.inl a : Key) = Sum.inl b := fun q => e (Sum.inl.inj q)
    rw [decide_eq_false h]
    exact (beq_eq_false_iff_ne.mpr e).symm
theorem key_rr (a b : Str) : decide ((Sum.inr a : Key) = Sum.inr b) = decide (a = b) := by
  by_cases e : a = b
  · subst e; simp
  · have h : ¬ (Sum.inr a : Key) = Sum.inr b := fun q => e (Sum.inr.inj q)
    rw [decide_eq_false h, decide_eq_false e]
theorem key_lr (a : Int) (b : Str) : decide ((Sum.inl a : Key) = Sum.inr b) = false := decide_eq_false (fun q => nomatch q)
theorem key_rl (a : Str) (b : Int) : decide ((Sum.inr a : Key) = Sum.inl b) = false := decide_eq_false (fun q => nomatch q)

def mixKind (prog : Program) (w : World) : PySem.KeyKind prog w Key where
  is := keyIs
  hash := keyH w
  inj := fun v a b ha hb => by
    rcases keyIs_shape ha with ⟨i, t, rfl, rfl⟩ | ⟨x, t, rfl, rfl⟩
    · rcases keyIs_shape hb with ⟨j, u, rfl, e⟩ | ⟨y, u, rfl, e⟩
      · injection e with e1 _; rw [e1]
      · exact nomatch e
    · rcases keyIs_shape hb with ⟨j, u, rfl, e⟩ | ⟨y, u, rfl, e⟩
      · exact nomatch e
      · injection e with e1 _; rw [e1]
  byValue := fun k v h => by
    rcases keyIs_shape h with ⟨i, t, rfl, rfl⟩ | ⟨x, t, rfl, rfl⟩ <;> rfl
  pyHash := fun hv h => by
    rcases keyIs_shape hv with ⟨i, t, rfl, rfl⟩ | ⟨x, t, rfl, rfl⟩
    · exact wpAny_pyHash_int h
    · exact wpAny_pyHash_str h
  eqBool := fun hu hv h => by
    rcases keyIs_shape hu with ⟨i, t, rfl, rfl⟩ | ⟨x, t, rfl, rfl⟩
    · rcases keyIs_shape hv with ⟨j, u, rfl, rfl⟩ | ⟨y, u, rfl, rfl⟩
      · rw [key_ll] at h; exact wpAny_eqBool_int h
      · rw [key_lr] at h; exact SeqAt.EqAt.int_str i t y u _ _ _ _ h
    · rcases keyIs_shape hv with ⟨j, u, rfl, rfl⟩ | ⟨y, u, rfl, rfl⟩
      · rw [key_rl] at h; exact SeqAt.EqAt.str_int x t j u _ _ _ _ h
      · rw [key_rr] at h; exact wpAny_eqBool_str h
  «strs» := fun k x t v h => by
    rcases keyIs_shape h with ⟨i, u, rfl, e⟩ | ⟨y, u, rfl, e⟩
    · exact nomatch e
    · injection e with e1 _
      subst e1
      cases v <;> rfl

end L2

namespace L2
open PySem PySem.Spec PyProof.Rows

/-- a value, without the heap -/
inductive V where
  | non | bl (b : Bool) | int (i : Int) | str (x : Str) | byt (b : Array UInt8) | flt (b : UInt64) | ref (a : Addr) | ty (n : String)
  deriving DecidableEq

def RelV : V → Value → Prop
  | .non, u => u = Value.none
  | .bl b, u => u = Value.bool b
  | .int i, u => ∃ t, u = Value.int i t
  | .str x, u => ∃ t, u = Value.str x t
  | .byt b, u => ∃ t, u = Value.bytes b t
  | .flt b, u => ∃ t, u = Value.float b t
  | .ref a, u => u = Value.ref a
  | .ty n, u => u = Value.type n

abbrev Vals : List V → List Value → Prop := Paired RelV
theorem Vals.length {xs : List V} {us : List Value} (r : Vals xs us) : xs.length = us.length := Paired.length r
theorem Vals.get : ∀ {xs : List V} {us : List Value} {i : Nat} {x : V}, Vals xs us → xs[i]? = some x → ∃ u, us[i]? = some u ∧ RelV x u
  | _, _, _, _, .nil, e => by simp at e
  | _, _, 0, _, .cons r _, e => by simp at e; subst e; exact ⟨_, rfl, r⟩
  | _, _, i + 1, x, .cons _ t, e => by
    obtain ⟨u, h1, h2⟩ := Vals.get (i := i) (x := x) t (by simpa using e)
    exact ⟨u, by simpa using h1, h2⟩
theorem Vals.set {x : V} {u : Value} (r : RelV x u) : ∀ {xs : List V} {us : List Value} (i : Nat), Vals xs us → Vals (xs.set i x) (us.set i u)
  | _, _, _, .nil => .nil
  | _, _, 0, .cons _ t => .cons r t
  | _, _, i + 1, .cons q t => .cons q (Vals.set r i t)
theorem Vals.append : ∀ {xs ys : List V} {us ws : List Value}, Vals xs us → Vals ys ws → Vals (xs ++ ys) (us ++ ws)
  | _, _, _, _, .nil, s => s
  | _, _, _, _, .cons r t, s => .cons r (Vals.append t s)
theorem Vals.take : ∀ {xs : List V} {us : List Value} (n : Nat), Vals xs us → Vals (xs.take n) (us.take n)
  | _, _, 0, _ => .nil
  | _, _, _ + 1, .nil => .nil
  | _, _, n + 1, .cons r t => .cons r (Vals.take n t)
theorem Vals.drop : ∀ {xs : List V} {us : List Value} (n : Nat), Vals xs us → Vals (xs.drop n) (us.drop n)
  | _, _, 0, r => r
  | _, _, _ + 1, .nil => .nil
  | _, _, n + 1, .cons _ t => Vals.drop n t
def RelO : Option V → Option Value → Prop
  | some v, some u => RelV v u
  | none, none => True
  | _, _ => False
def KV {κ : Type} : List (κ × V) → List (κ × Value) → Prop := Paired fun (p : κ × V) (q : κ × Value) => p.1 = q.1 ∧ RelV p.2 q.2

/-- a key of a dict (00_mix): an int or a text -/
def kV : Key → V
  | .inl i => .int i
  | .inr x => .str x

/-- what stands at a tracked address -/
inductive HO where
  /-- a list -/
  | lst (xs : List V)
  /-- a tuple (never changes) -/
  | tup (xs : List V)
  /-- a dict whose keys are ints and texts; one whose keys are tuples of ints and texts (the empty one is both) -/
  | dK (kvs : List (Key × V)) | dT (kvs : List (List Key × V))
  /-- a set of ints: its members, its size -/
  | set (S : Int → Bool) (n : Nat)
  /-- an instance of the class at C, its dict at dx, its attributes -/
  | ins (C dx : Addr) (fs : List (Str × V))
  /-- the dict of the instance at x -/
  | own (x : Addr)
  /-- the dict of an exception -/
  | xd (fs : List (Str × V))
  /-- a bound method, f of x -/
  | met (f x : Addr)
  /-- a range object lo, lo + 1, .. below hi -/
  | rng (lo hi : Int)
  /-- a thing that is known to the object (the script; a dict while a loop walks it): read, never written while it is so -/
  | frz (o : Obj) (u : HO)
  /-- a code object's table -/
  | tbl (ps : Array Value)
  /-- any other thing, by what is true of its one object (a def of one's own: SetO a S n := HO.ext fun h => ..) -/
  | ext (φ : Heap → Prop)

abbrev Hp := Addr → Option HO
def upd (H : Hp) (a : Addr) (o : HO) : Hp := fun b => if b = a then some o else H b
theorem upd_same {H : Hp} {a : Addr} {o : HO} : upd H a o a = some o := by unfold upd; rw [if_pos rfl]
theorem upd_ne {H : Hp} {a b : Addr} {o : HO} (h : b ≠ a) : upd H a o b = H b := by unfold upd; rw [if_neg h]
theorem ne_of_none {H : Hp} {a b : Addr} {o : HO} (h : H a = some o) (h' : H b = none) : a ≠ b := by
  intro e; subst e; rw [h] at h'; cases h'

section
variable (P : Program) (w : World)
def ObjOk (H : Hp) (h : Heap) (a : Addr) : HO → Prop
  | .lst xs => xs.length ≤ sizeLine ∧ ∃ (its : List Value) (n : Nat), Vals xs its ∧ h.get? a = some { cls := .type "list", data := .seq its.toArray n }
  | .tup xs => xs.length ≤ sizeLine ∧ ∃ its : List Value, Vals xs its ∧ IsTup h a its.toArray
  | .dK kvs => kvs.length ≤ sizeLine ∧ (a == sysModules) = false ∧ ∃ vs, KV kvs vs ∧ h.DictOf (mixKind P w) a vs
  | .dT kvs => kvs.length ≤ sizeLine ∧ (a == sysModules) = false ∧ ∃ xs : List (List Key × Addr × Value),
      Paired (fun (p : List Key × V) (q : List Key × Addr × Value) => p.1 = q.1 ∧ H q.2.1 = some (.tup (p.1.map kV)) ∧ RelV p.2 q.2.2) kvs xs ∧
      ∃ o es ep, h.get? a = some o ∧ o.ExactDict ∧ o.data = .dict es ep ∧ es.toList = xs.map (entryOfKey (tupleKind (mixKind P w))) ∧ (xs.map (·.1)).Nodup
  | .set S n => h.SetOf (intKind P w) a S n
  | .ins C dx fs => H dx = some (.own a) ∧ fs.length ≤ 1000 ∧ dx ≠ a ∧ h.get? a = some (PySem.W.instObj C dx) ∧
      ∃ mA, h.Ns1 dx mA ∧ (∀ f, RelO (fs.lookup f) (mA f)) ∧ PySem.Within mA (fs.map (·.1))
  | .own _ => ∃ o, h.get? a = some o
  | .xd fs => ∃ mA, h.Ns1 a mA ∧ ∀ f, RelO (fs.lookup f) (mA f)
  | .rng lo hi => ∃ t u v, h.get? a = some { cls := .type "range", data := .fields #[.int lo t, .int hi u, .int 1 v] }
  | .frz o u => h.get? a = some o ∧ ObjOk H h a u
  | .tbl ps => h.get? a = some { cls := .none, data := .fields ps }
  | .met f x => h.get? a = some (PySem.W.methodObj (.ref f) (.ref x))
  | .ext φ => φ h ∧ (∃ o, h.get? a = some o) ∧ ∀ h1 h2 : Heap, φ h1 → (∀ o, h1.get? a = some o → h2.get? a = some o) → φ h2
/-- the abstract heap is held -/
def HOk (H : Hp) (h : Heap) : Prop := ∀ a o, H a = some o → ObjOk P w H h a o
end

section
variable {P : Program} {w : World} {H H' : Hp} {h h' : Heap} {a : Addr} {o : HO}
theorem ObjOk.lt (x : ObjOk P w H h a o) : a < h.objs.size := by
  cases o with
  | lst xs => obtain ⟨_, _, _, _, e⟩ := x; exact Heap.lt_size e
  | tup xs => obtain ⟨_, _, _, p⟩ := x; exact p.lt
  | dK kvs => obtain ⟨_, _, _, _, o, _, _, e, _⟩ := x; exact Heap.lt_size e
  | dT kvs => obtain ⟨_, _, _, _, o, _, _, e, _⟩ := x; exact Heap.lt_size e
  | set S n => obtain ⟨o, _, _, _, e, _⟩ := x; exact Heap.lt_size e
  | ins C dx fs => obtain ⟨_, _, _, e, _⟩ := x; exact Heap.lt_size e
  | own y => obtain ⟨_, e⟩ := x; exact Heap.lt_size e
  | xd fs => obtain ⟨_, ⟨_, _, _, e, _⟩, _⟩ := x; exact Heap.lt_size e
  | rng lo hi => obtain ⟨_, _, _, e⟩ := x; exact Heap.lt_size e
  | frz ob u => obtain ⟨e, _⟩ := x; exact Heap.lt_size e
  | tbl ps => exact Heap.lt_size (show h.get? a = some _ from x)
  | met f y => exact Heap.lt_size (show h.get? a = some _ from x)
  | ext φ => obtain ⟨_, ⟨_, e⟩, _⟩ := x; exact Heap.lt_size e
theorem Paired.mapP {α β : Type} {F G : α → β → Prop} : ∀ {l₁ : List α} {l₂ : List β}, Paired F l₁ l₂ → (∀ a b, F a b → G a b) → Paired G l₁ l₂
  | _, _, .nil, _ => .nil
  | _, _, .cons r t, f => .cons (f _ _ r) (Paired.mapP t f)
/-- what an object's description leans on: its own object, its own dict, the tuples -/
theorem ObjOk.stay (x : ObjOk P w H h a o) (k : ∀ b u, (b = a ∨ H b = some (.own a)) → h.get? b = some u → h'.get? b = some u)
    (ho : ∀ b, H b = some (.own a) → H' b = some (.own a)) (ht : ∀ b xs, H b = some (.tup xs) → H' b = some (.tup xs)) : ObjOk P w H' h' a o := by
  induction o with
  | lst xs => obtain ⟨z, its, n, r, e⟩ := x; exact ⟨z, its, n, r, k _ _ (.inl rfl) e⟩
  | tup xs => obtain ⟨z, its, r, ob, e, c⟩ := x; exact ⟨z, its, r, ob, k _ _ (.inl rfl) e, c⟩
  | dK kvs => obtain ⟨z, y, vs, r, ob, es, ep, e, c⟩ := x; exact ⟨z, y, vs, r, ob, es, ep, k _ _ (.inl rfl) e, c⟩
  | dT kvs =>
    obtain ⟨z, y, xs, r, ob, es, ep, e, c⟩ := x
    exact ⟨z, y, xs, Paired.mapP r fun p q z => ⟨z.1, ht _ _ z.2.1, z.2.2⟩, ob, es, ep, k _ _ (.inl rfl) e, c⟩
  | set S n => obtain ⟨ob, es, ep, t, e, c⟩ := x; exact ⟨ob, es, ep, t, k _ _ (.inl rfl) e, c⟩
  | ins C dx fs =>
    obtain ⟨d, z, ne, e, mA, ⟨od, es, ep, e2, c⟩, r⟩ := x
    exact ⟨ho _ d, z, ne, k _ _ (.inl rfl) e, mA, ⟨od, es, ep, k _ _ (.inr d) e2, c⟩, r⟩
  | own y => obtain ⟨ob, e⟩ := x; exact ⟨ob, k _ _ (.inl rfl) e⟩
  | xd fs => obtain ⟨mA, ⟨od, es, ep, e, c⟩, r⟩ := x; exact ⟨mA, ⟨od, es, ep, k _ _ (.inl rfl) e, c⟩, r⟩
  | rng lo hi => obtain ⟨t, u, v, e⟩ := x; exact ⟨t, u, v, k _ _ (.inl rfl) e⟩
  | frz ob u ih => obtain ⟨e, q⟩ := x; exact ⟨k _ _ (.inl rfl) e, ih q⟩
  | tbl ps =>
    have e : h.get? a = some { cls := .none, data := .fields ps } := x
    show h'.get? a = some { cls := .none, data := .fields ps }
    exact k a _ (.inl rfl) e
  | met f y =>
    have e : h.get? a = some (PySem.W.methodObj (.ref f) (.ref y)) := x
    show h'.get? a = some (PySem.W.methodObj (.ref f) (.ref y))
    exact k a _ (.inl rfl) e
  | ext φ => obtain ⟨p, ⟨o, e⟩, st⟩ := x; exact ⟨st _ _ p fun o q => k _ _ (.inl rfl) q, ⟨o, k _ _ (.inl rfl) e⟩, st⟩
theorem HOk.lt (x : HOk P w H h) (e : H a = some o) : a < h.objs.size := (x a o e).lt
theorem HOk.fresh (x : HOk P w H h) (e : h.objs.size ≤ a) : H a = none := by
  cases q : H a with
  | none => rfl
  | some u => exact absurd (Nat.lt_of_lt_of_le (x.lt q) e) (Nat.lt_irrefl _)
/-- every object of the heap is kept -/
theorem HOk.kept (x : HOk P w H h) (k : ∀ b u, h.get? b = some u → h'.get? b = some u) : HOk P w H h' := fun a o e =>
  (x a o e).stay (fun b u _ q => k b u q) (fun _ q => q) fun _ _ q => q
/-- a new object is laid and tracked -/
theorem HOk.laid (x : HOk P w H h) (k : ∀ b u, h.get? b = some u → h'.get? b = some u) (hp : h.objs.size ≤ a) (new : ObjOk P w (upd H a o) h' a o) : HOk P w (upd H a o) h' := fun b u e => by
  have hn := x.fresh hp
  by_cases hb : b = a
  · subst hb; rw [upd_same] at e; cases e; exact new
  · rw [upd_ne hb] at e
    exact (x b u e).stay (fun c v _ q => k c v q) (fun c q => by rw [upd_ne (ne_of_none q hn)]; exact q) fun c xs q => by rw [upd_ne (ne_of_none q hn)]; exact q
end

/-- what may be read as u: it is u, or a known u -/
def Rd (H : Hp) (a : Addr) (u : HO) : Prop := H a = some u ∨ ∃ o, H a = some (.frz o u)
theorem Rd.ok {P : Program} {w : World} {H : Hp} {h : Heap} {a : Addr} {u : HO} (r : Rd H a u) (x : HOk P w H h) : ObjOk P w H h a u := by
  rcases r with r | ⟨o, r⟩
  · exact x a u r
  · obtain ⟨_, q⟩ := x a _ r
    exact q
/-- what may be written -/
def Mut : Option HO → Prop
  | some (.lst _) => True
  | some (.dK _) => True
  | some (.dT _) => True
  | some (.set _ _) => True
  | some (.ins _ _ _) => True
  | some (.ext _) => True
  | _ => False
section
variable {P : Program} {w : World} {H : Hp} {h h' : Heap} {x e : Addr} {o' : HO}
/-- the object at e is changed: x itself, or the dict of the instance x -/
theorem HOk.write (ok : HOk P w H h) (mu : Mut (H x)) (he : e = x ∨ H e = some (.own x)) (k : ∀ b u, b ≠ e → h.get? b = some u → h'.get? b = some u) (heo : ∃ u, h'.get? e = some u)
    (new : ObjOk P w (upd H x o') h' x o') : HOk P w (upd H x o') h' := fun b u q => by
  have nown : ∀ c y, H c = some (.own y) → c ≠ x := fun c y r z => by subst z; rw [r] at mu; exact mu
  have ntup : ∀ c xs, H c = some (.tup xs) → c ≠ x := fun c xs r z => by subst z; rw [r] at mu; exact mu
  by_cases hb : b = x
  · subst hb; rw [upd_same] at q; cases q; exact new
  · rw [upd_ne hb] at q
    by_cases hbe : b = e
    · have q' : H b = some (.own x) := by
        rcases he with z | z
        · exact absurd (hbe.trans z) hb
        · rw [hbe]; exact z
      rw [q] at q'; cases q'
      obtain ⟨v, hv⟩ := heo
      exact ⟨v, by rw [hbe]; exact hv⟩
    · refine (ok b u q).stay (fun c v hc r => k c v ?_ r) (fun c r => by rw [upd_ne (nown c b r)]; exact r) fun c xs r => by rw [upd_ne (ntup c xs r)]; exact r
      rcases hc with rfl | hc
      · exact hbe
      · rintro rfl
        rcases he with z | z
        · exact nown c b hc z
        · rw [hc] at z; cases z; exact hb rfl
end

/-! ### kept unless tracked; of the frames at fs (the callers') the slots may change (an exception that passes writes there); of the records at ex (iterators) nothing is said -/
structure Un (fs ex : List Addr) (H H' : Hp) (h h' : Heap) : Prop where
  keep : ∀ b o, h.get? b = some o → H b = none → b ∉ fs → b ∉ ex → h'.get? b = some o
  slot : ∀ b o, h.get? b = some o → H b = none → b ∈ fs → b ∉ ex → ∃ sl, h'.get? b = some { o with slots := sl }
  free : ∀ b o, h.get? b = some o → H b = none → b ∉ ex → H' b = none
  there : ∀ b o, h.get? b = some o → b ∉ ex → ∃ o', h'.get? b = some o'
  tups : ∀ b xs, H b = some (.tup xs) → H' b = some (.tup xs)
  frzs : ∀ b o u, H b = some (.frz o u) → H' b = some (.frz o u)
  tbls : ∀ b ps, H b = some (.tbl ps) → ∃ more, H' b = some (.tbl (ps ++ more))
section
variable {fs fs' ex ex' : List Addr} {H H1 H2 : Hp} {h h1 h2 h' : Heap} {a x e : Addr} {o : HO}
theorem Un.any (u : Un fs ex H H1 h h1) {b : Addr} {ob : Obj} (q : h.get? b = some ob) (n : H b = none) (hx : b ∉ ex) : ∃ sl, h1.get? b = some { ob with slots := sl } := by
  by_cases hb : b ∈ fs
  · exact u.slot b ob q n hb hx
  · exact ⟨ob.slots, u.keep b ob q n hb hx⟩
theorem Un.kept (k : ∀ b u, h.get? b = some u → h'.get? b = some u) : Un fs ex H H h h' :=
  ⟨fun b ob q _ _ _ => k b ob q, fun b ob q _ _ _ => ⟨ob.slots, k b ob q⟩, fun _ _ _ n _ => n, fun b ob q _ => ⟨ob, k b ob q⟩, fun _ _ q => q, fun _ _ _ q => q, fun _ ps q => ⟨#[], by rw [q]; simp⟩⟩
theorem Un.refl : Un fs ex H H h h := Un.kept fun _ _ q => q
theorem Un.laid (k : ∀ b u, h.get? b = some u → h'.get? b = some u) (hp : h.objs.size ≤ a) (hn : H a = none) : Un fs ex H (upd H a o) h h' where
  keep := fun b u q _ _ _ => k b u q
  slot := fun b u q _ _ _ => ⟨u.slots, k b u q⟩
  free := fun b u q n _ => by rw [upd_ne (Nat.ne_of_lt (Nat.lt_of_lt_of_le (Heap.lt_size q) hp))]; exact n
  there := fun b u q _ => ⟨u, k b u q⟩
  tups := fun b xs q => by rw [upd_ne (ne_of_none q hn)]; exact q
  frzs := fun b u xs q => by rw [upd_ne (ne_of_none q hn)]; exact q
  tbls := fun b ps q => ⟨#[], by rw [upd_ne (ne_of_none q hn), q]; simp⟩
theorem Un.write (mu : Mut (H x)) (he : e = x ∨ H e = some (.own x)) (k : ∀ b u, b ≠ e → h.get? b = some u → h'.get? b = some u) (heo : ∃ u, h'.get? e = some u) : Un fs ex H (upd H x o) h h' := by
  have hx : ∀ b, H b = none → b ≠ x := fun b n z => by subst z; rw [n] at mu; exact mu
  have hb : ∀ b, H b = none → b ≠ e := fun b n z => by
    subst z
    rcases he with r | r
    · exact hx b n r
    · rw [n] at r; cases r
  have hm : ∀ b u, H b = some u → ¬ Mut (some u) → b ≠ x := fun b u q nm z => by subst z; rw [q] at mu; exact nm mu
  refine ⟨fun b u q n _ _ => k b u (hb b n) q, fun b u q n _ _ => ⟨u.slots, k b u (hb b n) q⟩, fun b u q n _ => by rw [upd_ne (hx b n)]; exact n, fun b u q _ => ?_,
    fun b xs q => by rw [upd_ne (hm b _ q fun z => z)]; exact q, fun b u xs q => by rw [upd_ne (hm b _ q fun z => z)]; exact q, fun b ps q => ⟨#[], by rw [upd_ne (hm b _ q fun z => z), q]; simp⟩⟩
  by_cases hbe : b = e
  · subst hbe; exact heo
  · exact ⟨u, k b u hbe q⟩
end

/-! ### the heap without what is tracked -/
def trk (h : Heap) (H : Hp) : List Addr := (List.range h.objs.size).filter fun a => (H a).isSome
def hidT (h : Heap) (H : Hp) : Heap := PySem.W.hideAll h (trk h H)
theorem hidT_size (h : Heap) (H : Hp) : (hidT h H).objs.size = h.objs.size := PySem.W.hideAll_size _ _
theorem hidT_get {h : Heap} {H : Hp} {b : Addr} {o : Obj} (e : h.get? b = some o) (n : H b = none) : (hidT h H).get? b = some o :=
  PySem.W.hideAll_get _ e fun hm => by
    have q : (H b).isSome = true := (List.mem_filter.mp hm).2
    rw [n] at q; simp at q
theorem of_hidT {h : Heap} {H : Hp} {b : Addr} {o : Obj} (e : (hidT h H).get? b = some o) : h.get? b = some o ∧ H b = none := by
  have e' : h.get? b = some o := PySem.W.of_hideAll (trk h H) e
  refine ⟨e', ?_⟩
  cases q : H b with
  | none => rfl
  | some x =>
    have hm : b ∈ trk h H := List.mem_filter.mpr ⟨List.mem_range.mpr (Heap.lt_size e'), by simp [q]⟩
    have z : (hidT h H).get? b = none := PySem.W.hideAll_none (trk h H) hm
    rw [z] at e; cases e

/-! ### OpenK's ledger, filled with every new object but one -/
end L2

namespace L2
open PySem PySem.Spec PyProof.Rows

/-- the module's facts, over the base: the heap at the law's entry without what is tracked there -/
structure Mod (K : PySem.W.Frag) (mg : Str → Option Value) (base : Heap) : Prop where
  kin : K.In base
  glob : base.Ns mainGlobals mg
  blt : ∃ mb, base.Ns builtinsNs mb ∧ ∀ x : Str, x ≠ "__name__" → mb x = bootBuiltins x
  nolimit : base.NoLimit

/-- the context: a def's body (or a comprehension's block) running. base: fixed through the whole law; s₀, H₀: the entry; outer: the frames whose slots others may change (a def's callers); stack: all frames that run;
   ex: iterators that were made ahead of the entry and are walked here (a comprehension's); fn: the names whose cells were made at the entry (a def: all; a comprehension's block: its own); calm: not within an except suite; pn: pins that every state bears; xe: what is wanted of an exception that leaves the code -/
structure Cx where
  prog : Program
  w : World
  K : PySem.W.Frag
  mg : Str → Option Value
  base : Heap
  A : Around
  N : List Str
  s₀ : Shared
  H₀ : Hp
  env : Env
  outer : List Env
  stack : List Env
  ex : List Addr
  fn : Str → Bool
  calm : Bool
  pn : List (Addr × Obj)
  xe : Value → Shared → Prop
/-- the callers' frames -/
def frs (l : List Env) : List Addr := l.filterMap (·.frame)
abbrev Cx.fs (X : Cx) : List Addr := frs X.outer

def Vis (sc : Scope) (x : Str) : Prop := sc.names.lookup x = some .local ∨ sc.names.lookup x = some .cell ∨ sc.names.lookup x = some .free
def Loc (sc : Scope) (x : Str) : Prop := sc.names.lookup x = some .local ∨ sc.names.lookup x = some .cell
def Look (env : Env) (h : Heap) (m : Str → Option Value) (x : Str) (u : Value) : Prop :=
  (env.kindOf x = some .local ∧ m x = some u) ∨ ((env.kindOf x = some .cell ∨ env.kindOf x = some .free) ∧ ∃ c, env.cells.lookup x = some c ∧ h.IsCell c (some u))

structure Cx.Ok (X : Cx) : Prop where
  mod : Mod X.K X.mg X.base
  kind : X.env.scope.kind = .function
  glob : X.env.globals = mainGlobals
  blt : X.env.builtins = builtinsNs
  above : X.s₀.heap.objs.size ≤ X.env.locals
  inj : ∀ x y c, X.env.cells.lookup x = some c → X.env.cells.lookup y = some c → x = y
  has : ∀ x, (X.env.kindOf x = some .cell ∨ X.env.kindOf x = some .free) → ∃ c, X.env.cells.lookup x = some c
  cab : ∀ x c, X.fn x = true → X.env.cells.lookup x = some c → X.s₀.heap.objs.size ≤ c
  hd : X.calm = true → X.A.handled = none
  frames : X.A.frames = some X.stack
  stk : X.stack = X.outer ∨ (X.stack = X.env :: X.outer ∧ X.env.frame = some X.env.locals)
  exf : ∀ b ∈ X.ex, b ≠ X.env.locals ∧ ∀ x c, X.env.cells.lookup x = some c → c ≠ b
  bs : ∀ b o, X.base.get? b = some o → X.s₀.heap.get? b = some o ∧ X.H₀ b = none
  bsz : X.base.objs.size ≤ X.s₀.heap.objs.size
  noex : ∀ b o, X.base.get? b = some o → b ∉ X.ex
  exfs : ∀ b ∈ X.ex, b ∉ X.fs
  funs : X.s₀.heap.FunFrames X.base X.outer
  frf : ∀ b ∈ X.fs, X.H₀ b = none

structure Inv (X : Cx) (pins : List (Addr × Obj)) (σ : List (Option V)) (H : Hp) (s : Shared) : Prop where
  ok : X.Ok
  os : s.os = X.s₀.os
  bare : AllBare s.gens
  base : Un X.fs X.ex X.H₀ H X.s₀.heap s.heap
  loc : ∃ m, s.heap.Ns X.env.locals m ∧ ∀ (i : Nat) (x : Str) (v : V), X.N[i]? = some x → σ[i]? = some (some v) → Vis X.env.scope x → ∃ u, RelV v u ∧ Look X.env s.heap m x u
  cell : ∀ x c, X.env.cells.lookup x = some c → ∃ v, s.heap.IsCell c v
  free : H X.env.locals = none
  freeC : ∀ x c, X.env.cells.lookup x = some c → H c = none
  pin : ∀ p ∈ X.pn ++ pins, s.heap.get? p.1 = some p.2 ∧ H p.1 = none ∧ p.1 ≠ X.env.locals ∧ p.1 ∉ X.fs ∧ ∀ v, p.2.data ≠ .cell v
  hok : HOk X.prog X.w H s.heap
  len : σ.length = X.N.length

section
variable {X : Cx} {pins : List (Addr × Obj)} {σ : List (Option V)} {H H' : Hp} {s : Shared} {h' : Heap}

theorem Cx.Ok.nofr (ok : X.Ok) {b : Addr} {o : Obj} (e : X.base.get? b = some o) : b ∉ X.fs := fun hb => by
  have := (ok.funs.mem hb).1
  rw [e] at this; cases this
theorem Inv.bs (I : Inv X pins σ H s) : ∀ b o, X.base.get? b = some o → s.heap.get? b = some o ∧ H b = none := fun b o e =>
  ⟨I.base.keep b o (I.ok.bs b o e).1 (I.ok.bs b o e).2 (I.ok.nofr e) (I.ok.noex b o e), I.base.free b o (I.ok.bs b o e).1 (I.ok.bs b o e).2 (I.ok.noex b o e)⟩
theorem Inv.bk (I : Inv X pins σ H s) : ∀ b o, X.base.get? b = some o → s.heap.get? b = some o := fun b o e => (I.bs b o e).1
theorem Inv.mod (I : Inv X pins σ H s) : Mod X.K X.mg X.base := I.ok.mod
theorem Inv.kIn (I : Inv X pins σ H s) : X.K.In s.heap := I.ok.mod.kin.keeps I.bk
theorem Inv.lt (I : Inv X pins σ H s) : X.env.locals < s.heap.objs.size := let ⟨_, hn, _⟩ := I.loc; hn.lt
theorem Inv.sz (I : Inv X pins σ H s) : X.s₀.heap.objs.size ≤ s.heap.objs.size := Nat.le_trans I.ok.above (Nat.le_of_lt I.lt)
theorem Inv.nofs (I : Inv X pins σ H s) {a : Addr} (h : s.heap.objs.size ≤ a) : a ∉ X.fs := fun hb => by
  obtain ⟨_, o, ho, _⟩ := I.ok.funs.mem hb
  exact absurd (Nat.lt_of_lt_of_le (Heap.lt_size ho) (Nat.le_trans I.sz h)) (Nat.lt_irrefl _)
theorem Inv.cne (I : Inv X pins σ H s) : ∀ x c, X.env.cells.lookup x = some c → c ≠ X.env.locals := fun x c e z => by
  obtain ⟨v, o, ho, hd⟩ := I.cell x c e
  obtain ⟨m, ⟨o', es, ep, ho', hd', _⟩, _⟩ := I.loc
  rw [z, ho'] at ho; cases ho; rw [hd'] at hd; cases hd
theorem Inv.funs (I : Inv X pins σ H s) : s.heap.FunFrames X.base X.outer := by
  have all : ∀ (l : List Env), (∀ b ∈ frs l, b ∈ X.fs) → X.s₀.heap.FunFrames X.base l → s.heap.FunFrames X.base l := by
    intro l
    induction l with
    | nil => intro _ _; trivial
    | cons env r ih =>
      intro hs hl
      obtain ⟨hk, ⟨L, o, hf, hn, ho, hd⟩, hr⟩ := hl
      have hL : L ∈ X.fs := hs L (by unfold frs; rw [List.filterMap_cons, hf]; exact List.mem_cons_self)
      obtain ⟨sl, e⟩ := I.base.slot L o ho (I.ok.frf L hL) hL fun z => I.ok.exfs L z hL
      exact ⟨hk, ⟨L, _, hf, hn, e, hd⟩, ih (fun b hb => hs b (by unfold frs; rw [List.filterMap_cons, hf]; exact List.mem_cons_of_mem _ hb)) hr⟩
  exact all X.outer (fun _ hb => hb) I.ok.funs

/-- the frames that run, for a call -/
theorem Inv.stack (I : Inv X pins σ H s) : s.heap.FunFrames X.base X.stack := by
  rcases I.ok.stk with e | ⟨e, hf⟩
  · rw [e]; exact I.funs
  · rw [e]
    obtain ⟨m, hn, _⟩ := I.loc
    refine .cons (by rw [I.ok.kind]; decide) hf hn ?_ I.funs
    exact Heap.get?_none_of_le (Nat.le_trans I.ok.bsz I.ok.above)
theorem Inv.stkSub (I : Inv X pins σ H s) : ∀ b ∈ frs X.stack, b ∈ X.env.locals :: X.fs := fun b hb => by
  rcases I.ok.stk with e | ⟨e, hf⟩
  · rw [e] at hb; exact List.mem_cons_of_mem _ hb
  · rw [e] at hb
    unfold frs at hb
    rw [List.filterMap_cons, hf] at hb
    exact hb
theorem Inv.stkFree (I : Inv X pins σ H s) : ∀ b ∈ frs X.stack, H b = none := fun b hb => by
  rcases List.mem_cons.mp (I.stkSub b hb) with e | hb
  · rw [e]; exact I.free
  · obtain ⟨_, o, ho, _⟩ := I.ok.funs.mem hb
    exact I.base.free b o ho (I.ok.frf b hb) fun z => I.ok.exfs b z hb

/-- THE STEP: the untracked objects but the frame and the records at ch are kept (the callers' frames up to slots), the frame's map is kept, the new abstract heap is held -/
theorem Inv.step {g' : Array GenState} {t' : Nat} {d' : Drawn} {ch : List Addr} (I : Inv X pins σ H s)
    (hch : ∀ b ∈ ch, (b ∈ X.ex ∨ X.s₀.heap.objs.size ≤ b) ∧ b ≠ X.env.locals ∧ (∀ x c, X.env.cells.lookup x = some c → c ≠ b) ∧ ∀ p ∈ X.pn ++ pins, p.1 ≠ b)
    (keep : ∀ b o, b ≠ X.env.locals → b ∉ X.fs → b ∉ ch → s.heap.get? b = some o → H b = none → h'.get? b = some o)
    (slot : ∀ b o, b ≠ X.env.locals → b ∈ X.fs → b ∉ ch → s.heap.get? b = some o → H b = none → ∃ sl, h'.get? b = some { o with slots := sl }) (free : ∀ b o, b ∉ ch → s.heap.get? b = some o → H b = none → H' b = none)
    (there : ∀ b o, b ∉ ch → s.heap.get? b = some o → ∃ o', h'.get? b = some o')
    (tups : ∀ b xs, H b = some (.tup xs) → H' b = some (.tup xs)) (frzs : ∀ b o u, H b = some (.frz o u) → H' b = some (.frz o u)) (tbls : ∀ b ps, H b = some (.tbl ps) → ∃ more, H' b = some (.tbl (ps ++ more)))
    (ns : ∀ m, s.heap.Ns X.env.locals m → h'.Ns X.env.locals m) (hok : HOk X.prog X.w H' h') (hg : AllBare g') :
    Inv X pins σ H' { s with heap := h', gens := g', drawn := d', toks := t' } := by
  have neL : ∀ b o, X.s₀.heap.get? b = some o → b ≠ X.env.locals := fun b o e => Nat.ne_of_lt (Nat.lt_of_lt_of_le (Heap.lt_size e) I.ok.above)
  have neC : ∀ b o, X.s₀.heap.get? b = some o → b ∉ X.ex → b ∉ ch := fun b o e hx hb => by
    rcases (hch b hb).1 with z | z
    · exact hx z
    · exact absurd (Nat.lt_of_lt_of_le (Heap.lt_size e) z) (Nat.lt_irrefl _)
  have cellK : ∀ x c, X.env.cells.lookup x = some c → ∀ v, s.heap.IsCell c v → h'.IsCell c v := fun x c e v ⟨o, ho, hd⟩ => by
    have nch : c ∉ ch := fun z => (hch c z).2.2.1 x c e rfl
    by_cases hc : c ∈ X.fs
    · obtain ⟨sl, q⟩ := slot c o (I.cne x c e) hc nch ho (I.freeC x c e)
      exact ⟨_, q, hd⟩
    · exact ⟨o, keep c o (I.cne x c e) hc nch ho (I.freeC x c e), hd⟩
  refine ⟨I.ok, I.os, hg, ⟨fun b o e n hb hx => ?_, fun b o e n hb hx => ?_, fun b o e n hx => ?_, fun b o e hx => ?_, fun b xs e => tups b xs (I.base.tups b xs e), fun b o xs e => frzs b o xs (I.base.frzs b o xs e), fun b ps e => ?_⟩, ?_, fun x c e => ?_, ?_, fun x c e => ?_, fun p hp => ?_, hok, I.len⟩
  · exact keep b o (neL b o e) hb (neC b o e hx) (I.base.keep b o e n hb hx) (I.base.free b o e n hx)
  · obtain ⟨sl, e1⟩ := I.base.slot b o e n hb hx
    obtain ⟨sl', e2⟩ := slot b _ (neL b o e) hb (neC b o e hx) e1 (I.base.free b o e n hx)
    exact ⟨sl', e2⟩
  · obtain ⟨o', e1⟩ := I.base.there b o e hx
    exact free b o' (neC b o e hx) e1 (I.base.free b o e n hx)
  · obtain ⟨o', e1⟩ := I.base.there b o e hx
    exact there b o' (neC b o e hx) e1
  · obtain ⟨m1, e1⟩ := I.base.tbls b ps e
    obtain ⟨m2, e2⟩ := tbls b _ e1
    exact ⟨m1 ++ m2, by rw [e2, Array.append_assoc]⟩
  · obtain ⟨m, hn, hl⟩ := I.loc
    refine ⟨m, ns m hn, fun i x v e1 e2 e3 => ?_⟩
    obtain ⟨u, r, l⟩ := hl i x v e1 e2 e3
    refine ⟨u, r, ?_⟩
    rcases l with l | ⟨k, c, e, z⟩
    · exact .inl l
    · exact .inr ⟨k, c, e, cellK x c e _ z⟩
  · obtain ⟨v, z⟩ := I.cell x c e
    exact ⟨v, cellK x c e v z⟩
  · obtain ⟨m, ⟨o, _, _, ho, _⟩, _⟩ := I.loc
    exact free _ o (fun z => (hch _ z).2.1 rfl) ho I.free
  · obtain ⟨v, o, ho, hd⟩ := I.cell x c e
    exact free c o (fun z => (hch c z).2.2.1 x c e rfl) ho (I.freeC x c e)
  · obtain ⟨e, n, ne, nf, d⟩ := I.pin p hp
    have nch : p.1 ∉ ch := fun z => (hch p.1 z).2.2.2 p hp rfl
    exact ⟨keep p.1 p.2 ne nf nch e n, free p.1 p.2 nch e n, ne, nf, d⟩
/-- .. where the frame's own object is kept too -/
theorem Inv.un {t' : Nat} (I : Inv X pins σ H s) (u : Un X.fs [] H H' s.heap h') (hok : HOk X.prog X.w H' h') : Inv X pins σ H' { s with heap := h', toks := t' } := by
  obtain ⟨m, ⟨o, es, ep, ho, r⟩, _⟩ := id I.loc
  obtain ⟨sl, hL⟩ := u.any ho I.free (by simp)
  exact I.step (g' := s.gens) (d' := s.drawn) (ch := []) (fun _ z => nomatch z) (fun b o _ hb _ e n => u.keep b o e n hb (by simp)) (fun b o _ hb _ e n => u.slot b o e n hb (by simp)) (fun b o _ e n => u.free b o e n (by simp)) (fun b o _ e => u.there b o e (by simp)) u.tups u.frzs u.tbls (fun m' hm => by
    obtain ⟨o', es', ep', ho', r'⟩ := hm
    rw [ho] at ho'; cases ho'
    exact ⟨_, es', ep', hL, r'⟩) hok I.bare
/-- behind a call (or a comprehension's block): the slots of this frame may have changed too, the records at ch may have turned -/
theorem Inv.call {g' : Array GenState} {t' : Nat} {d' : Drawn} {ch : List Addr} (I : Inv X pins σ H s) (u : Un (frs X.stack) ch H H' s.heap h') (hok : HOk X.prog X.w H' h') (hg : AllBare g')
    (hch : ∀ b ∈ ch, (b ∈ X.ex ∨ X.s₀.heap.objs.size ≤ b) ∧ b ≠ X.env.locals ∧ (∀ x c, X.env.cells.lookup x = some c → c ≠ b) ∧ ∀ p ∈ X.pn ++ pins, p.1 ≠ b) :
    Inv X pins σ H' { s with heap := h', gens := g', drawn := d', toks := t' } := by
  obtain ⟨m, ⟨o, es, ep, ho, r⟩, _⟩ := id I.loc
  obtain ⟨sl, hL⟩ := u.any ho I.free fun z => (hch _ z).2.1 rfl
  exact I.step (ch := ch) hch (fun b o hL hb hc e n => u.keep b o e n (fun z => (List.mem_cons.mp (I.stkSub b z)).elim hL hb) hc) (fun b o _ _ hc e n => u.any e n hc) (fun b o hc e n => u.free b o e n hc) (fun b o hc e => u.there b o e hc) u.tups u.frzs u.tbls (fun m' hm => by
    obtain ⟨o', es', ep', ho', r'⟩ := hm
    rw [ho] at ho'; cases ho'
    exact ⟨_, es', ep', hL, r'⟩) hok hg
/-- an untracked record of ours (an iterator) has turned -/
theorem Inv.turned {t' : Nat} {it : Addr} (I : Inv X pins σ H s) (k : ∀ b o, b ≠ it → s.heap.get? b = some o → h'.get? b = some o) (hn : H it = none) (hL : it ≠ X.env.locals)
    (h1 : it ∈ X.ex ∨ X.s₀.heap.objs.size ≤ it) (h2 : ∀ x c, X.env.cells.lookup x = some c → c ≠ it) (h3 : ∀ p ∈ X.pn ++ pins, p.1 ≠ it) : Inv X pins σ H { s with heap := h', toks := t' } := by
  have nit : ∀ b u, H b = some u → b ≠ it := fun b u e z => by rw [z, hn] at e; cases e
  refine I.step (g' := s.gens) (d' := s.drawn) (ch := [it]) (fun b hb => ?_) (fun b o _ _ hc e _ => k b o (fun z => hc (by simp [z])) e) (fun b o _ _ hc e _ => ⟨o.slots, k b o (fun z => hc (by simp [z])) e⟩) (fun _ _ _ _ n => n)
    (fun b o hc e => ⟨o, k b o (fun z => hc (by simp [z])) e⟩) (fun _ _ e => e) (fun _ _ _ e => e) (fun b ps e => ⟨#[], by rw [e]; simp⟩) (fun m hm => ?_) (fun b u e => ?_) I.bare
  · have e : b = it := by simpa using hb
    subst e
    exact ⟨h1, hL, h2, h3⟩
  · obtain ⟨o, es, ep, ho, r⟩ := hm
    exact ⟨o, es, ep, k _ o (Ne.symm hL) ho, r⟩
  · refine (I.hok b u e).stay (fun c v hc q => k c v ?_ q) (fun _ q => q) fun _ _ q => q
    rcases hc with z | z
    · rw [z]; exact nit b u e
    · exact nit c _ z
theorem Inv.tok (I : Inv X pins σ H s) (t : Nat) : Inv X pins σ H { s with toks := t } := I.un (h' := s.heap) (t' := t) Un.refl I.hok
/-- all objects kept -/
theorem Inv.kept {t' : Nat} (I : Inv X pins σ H s) (k : ∀ b u, s.heap.get? b = some u → h'.get? b = some u) : Inv X pins σ H { s with heap := h', toks := t' } := I.un (Un.kept k) (I.hok.kept k)
/-- a new object laid and tracked -/
theorem Inv.laid {a : Addr} {o : HO} {t' : Nat} (I : Inv X pins σ H s) (k : ∀ b u, s.heap.get? b = some u → h'.get? b = some u) (hp : s.heap.objs.size ≤ a) (new : ObjOk X.prog X.w (upd H a o) h' a o) :
    Inv X pins σ (upd H a o) { s with heap := h', toks := t' } := I.un (Un.laid k hp (I.hok.fresh hp)) (I.hok.laid k hp new)
/-- an object written -/
theorem Inv.write {x e : Addr} {o : HO} {t' : Nat} (I : Inv X pins σ H s) (mu : Mut (H x)) (he : e = x ∨ H e = some (.own x)) (k : ∀ b u, b ≠ e → s.heap.get? b = some u → h'.get? b = some u) (heo : ∃ u, h'.get? e = some u)
    (new : ObjOk X.prog X.w (upd H x o) h' x o) : Inv X pins σ (upd H x o) { s with heap := h', toks := t' } := I.un (Un.write mu he k heo) (I.hok.write mu he k heo new)
/-- forgetting slots, pins -/
theorem Inv.weak {σ' : List (Option V)} (I : Inv X pins σ H s) (hl : σ'.length = σ.length) (w : ∀ (i : Nat) v, σ'[i]? = some (some v) → σ[i]? = some (some v)) : Inv X pins σ' H s :=
  ⟨I.ok, I.os, I.bare, I.base, let ⟨m, hn, hl'⟩ := I.loc; ⟨m, hn, fun i x v e1 e2 e3 => hl' i x v e1 (w i v e2) e3⟩, I.cell, I.free, I.freeC, I.pin, I.hok, hl.trans I.len⟩
theorem Inv.pins_of {pins' : List (Addr × Obj)} (I : Inv X pins σ H s) (h : ∀ p ∈ pins', s.heap.get? p.1 = some p.2 ∧ H p.1 = none ∧ p.1 ≠ X.env.locals ∧ p.1 ∉ X.fs ∧ ∀ v, p.2.data ≠ .cell v) : Inv X pins' σ H s :=
  ⟨I.ok, I.os, I.bare, I.base, I.loc, I.cell, I.free, I.freeC, fun p hp => (List.mem_append.mp hp).elim (fun z => I.pin p (List.mem_append_left _ z)) (h p), I.hok, I.len⟩

theorem nodup_ix {N : List Str} (hN : N.Nodup) {i j : Nat} {x : Str} (a : N[i]? = some x) (b : N[j]? = some x) : i = j := by
  obtain ⟨h1, e1⟩ := List.getElem?_eq_some_iff.mp a
  obtain ⟨h2, e2⟩ := List.getElem?_eq_some_iff.mp b
  exact (List.getElem_inj hN).mp (e1.trans e2.symm)

/-- a name is stored; what changed -/
theorem store_ok2 {M : Model} {A : Around} {E : Value → Shared → Prop} {i : Nat} {x : Str} {v : V} {u : Value} {Q : Unit → Shared → Prop} (I : Inv X pins σ H s) (hN : X.N.Nodup) (hi : X.N[i]? = some x) (hx : Loc X.env.scope x) (r : RelV v u)
    (h : ∀ s', Inv X pins (σ.set i (some v)) H s' → (∃ a, Heap.SameBut a s.heap s'.heap ∧ (a = X.env.locals ∨ X.env.cells.lookup x = some a)) → Q () s') (hf : X.fn x = true ∨ X.env.scope.names.lookup x = some .local := by first | exact .inl rfl | exact .inr rfl | assumption) : wpAny M A (storeName X.env x u) Q E s := by
  obtain ⟨m, hn, hl⟩ := id I.loc
  have hcls : (X.env.scope.kind == .class || (X.env.scope.kind == .module && X.env.locals != X.env.globals)) = false := by rw [I.ok.kind]; rfl
  have hiσ : i < σ.length := by rw [I.len]; exact (List.getElem?_eq_some_iff.mp hi).1
  have cne := I.cne
  have tracked : ∀ {a : Addr} {h' : Heap}, (∃ o, s.heap.get? a = some o ∧ H a = none) → Heap.SameBut a s.heap h' → HOk X.prog X.w H h' := fun {a h'} ha hs b ob e => by
    obtain ⟨_, _, hfree⟩ := ha
    refine (I.hok b ob e).stay (fun c w' hc q => (hs.2 c ?_).trans q) (fun _ q => q) fun _ _ q => q
    rintro rfl
    rcases hc with rfl | hc
    · rw [hfree] at e; cases e
    · rw [hfree] at hc; cases hc
  rcases hx with hk | hk
  · refine wpAny_storeName_local hk hn (fun h' hn' hs => ?_) hcls
    obtain ⟨oL, _, _, hoL, _⟩ := id hn
    refine h _ ⟨I.ok, I.os, I.bare, ⟨fun b o e n hb hx => ?_, fun b o e n hb hx => ?_, I.base.free, fun b o e hx => ?_, I.base.tups, I.base.frzs, I.base.tbls⟩, ⟨_, hn', fun j y v' e1 e2 e3 => ?_⟩, fun y c e => ?_, I.free, I.freeC, fun p hp => ?_, tracked ⟨oL, hoL, I.free⟩ hs, by simpa using I.len⟩ ⟨_, hs, .inl rfl⟩
    · exact (hs.2 b (Nat.ne_of_lt (Nat.lt_of_lt_of_le (Heap.lt_size e) I.ok.above))).trans (I.base.keep b o e n hb hx)
    · obtain ⟨sl, e1⟩ := I.base.slot b o e n hb hx
      exact ⟨sl, (hs.2 b (Nat.ne_of_lt (Nat.lt_of_lt_of_le (Heap.lt_size e) I.ok.above))).trans e1⟩
    · obtain ⟨o', e1⟩ := I.base.there b o e hx
      exact ⟨o', (hs.2 b (Nat.ne_of_lt (Nat.lt_of_lt_of_le (Heap.lt_size e) I.ok.above))).trans e1⟩
    · by_cases hj : j = i
      · subst hj
        rw [hi] at e1; cases e1
        rw [List.getElem?_set_self hiσ] at e2
        cases e2
        exact ⟨u, r, .inl ⟨hk, by simp⟩⟩
      · rw [List.getElem?_set_ne (Ne.symm hj)] at e2
        obtain ⟨u', r', q⟩ := hl j y v' e1 e2 e3
        refine ⟨u', r', ?_⟩
        rcases q with ⟨k, e⟩ | ⟨k, c, e, z⟩
        · refine .inl ⟨k, ?_⟩
          have : y ≠ x := fun e => hj (nodup_ix hN e1 (e ▸ hi))
          simp [this, e]
        · exact .inr ⟨k, c, e, z.sameBut hs (cne y c e)⟩
    · obtain ⟨w', z⟩ := I.cell y c e
      exact ⟨w', z.sameBut hs (cne y c e)⟩
    · obtain ⟨e, n, ne, nf, d⟩ := I.pin p hp
      exact ⟨(hs.2 p.1 ne).trans e, n, ne, nf, d⟩
  · have hfn : X.fn x = true := by
      rcases hf with z | z
      · exact z
      · rw [z] at hk; cases hk
    obtain ⟨c, hc⟩ := I.ok.has x (.inl hk)
    obtain ⟨w', z⟩ := I.cell x c hc
    refine wpAny_storeName_cell I.ok.kind hk hc z (fun h' hc' hs => ?_)
    obtain ⟨oc, hoc, hocd⟩ := id z
    refine h { s with heap := h' } ⟨I.ok, I.os, I.bare, ⟨fun b o e n hb hx => ?_, fun b o e n hb hx => ?_, I.base.free, fun b o e hx => ?_, I.base.tups, I.base.frzs, I.base.tbls⟩, ⟨m, hn.sameBut hs (Ne.symm (cne x c hc)), fun j y v' e1 e2 e3 => ?_⟩, fun y c' e => ?_, I.free, I.freeC, fun p hp => ?_, tracked ⟨oc, hoc, I.freeC x c hc⟩ hs, by simpa using I.len⟩ ⟨c, hs, .inr hc⟩
    · exact (hs.2 b (Nat.ne_of_lt (Nat.lt_of_lt_of_le (Heap.lt_size e) (I.ok.cab x c hfn hc)))).trans (I.base.keep b o e n hb hx)
    · obtain ⟨sl, e1⟩ := I.base.slot b o e n hb hx
      exact ⟨sl, (hs.2 b (Nat.ne_of_lt (Nat.lt_of_lt_of_le (Heap.lt_size e) (I.ok.cab x c hfn hc)))).trans e1⟩
    · obtain ⟨o', e1⟩ := I.base.there b o e hx
      exact ⟨o', (hs.2 b (Nat.ne_of_lt (Nat.lt_of_lt_of_le (Heap.lt_size e) (I.ok.cab x c hfn hc)))).trans e1⟩
    · by_cases hj : j = i
      · subst hj
        rw [hi] at e1; cases e1
        rw [List.getElem?_set_self hiσ] at e2
        cases e2
        exact ⟨u, r, .inr ⟨.inl hk, c, hc, hc'⟩⟩
      · rw [List.getElem?_set_ne (Ne.symm hj)] at e2
        obtain ⟨u', r', q⟩ := hl j y v' e1 e2 e3
        refine ⟨u', r', ?_⟩
        rcases q with q | ⟨k, c', e, z'⟩
        · exact .inl q
        · refine .inr ⟨k, c', e, z'.sameBut hs ?_⟩
          rintro rfl
          exact hj (nodup_ix hN e1 (I.ok.inj _ _ _ e hc ▸ hi))
    · by_cases hcc : c' = c
      · subst hcc; exact ⟨_, hc'⟩
      · obtain ⟨w2, z2⟩ := I.cell y c' e
        exact ⟨w2, z2.sameBut hs hcc⟩
    · obtain ⟨e, n, ne, nf, d⟩ := I.pin p hp
      refine ⟨(hs.2 p.1 ?_).trans e, n, ne, nf, d⟩
      intro q
      rw [q, hoc] at e
      have q' : oc = p.2 := Option.some.inj e
      exact d w' (by rw [← q']; exact hocd)
theorem store_ok {M : Model} {A : Around} {E : Value → Shared → Prop} {i : Nat} {x : Str} {v : V} {u : Value} {Q : Unit → Shared → Prop} (I : Inv X pins σ H s) (hN : X.N.Nodup) (hi : X.N[i]? = some x) (hx : Loc X.env.scope x) (r : RelV v u)
    (h : ∀ s', Inv X pins (σ.set i (some v)) H s' → Q () s') (hf : X.fn x = true ∨ X.env.scope.names.lookup x = some .local := by first | exact .inl rfl | exact .inr rfl | assumption) : wpAny M A (storeName X.env x u) Q E s :=
  store_ok2 I hN hi hx r (fun s' I' _ => h s' I') hf
/-- behind a call or a block, the state as it is -/
theorem Inv.call' {s' : Shared} {ch : List Addr} (I : Inv X pins σ H s) (ho : s'.os = s.os) (u : Un (frs X.stack) ch H H' s.heap s'.heap) (hok : HOk X.prog X.w H' s'.heap) (hg : AllBare s'.gens)
    (hch : ∀ b ∈ ch, (b ∈ X.ex ∨ X.s₀.heap.objs.size ≤ b) ∧ b ≠ X.env.locals ∧ (∀ x c, X.env.cells.lookup x = some c → c ≠ b) ∧ ∀ p ∈ X.pn ++ pins, p.1 ≠ b) : Inv X pins σ H' s' := by
  obtain ⟨h', g', d', t', o'⟩ := s'
  have e : o' = s.os := ho
  subst e
  exact I.call (g' := g') (t' := t') (d' := d') u hok hg hch
end

/-! ### the judgements -/
/-- an exception: its class, its own dict's address (where it has one), the abstract heap behind it -/
abbrev XK := Value → Option Addr → Hp → Prop
abbrev St := List (Option V)
abbrev VK := V → Hp → Prop
/-- an expression's reading; a test's; an argument list's -/
abbrev TE := St → Hp → VK → Prop
abbrev TT := St → Hp → (Bool → Hp → Prop) → Prop
abbrev TA := St → Hp → (List V → Hp → Prop) → Prop
/-- what is wanted behind a statement -/
structure Ends where
  nx : St → Hp → Prop
  rt : VK
  bk : St → Hp → Prop := fun _ _ => False
  ct : St → Hp → Prop := fun _ _ => False
abbrev TS := Ends → St → Hp → Prop

def EP (X : Cx) (pins : List (Addr × Obj)) (σ : St) (Q : VK) (u : Value) (s' : Shared) : Prop := ∃ v H', Inv X pins σ H' s' ∧ RelV v u ∧ Q v H'
def TP (X : Cx) (pins : List (Addr × Obj)) (σ : St) (Q : Bool → Hp → Prop) (b : Bool) (s' : Shared) : Prop := ∃ H', Inv X pins σ H' s' ∧ Q b H'
def AP (X : Cx) (pins : List (Addr × Obj)) (σ : St) (Q : List V → Hp → Prop) (us : List Value) (s' : Shared) : Prop := ∃ vs H', Inv X pins σ H' s' ∧ Vals vs us ∧ Q vs H'
def SP (X : Cx) (pins : List (Addr × Obj)) (D : Ends) (f : Flow) (s' : Shared) : Prop :=
  match f with
  | .next => ∃ σ' H', Inv X pins σ' H' s' ∧ D.nx σ' H'
  | .brk => ∃ σ' H', Inv X pins σ' H' s' ∧ D.bk σ' H'
  | .cont => ∃ σ' H', Inv X pins σ' H' s' ∧ D.ct σ' H'
  | .ret u => ∃ v σ' H', Inv X pins σ' H' s' ∧ RelV v u ∧ D.rt v H'

def PE (X : Cx) (e : Expr) (t : TE) : Prop :=
  ∀ (pins : List (Addr × Obj)) (s : Shared) (σ : St) (H : Hp) (Q : VK), Inv X pins σ H s → t σ H Q → wpAny (model X.prog X.w) X.A (eval e X.env) (EP X pins σ Q) X.xe s
def PT (X : Cx) (e : Expr) (t : TT) : Prop :=
  ∀ (pins : List (Addr × Obj)) (s : Shared) (σ : St) (H : Hp) (Q : Bool → Hp → Prop), Inv X pins σ H s → t σ H Q → wpAny (model X.prog X.w) X.A (isTrue e X.env (eval e X.env)) (TP X pins σ Q) X.xe s
/-- a test whatever its 'whole' is (and, or) -/
def PW (X : Cx) (e : Expr) (t : TT) : Prop :=
  ∀ (whole : Sem Value) (pins : List (Addr × Obj)) (s : Shared) (σ : St) (H : Hp) (Q : Bool → Hp → Prop), Inv X pins σ H s → t σ H Q → wpAny (model X.prog X.w) X.A (isTrue e X.env whole) (TP X pins σ Q) X.xe s
theorem PW.pt {X : Cx} {e : Expr} {t : TT} (h : PW X e t) : PT X e t := h _
/-- an argument list (no star), from the left -/
def PA (X : Cx) (es : List Expr) (t : TA) : Prop :=
  ∀ (pos : Pos) (pins : List (Addr × Obj)) (s : Shared) (σ : St) (H : Hp) (Q : List V → Hp → Prop), Inv X pins σ H s → t σ H Q → wpAny (model X.prog X.w) X.A (spliced (backTo pos (starEach es X.env))) (AP X pins σ Q) X.xe s
def PS (X : Cx) (st : Stmt) (t : TS) : Prop :=
  ∀ (pins : List (Addr × Obj)) (s : Shared) (σ : St) (H : Hp) (D : Ends), Inv X pins σ H s → t D σ H → wpAny (model X.prog X.w) X.A (exec st X.env) (SP X pins D) X.xe s
def PSs (X : Cx) (st : List Stmt) (t : TS) : Prop :=
  ∀ (pins : List (Addr × Obj)) (s : Shared) (σ : St) (H : Hp) (D : Ends), Inv X pins σ H s → t D σ H → wpAny (model X.prog X.w) X.A (execs st X.env) (SP X pins D) X.xe s
/-- weaken the end -/
theorem thn {α : Type} {t : Sem α} {Q Q' : α → Shared → Prop} {M : Model} {A : Around} {E : Value → Shared → Prop} {s : Shared} (h : wpAny M A t Q E s) (hQ : ∀ a s, Q a s → Q' a s) : wpAny M A t Q' E s := wpAny_mono h hQ fun _ _ x => x
end L2

namespace L2
open PySem PySem.Spec PyProof.Rows
section
variable {X : Cx}

/-! ### names and constants -/
def tVar (i : Nat) : TE := fun σ H Q => ∃ v, σ[i]? = some (some v) ∧ Q v H
def tC (v : V) : TE := fun _ H Q => Q v H
theorem pe_var {i : Nat} {x : Str} {pos : Pos} (hN : X.N[i]? = some x) (hv : Vis X.env.scope x) (hd : (x == ("__debug__" : Str)) = false := by decide) (hcd : (x == ("__classdict__" : Str)) = false := by decide) : PE X (.Name x pos) (tVar i) := by
  intro pins s σ H Q I h
  obtain ⟨v, e, h⟩ := h
  obtain ⟨m, hn, hl⟩ := I.loc
  obtain ⟨u, r, l⟩ := hl i x v hN e hv
  have fin : EP X pins σ Q u s := ⟨v, H, I, r, h⟩
  rcases l with ⟨hk, hm⟩ | ⟨hk, c, hc, hcell⟩
  · exact wpAny_Name (wpAny_loadName_local I.ok.kind hk hn hm fin) hd
  · rcases hk with hk | hk
    · exact wpAny_Name (wpAny_loadName_cell I.ok.kind hk hc hcell fin) hd
    · exact wpAny_Name (wpAny_loadName_free I.ok.kind hk hc hcell fin hcd) hd
theorem pe_int {i j pos} : PE X (.Constant (.int i) j pos) (tC (.int i)) := fun _ _ _ H _ I h => wpAny_Constant_int ⟨.int i, H, I.tok _, ⟨_, rfl⟩, h⟩
theorem pe_bl {b j pos} : PE X (.Constant (.bool b) j pos) (tC (.bl b)) := fun _ _ _ H _ I h => Constant_bool ⟨.bl b, H, I, rfl, h⟩
theorem pe_str {x j pos} : PE X (.Constant (.str x) j pos) (tC (.str x)) := fun _ _ _ H _ I h => Calls.Constant_str ⟨.str x, H, I.tok _, ⟨_, rfl⟩, h⟩

/-- a global name of the def -/
def Gl (X : Cx) (x : Str) : Prop := X.env.kindOf x = some .globalImplicit
theorem ld_glob {E : Value → Shared → Prop} {pins : List (Addr × Obj)} {s : Shared} {σ : St} {H : Hp} {x : Str} {u : Value} {pos : Pos} {Q : Value → Shared → Prop} (I : Inv X pins σ H s) (hg : Gl X x) (hm : X.mg x = some u) (h : Q u s)
    (hd : (x == ("__debug__" : Str)) = false := by decide) : wpAny (model X.prog X.w) X.A (eval (.Name x pos) X.env) Q E s :=
  Calls.Name_function_global I.ok.kind hg (Calls.loadGlobal_global (by rw [I.ok.glob]; exact I.mod.glob.keeps I.bk) hm h) hd
theorem ld_blt {E : Value → Shared → Prop} {pins : List (Addr × Obj)} {s : Shared} {σ : St} {H : Hp} {x : Str} {u : Value} {pos : Pos} {Q : Value → Shared → Prop} (I : Inv X pins σ H s) (hg : Gl X x) (hm : X.mg x = none) (hv : bootBuiltins x = some u) (h : Q u s)
    (hn : x ≠ "__name__" := by decide) (hd : (x == ("__debug__" : Str)) = false := by decide) : wpAny (model X.prog X.w) X.A (eval (.Name x pos) X.env) Q E s := by
  obtain ⟨mb, h1, h2⟩ := I.mod.blt
  exact Calls.Name_function_global I.ok.kind hg (Calls.loadGlobal_builtin (by rw [I.ok.glob]; exact I.mod.glob.keeps I.bk) hm (by rw [I.ok.blt]; exact h1.keeps I.bk) ((h2 x hn).trans hv) h) hd
theorem pe_bltn {x : Str} {v : V} {u : Value} {pos : Pos} (hg : Gl X x) (hm : X.mg x = none) (hv : bootBuiltins x = some u) (r : RelV v u) (hn : x ≠ "__name__" := by decide) (hd : (x == ("__debug__" : Str)) = false := by decide) : PE X (.Name x pos) (tC v) :=
  fun _ _ _ H _ I h => ld_blt I hg hm hv ⟨v, H, I, r, h⟩ hn hd

/-! ### arithmetic -/
variable {a b : Expr} {ta tb : TE} {pos : Pos}
/-! ### comparisons -/
/-- a comparison as a value, as a test -/
def tB (t : TE) : TT := fun σ H Q => t σ H fun x H1 => ∃ c, x = .bl c ∧ Q c H1
/-- an expression whose value is a bool, as a test -/
theorem pt_val {e : Expr} {t : TE} (h : PE X e t) (he : ∀ whole, isTrue e X.env whole = (do let v ← whole; standAt e.pos; holding [v] (truthy v)) := by intro _; rfl) : PT X e (tB t) := by
  intro pins s σ H Q I hw
  refine isTrue_plain (thn (h pins s σ H _ I hw) fun v s1 ⟨x, H1, I1, r1, q1⟩ => ?_) (he _)
  obtain ⟨d, rfl, q⟩ := q1
  cases r1
  exact wpAny_truthy_bool ⟨H1, I1, q⟩

/-! ### and, or, not -/
variable {tA tB' : TT} {rest : List Expr}
def tAnd (t u : TT) : TT := fun σ H Q => t σ H fun c H1 => if c = true then u σ H1 Q else Q false H1
def tOr (t u : TT) : TT := fun σ H Q => t σ H fun c H1 => if c = true then Q true H1 else u σ H1 Q
def tNot (t : TT) : TT := fun σ H Q => t σ H fun c H1 => Q (!c) H1
theorem pw_and1 (ha : PT X a tA) : PW X (.BoolOp .And [a] pos) tA := by
  intro wh pins s σ H Q I h
  refine isTrue_and (thn (ha pins s σ H Q I h) fun c s1 e => ?_)
  cases c with
  | true => exact isTrue_and_nil e
  | false => exact e
theorem pw_or1 (ha : PT X a tA) : PW X (.BoolOp .Or [a] pos) tA := by
  intro wh pins s σ H Q I h
  refine isTrue_or (thn (ha pins s σ H Q I h) fun c s1 e => ?_)
  cases c with
  | false => exact isTrue_or_nil e
  | true => exact e
theorem pw_and (ha : PT X a tA) (hb : PW X (.BoolOp .And (b :: rest) pos) tB') : PW X (.BoolOp .And (a :: b :: rest) pos) (tAnd tA tB') := by
  intro wh pins s σ H Q I h
  refine isTrue_and (thn (ha pins s σ H _ I h) fun c s1 ⟨H1, I1, q1⟩ => ?_)
  cases c with
  | true => exact hb wh pins s1 σ H1 Q I1 q1
  | false => exact ⟨H1, I1, q1⟩
theorem pw_or (ha : PT X a tA) (hb : PW X (.BoolOp .Or (b :: rest) pos) tB') : PW X (.BoolOp .Or (a :: b :: rest) pos) (tOr tA tB') := by
  intro wh pins s σ H Q I h
  refine isTrue_or (thn (ha pins s σ H _ I h) fun c s1 ⟨H1, I1, q1⟩ => ?_)
  cases c with
  | true => exact ⟨H1, I1, q1⟩
  | false => exact hb wh pins s1 σ H1 Q I1 q1
theorem pt_not (ha : PT X a tA) : PT X (.UnaryOp .Not a pos) (tNot tA) := by
  intro pins s σ H Q I h
  exact isTrue_not (ha pins s σ H (fun c H1 => Q (!c) H1) I h)
/-- .. as values (bools) -/
def tAndV (ta tb : TE) : TE := fun σ H Q => ta σ H fun x H1 => ∃ c, x = .bl c ∧ if c = true then tb σ H1 Q else Q (.bl false) H1
def tNotV (ta : TE) : TE := fun σ H Q => ta σ H fun x H1 => ∃ c, x = .bl c ∧ Q (.bl (!c)) H1
theorem pe_one {op} {t : TE} (h : PE X a t) : PE X (.BoolOp op [a] pos) t := fun pins s σ H Q I hw => BoolOp_one (h pins s σ H Q I hw)
theorem pe_and (ha : PE X a ta) (hb : PE X (.BoolOp .And (b :: rest) pos) tb) : PE X (.BoolOp .And (a :: b :: rest) pos) (tAndV ta tb) := by
  intro pins s σ H Q I h
  refine BoolOp_and (thn (ha pins s σ H _ I h) fun v s1 ⟨x, H1, I1, r1, q1⟩ => ?_)
  obtain ⟨c, rfl, q1⟩ := q1
  cases r1
  refine wpAny_truthy_bool ?_
  cases c with
  | true => exact hb pins s1 σ H1 Q I1 q1
  | false => exact ⟨.bl false, H1, I1, rfl, q1⟩
theorem pe_not (ha : PE X a ta) : PE X (.UnaryOp .Not a pos) (tNotV ta) := by
  intro pins s σ H Q I h
  refine UnaryOp_ (thn (ha pins s σ H _ I h) fun v s1 ⟨x, H1, I1, r1, q1⟩ => ?_)
  obtain ⟨c, rfl, q1⟩ := q1
  cases r1
  exact not_of (wpAny_truthy_bool ⟨.bl (!c), H1, I1, rfl, q1⟩)
end
end L2

namespace L2
open PySem PySem.Spec PyProof.Rows

/-! ### a list, a tuple that is read: tracked, frozen, or an object of the module -/
def SqL (K : PySem.W.Frag) (H : Hp) (a : Addr) (xs : List V) : Prop :=
  Rd H a (.lst xs) ∨
    ∃ (o : Obj) (its : Array Value) (n : Nat), K.lookup a = some o ∧ o.cls = .type "list" ∧ o.dict = none ∧ o.data = .seq its n ∧ its.size ≤ sizeLine ∧ Vals xs its.toList
def SqT (K : PySem.W.Frag) (H : Hp) (a : Addr) (xs : List V) : Prop :=
  Rd H a (.tup xs) ∨
    ∃ (o : Obj) (its : Array Value) (n : Nat), K.lookup a = some o ∧ o.cls = .type "tuple" ∧ o.data = .seq its n ∧ its.size ≤ sizeLine ∧ Vals xs its.toList
def absV : Value → Option V
  | .none => some .non
  | .bool b => some (.bl b)
  | .int i _ => some (.int i)
  | .str x _ => some (.str x)
  | .bytes b _ => some (.byt b)
  | .float b _ => some (.flt b)
  | .ref a => some (.ref a)
  | .type n => some (.ty n)
  | _ => none
theorem RelV.abs {x : V} {u : Value} (r : RelV x u) : absV u = some x := by
  cases x with
  | non => cases r; rfl
  | bl _ => cases r; rfl
  | int _ => obtain ⟨t, rfl⟩ := r; rfl
  | str _ => obtain ⟨t, rfl⟩ := r; rfl
  | byt _ => obtain ⟨t, rfl⟩ := r; rfl
  | flt _ => obtain ⟨t, rfl⟩ := r; rfl
  | ref _ => cases r; rfl
  | ty _ => cases r; rfl
theorem RelV.inj {x y : V} {u : Value} (r : RelV x u) (q : RelV y u) : x = y := Option.some.inj (r.abs.symm.trans q.abs)
theorem Vals.inj : ∀ {xs ys : List V} {us : List Value}, Vals xs us → Vals ys us → xs = ys
  | _, _, _, .nil, .nil => rfl
  | _, _, _, .cons r t, .cons r' t' => by rw [r.inj r', Vals.inj t t']
section
variable {X : Cx} {pins : List (Addr × Obj)} {σ : St} {H : Hp} {s : Shared} {a : Addr} {xs ys : List V}
theorem SqL.of {K : PySem.W.Frag} (h : H a = some (.lst xs)) : SqL K H a xs := .inl (.inl h)
theorem SqT.of {K : PySem.W.Frag} (h : H a = some (.tup xs)) : SqT K H a xs := .inl (.inl h)
theorem Inv.list (I : Inv X pins σ H s) (h : SqL X.K H a xs) : ∃ its : List Value, Vals xs its ∧ PlainL s.heap a its.toArray ∧ xs.length ≤ sizeLine := by
  rcases h with h | ⟨o, its, n, hk, hc, hd, hs, hz, r⟩
  · obtain ⟨z, its, n, r, e⟩ := h.ok I.hok
    exact ⟨its, r, ⟨_, n, e, rfl, rfl, rfl⟩, z⟩
  · refine ⟨its.toList, r, ⟨o, n, I.kIn a o hk, hc, hd, by simpa using hs⟩, ?_⟩
    have e := r.length
    simp only [Array.length_toList] at e
    omega
theorem Inv.tuple (I : Inv X pins σ H s) (h : SqT X.K H a xs) : ∃ its : List Value, Vals xs its ∧ IsTup s.heap a its.toArray ∧ xs.length ≤ sizeLine := by
  rcases h with h | ⟨o, its, n, hk, hc, hs, hz, r⟩
  · obtain ⟨z, its, r, p⟩ := h.ok I.hok
    exact ⟨its, r, p, z⟩
  · refine ⟨its.toList, r, ⟨o, I.kIn a o hk, hc, n, by simpa using hs⟩, ?_⟩
    have e := r.length
    simp only [Array.length_toList] at e
    omega
theorem Inv.list_inj (I : Inv X pins σ H s) (h : SqL X.K H a xs) (h' : SqL X.K H a ys) : xs = ys := by
  obtain ⟨its, r, ⟨o, n, e, _, _, d⟩, _⟩ := I.list h
  obtain ⟨its', r', ⟨o', n', e', _, _, d'⟩, _⟩ := I.list h'
  rw [e] at e'; cases e'
  rw [d] at d'
  injection d' with d1 _
  have : its = its' := by simpa using congrArg Array.toList d1
  subst this
  exact r.inj r'
theorem Inv.tuple_inj (I : Inv X pins σ H s) (h : SqT X.K H a xs) (h' : SqT X.K H a ys) : xs = ys := by
  obtain ⟨its, r, ⟨o, e, _, n, d⟩, _⟩ := I.tuple h
  obtain ⟨its', r', ⟨o', e', _, n', d'⟩, _⟩ := I.tuple h'
  rw [e] at e'; cases e'
  rw [d] at d'
  injection d' with d1 _
  have : its = its' := by simpa using congrArg Array.toList d1
  subst this
  exact r.inj r'
end

/-! ### another wish about exceptions -/
abbrev Cx.wish (X : Cx) (E : Value → Shared → Prop) : Cx := { X with xe := E }
/-- no exception leaves -/
abbrev Cx.nox (X : Cx) : Cx := X.wish fun _ _ => False
theorem Cx.Ok.wish {X : Cx} (ok : X.Ok) (E : Value → Shared → Prop) : (X.wish E).Ok :=
  ⟨ok.mod, ok.kind, ok.glob, ok.blt, ok.above, ok.inj, ok.has, ok.cab, ok.hd, ok.frames, ok.stk, ok.exf, ok.bs, ok.bsz, ok.noex, ok.exfs, ok.funs, ok.frf⟩
theorem Cx.Ok.unwish {X : Cx} {E : Value → Shared → Prop} (ok : (X.wish E).Ok) : X.Ok :=
  ⟨ok.mod, ok.kind, ok.glob, ok.blt, ok.above, ok.inj, ok.has, ok.cab, ok.hd, ok.frames, ok.stk, ok.exf, ok.bs, ok.bsz, ok.noex, ok.exfs, ok.funs, ok.frf⟩
section
variable {X : Cx} {pins : List (Addr × Obj)} {σ : St} {H : Hp} {s : Shared} {E : Value → Shared → Prop}
theorem Inv.wish (I : Inv X pins σ H s) (E : Value → Shared → Prop) : Inv (X.wish E) pins σ H s := ⟨I.ok.wish E, I.os, I.bare, I.base, I.loc, I.cell, I.free, I.freeC, I.pin, I.hok, I.len⟩
theorem Inv.unwish (I : Inv (X.wish E) pins σ H s) : Inv X pins σ H s := ⟨I.ok.unwish, I.os, I.bare, I.base, I.loc, I.cell, I.free, I.freeC, I.pin, I.hok, I.len⟩
theorem SP.unwish {D : Ends} {f : Flow} {s' : Shared} (h : SP (X.wish E) pins D f s') : SP X pins D f s' := by
  cases f with
  | next => obtain ⟨σ', H', I, q⟩ := h; exact ⟨σ', H', I.unwish, q⟩
  | brk => obtain ⟨σ', H', I, q⟩ := h; exact ⟨σ', H', I.unwish, q⟩
  | cont => obtain ⟨σ', H', I, q⟩ := h; exact ⟨σ', H', I.unwish, q⟩
  | ret u => obtain ⟨v, σ', H', I, r, q⟩ := h; exact ⟨v, σ', H', I.unwish, r, q⟩
theorem PSs.nox {st : List Stmt} {t : TS} (h : PSs X.nox st t) : PSs X st t := fun pins s σ H D I hw =>
  wpAny_mono (h pins s σ H D (I.wish _) hw) (fun _ _ q => q.unwish) fun _ _ z => False.elim z
end

/-! ### blocks and small statements -/
section
variable {X : Cx} {st : Stmt} {rest : List Stmt} {t u : TS} {e : Expr} {te : TE} {pos : Pos}
def tNext : TS := fun D σ H => D.nx σ H
def tSeq (t u : TS) : TS := fun D σ H => t { D with nx := u D } σ H
theorem pss_nil : PSs X [] tNext := fun _ _ σ H _ I h => wpAny_execs_nil ⟨σ, H, I, h⟩
theorem pss_cons (h1 : PS X st t) (h2 : PSs X rest u) : PSs X (st :: rest) (tSeq t u) := by
  intro pins s σ H D I h
  refine wpAny_execs_cons (thn (h1 pins s σ H { D with nx := u D } I h) fun f s1 q => ?_)
  cases f with
  | next =>
    obtain ⟨σ', H', I', q⟩ := q
    exact h2 pins s1 σ' H' D I' q
  | ret v => exact q
  | brk => exact q
  | cont => exact q
theorem pss_one (h1 : PS X st t) : PSs X [st] t := by
  intro pins s σ H D I h
  refine wpAny_execs_cons (thn (h1 pins s σ H D I h) fun f s1 q => ?_)
  cases f with
  | next => exact wpAny_execs_nil q
  | ret v => exact q
  | brk => exact q
  | cont => exact q
/-- in a def's body nothing is shown -/
theorem Inv.quiet {pins : List (Addr × Obj)} {σ : St} {H : Hp} {s : Shared} (I : Inv X pins σ H s) : interactive X.env = false := by simp [interactive, I.ok.kind]
/-- an expression whose value is dropped -/
def tDrop (te : TE) : TS := fun D σ H => te σ H fun _ H1 => D.nx σ H1
theorem ps_expr (he : PE X e te) (hs : swapsWith e none pos.line X.env = pure false := by rfl) : PS X (.Expr e pos) (tDrop te) := by
  intro pins s σ H D I h
  exact wpAny_Expr_any (thn (he pins s σ H _ I h) fun v s1 ⟨x, H1, I1, r1, q1⟩ => ⟨σ, H1, I1, q1⟩) I.quiet hs
def tRet (te : TE) : TS := fun D σ H => te σ H D.rt
theorem ps_ret (he : PE X e te) : PS X (.Return (some e) pos) (tRet te) := by
  intro pins s σ H D I h
  exact wpAny_Return_some (thn (he pins s σ H _ I h) fun v s1 ⟨x, H1, I1, r1, q1⟩ => ⟨x, σ, H1, I1, r1, q1⟩)
def tIfS (c : TT) (t u : TS) : TS := fun D σ H => c σ H fun b H1 => if b = true then t D σ H1 else u D σ H1
theorem ps_if {c : Expr} {a b : List Stmt} {tc : TT} (hc : PT X c tc) (ha : PSs X a t) (hb : PSs X b u) : PS X (.If c a b pos) (tIfS tc t u) := by
  intro pins s σ H D I h
  refine wpAny_If (thn (hc pins s σ H _ I h) fun d s1 ⟨H1, I1, q1⟩ => ?_)
  cases d with
  | true => exact ha pins s1 σ H1 D I1 q1
  | false => exact hb pins s1 σ H1 D I1 q1
end

/-! ### targets -/
abbrev TG := V → St → Hp → (St → Hp → Prop) → Prop
abbrev TGs := List V → St → Hp → (St → Hp → Prop) → Prop
def PG (X : Cx) (target : Expr) (t : TG) : Prop :=
  ∀ (pins : List (Addr × Obj)) (s : Shared) (σ : St) (H : Hp) (v : V) (u : Value) (Q : St → Hp → Prop), Inv X pins σ H s → RelV v u → t v σ H Q →
    wpAny (model X.prog X.w) X.A (assign target X.env u) (fun _ s' => ∃ σ' H', Inv X pins σ' H' s' ∧ Q σ' H') X.xe s
/-- several targets, one after another -/
def PGs (X : Cx) (ts : List Expr) (t : TGs) : Prop :=
  ∀ (pins : List (Addr × Obj)) (s : Shared) (σ : St) (H : Hp) (vs : List V) (us : List Value) (Q : St → Hp → Prop), Inv X pins σ H s → Vals vs us → t vs σ H Q →
    wpAny (model X.prog X.w) X.A (assignInOrder ((assignEach ts X.env).map (·.2)) us) (fun _ s' => ∃ σ' H', Inv X pins σ' H' s' ∧ Q σ' H') X.xe s
/-- o[i] = v, by values -/
abbrev TSet := V → V → V → Hp → (Hp → Prop) → Prop
def PSet (X : Cx) (t : TSet) : Prop :=
  ∀ (pins : List (Addr × Obj)) (s : Shared) (σ : St) (H : Hp) (o i v : V) (ov iv u : Value) (Q : Hp → Prop), Inv X pins σ H s → RelV o ov → RelV i iv → RelV v u → t o i v H Q →
    wpAny (model X.prog X.w) X.A (setItem ov iv u) (fun _ s' => ∃ H', Inv X pins σ H' s' ∧ Q H') X.xe s
section
variable {X : Cx} {pos : Pos}
def gName (i : Nat) : TG := fun v σ H Q => Q (σ.set i (some v)) H
theorem pg_name {i : Nat} {x : Str} (hN : X.N.Nodup) (hi : X.N[i]? = some x) (hx : Loc X.env.scope x) (hf : X.fn x = true ∨ X.env.scope.names.lookup x = some .local := by first | exact .inl rfl | exact .inr rfl | assumption) : PG X (.Name x pos) (gName i) := by
  intro pins s σ H v u Q I r h
  exact wpAny_assign_Name (store_ok I hN hi hx r (fun s' I' => ⟨_, H, I', h⟩) hf)
def gNil : TGs := fun vs σ H Q => vs = [] ∧ Q σ H
def gCons (t : TG) (u : TGs) : TGs := fun vs σ H Q => ∃ v r, vs = v :: r ∧ t v σ H fun σ' H' => u r σ' H' Q
theorem pgs_nil : PGs X [] gNil := by
  intro pins s σ H vs us Q I r h
  obtain ⟨e, h⟩ := h
  subst e
  cases r
  exact assignInOrder_nil ⟨σ, H, I, h⟩
theorem pgs_cons {e : Expr} {es : List Expr} {t : TG} {u : TGs} (h1 : PG X e t) (h2 : PGs X es u)
    (hs : (assignEach (e :: es) X.env).map (·.2) = assign e X.env :: (assignEach es X.env).map (·.2) := by rfl) : PGs X (e :: es) (gCons t u) := by
  intro pins s σ H vs us Q I r h
  obtain ⟨v, vr, e1, h⟩ := h
  subst e1
  cases r with
  | cons r rr =>
    rw [hs]
    refine assignInOrder_cons (thn (h1 pins s σ H _ _ _ I r h) fun _ s1 ⟨σ1, H1, I1, q1⟩ => ?_)
    exact h2 pins s1 σ1 H1 _ _ Q I1 rr q1
/-- (a, b, ..) = a tuple of that length -/
def gTup (K : PySem.W.Frag) (n : Nat) (t : TGs) : TG := fun v σ H Q => ∃ a xs, v = .ref a ∧ SqT K H a xs ∧ xs.length = n ∧ t xs σ H Q
theorem pg_tup {es : List Expr} {k : Nat} {t : TGs} {n : Nat} (hc : X.calm = true) (h : PGs X es t)
    (hn : (assignEach es X.env).length = n := by rfl) (hst : (assignEach es X.env).findIdx? (·.1) = none := by rfl) : PG X (.Tuple es k pos) (gTup X.K n t) := by
  intro pins s σ H v u Q I r hw
  obtain ⟨a, xs, e1, hq, hl, hw⟩ := hw
  subst e1
  cases r
  obtain ⟨its, rv, ht, hz⟩ := I.tuple hq
  refine assign_Tuple_tuple (I.ok.hd hc) ht (by simp [hn, ← hl, rv.length]) hst fun h' hx => ?_
  have I1 : Inv X pins σ H { s with heap := h' } := I.kept (t' := s.toks) fun b o e => hx b o (Nat.ne_of_lt (Heap.lt_size e)) e
  exact h pins _ σ H xs _ Q I1 (by simpa using rv) hw
/-- o[i] = .. -/
def gSub (to ti : TE) (t : TSet) : TG := fun v σ H Q => to σ H fun o H1 => ti σ H1 fun i H2 => t o i v H2 fun H3 => Q σ H3
theorem pg_sub {o i : Expr} {to ti : TE} {t : TSet} (ho : PE X o to) (hi : PE X i ti) (hs : PSet X t)
    (ha : ∀ v, assign (.Subscript o i pos) X.env v = (do
      let ov ← holding [v] (eval o X.env)
      let iv ← holding [v, ov] (eval i X.env)
      standAt pos
      holding [v, ov, iv] (setItem ov iv v)
      release [v, ov, iv] []) := by intro _; rfl) : PG X (.Subscript o i pos) (gSub to ti t) := by
  intro pins s σ H v u Q I r h
  rw [ha]
  refine wpAny_bind (wpAny_holding (thn (ho pins s σ H _ I h) fun ov s1 ⟨x, H1, I1, r1, q1⟩ => ?_))
  refine wpAny_bind (wpAny_holding (thn (hi pins s1 σ H1 _ I1 q1) fun iv s2 ⟨y, H2, I2, r2, q2⟩ => ?_))
  refine wpAny_bind (wpAny_standAt (wpAny_bind (wpAny_holding (thn (hs pins s2 σ H2 x y v ov iv u _ I2 r1 r2 r q2) fun _ s3 ⟨H3, I3, q3⟩ => ?_))))
  exact wpAny_release ⟨σ, H3, I3, q3⟩
/-- target = value -/
def tAsg (te : TE) (g : TG) : TS := fun D σ H => te σ H fun x H1 => g x σ H1 D.nx
theorem ps_asg {tg e : Expr} {te : TE} {g : TG} (he : PE X e te) (hg : PG X tg g) (hs : swapsWithSole [tg] e pos.line X.env = pure false := by rfl) (hw : swappedStores [tg] e X.env = pure none := by rfl)
    (h1 : (assignEach [tg] X.env).map (·.2) = [assign tg X.env] := by rfl) : PS X (.Assign [tg] e pos) (tAsg te g) := by
  intro pins s σ H D I h
  refine wpAny_Assign_stores (thn (he pins s σ H _ I h) fun v s1 ⟨x, H1, I1, r1, q1⟩ => ?_) hs hw
  rw [h1]
  exact thn (hg pins s1 σ H1 x v _ I1 r1 q1) fun _ s2 q => q
/-- name = value -/
theorem ps_set {i : Nat} {x : Str} {e : Expr} {te : TE} {pos' : Pos} (hN : X.N.Nodup) (hi : X.N[i]? = some x) (hx : Loc X.env.scope x) (he : PE X e te) (hs : swapsWith e (some (.Name x pos')) pos.line X.env = pure false := by rfl) (hf : X.fn x = true ∨ X.env.scope.names.lookup x = some .local := by first | exact .inl rfl | exact .inr rfl | assumption) :
    PS X (.Assign [.Name x pos'] e pos) (tAsg te (gName i)) := by
  intro pins s σ H D I h
  refine wpAny_Assign_Name (thn (he pins s σ H _ I h) fun v s1 ⟨y, H1, I1, r1, q1⟩ => ?_) hs
  exact store_ok I1 hN hi hx r1 (fun s2 I2 => ⟨_, H1, I2, q1⟩) hf
end

/-! ### while -/
section
variable {X : Cx} {pos : Pos}
/-- the invariant W with its measure -/
def tWhile (c : TT) (tb : TS) : TS := fun D σ H => ∃ W : Nat → St → Hp → Prop, (∃ m, W m σ H) ∧ ∀ m σ H, W m σ H →
  c σ H fun b H1 => if b = true then ∃ N : St → Hp → Prop, (∀ σ' H', N σ' H' → ∃ m', m' < m ∧ W m' σ' H') ∧ tb { D with nx := N, ct := N, bk := D.nx } σ H1 else D.nx σ H1
theorem ps_while {c : Expr} {body : List Stmt} {tc : TT} {tb : TS} (hp : PassesOwn (model X.prog X.w) X.A X.env X.xe) (hc : PT X c tc) (hb : PSs X body tb) : PS X (.While c body [] pos) (tWhile tc tb) := by
  intro pins s σ H D I h
  obtain ⟨W, ⟨m0, w0⟩, turn⟩ := h
  refine wpAny_While (codeAny_whileLoop (fun n s' => ∃ σ' H', Inv X pins σ' H' s' ∧ W n σ' H') ?_ m0 ⟨σ, H, I, w0⟩)
  rintro n s1 ⟨σ1, H1, I1, w1⟩
  refine wpAny_passesOwn hp (thn (hc pins s1 σ1 H1 _ I1 (turn n σ1 H1 w1)) fun b s2 ⟨H2, I2, q2⟩ => ?_)
  cases b with
  | true =>
    obtain ⟨N, hN, q2⟩ := q2
    rw [if_pos rfl]
    refine wpAny_passesOwn hp (thn (hb pins s2 σ1 H2 _ I2 q2) fun f s3 q3 => ?_)
    cases f with
    | next =>
      obtain ⟨σ3, H3, I3, n3⟩ := q3
      obtain ⟨m', hm, w3⟩ := hN σ3 H3 n3
      exact ⟨m', hm, σ3, H3, I3, w3⟩
    | cont =>
      obtain ⟨σ3, H3, I3, n3⟩ := q3
      obtain ⟨m', hm, w3⟩ := hN σ3 H3 n3
      exact ⟨m', hm, σ3, H3, I3, w3⟩
    | brk => exact q3
    | ret v => exact q3
  | false =>
    rw [if_neg Bool.false_ne_true]
    exact wpAny_execs_nil ⟨σ1, H2, I2, q2⟩
end

/-! ### what a loop or a comprehension walks -/
/-- at turn i: it yields x (the heap may grow), or it stops -/
structure It where
  go : Nat → Hp → Prop
  yld : Nat → Hp → V → Hp → Prop
  stop : Nat → Hp → Prop
/-- the iterator's own objects may turn: they are not the frame's, not pinned, younger than the entry (or a comprehension's own) -/
def FpOk (X : Cx) (pins : List (Addr × Obj)) (H : Hp) (b : Addr) : Prop :=
  H b = none ∧ b ≠ X.env.locals ∧ b ∉ X.fs ∧ (b ∈ X.ex ∨ X.s₀.heap.objs.size ≤ b) ∧ (∀ x c, X.env.cells.lookup x = some c → c ≠ b) ∧ ∀ p ∈ X.pn ++ pins, p.1 ≠ b
theorem Inv.fpOk {X : Cx} {pins : List (Addr × Obj)} {σ : St} {H H' : Hp} {s : Shared} {b : Addr} (I : Inv X pins σ H s) (hb : s.heap.objs.size ≤ b) (hn : H' b = none) : FpOk X pins H' b := by
  refine ⟨hn, Nat.ne_of_gt (Nat.lt_of_lt_of_le I.lt hb), I.nofs hb, .inr (Nat.le_trans I.sz hb), fun x c e z => ?_, fun p hp z => ?_⟩
  · obtain ⟨v, q⟩ := I.cell x c e
    exact absurd (Nat.lt_of_lt_of_le q.lt (by rw [z]; exact hb)) (Nat.lt_irrefl _)
  · exact absurd (Nat.lt_of_lt_of_le (Heap.lt_size (I.pin p hp).1) (by rw [z]; exact hb)) (Nat.lt_irrefl _)
structure Turn (P : Program) (w : World) (K : PySem.W.Frag) (tg : Expr) (J : It) (fp : List Addr) (it : Addr) (tn : Nat → Heap → Prop) : Prop where
  mem : it ∈ fp
  obj : ∀ i h, tn i h → ∀ b ∈ fp, ∃ o, h.get? b = some o ∧ ∀ v, o.data ≠ .cell v
  keep : ∀ i h h', tn i h → (∀ b ∈ fp, ∀ o, h.get? b = some o → h'.get? b = some o) → tn i h'
  item : ∀ (X : Cx), X.prog = P → X.w = w → X.K = K → X.calm = true → ∀ (i : Nat) (pins : List (Addr × Obj)) (s : Shared) (σ : St) (H : Hp) (E : Value → Shared → Prop), Inv X pins σ H s → (∀ b ∈ fp, FpOk X pins H b) → tn i s.heap → J.go i H →
    wpAny (model P w) X.A (pyNext (.ref it)) (fun r s1 => ∃ u, r = some u ∧
      wpAny (model P w) X.A (letOwnedTupleGo tg (.ref it) u) (fun _ s2 => ∃ x H', Inv X pins σ H' s2 ∧ RelV x u ∧ J.yld i H x H' ∧ tn (i + 1) s2.heap ∧ ∀ b ∈ fp, H' b = none) E s1) E s
  done : ∀ (X : Cx), X.prog = P → X.w = w → X.K = K → X.calm = true → ∀ (i : Nat) (pins : List (Addr × Obj)) (s : Shared) (σ : St) (H : Hp) (E : Value → Shared → Prop), Inv X pins σ H s → (∀ b ∈ fp, FpOk X pins H b) → tn i s.heap → J.stop i H →
    wpAny (model P w) X.A (pyNext (.ref it)) (fun r s1 => r = none ∧ Inv X pins σ H s1) E s
  self : ∀ (A : Around) (i : Nat) (s : Shared) (Q : Value → Shared → Prop) (E : Value → Shared → Prop), tn i s.heap → Q (.ref it) s → wpAny (model P w) A (pyIter (.ref it)) Q E s
abbrev TI := St → Hp → (It → Hp → Prop) → Prop
/-- an iterator has come -/
def PIE (X : Cx) (pins : List (Addr × Obj)) (σ : St) (tg : Expr) (R : It → Hp → Prop) (itv : Value) (s2 : Shared) : Prop :=
  ∃ (it : Addr) (fp : List Addr) (tn : Nat → Heap → Prop) (J : It) (H' : Hp), itv = .ref it ∧ Inv X pins σ H' s2 ∧ Turn X.prog X.w X.K tg J fp it tn ∧ tn 0 s2.heap ∧ (∀ b ∈ fp, FpOk X pins H' b) ∧ R J H'
def PI (X : Cx) (tg iter : Expr) (wi : TI) : Prop :=
  ∀ (pins : List (Addr × Obj)) (s : Shared) (σ : St) (H : Hp) (R : It → Hp → Prop), Inv X pins σ H s → wi σ H R →
    wpAny (model X.prog X.w) X.A (eval iter X.env) (fun v s1 => wpAny (model X.prog X.w) X.A (pyIter v) (PIE X pins σ tg R) X.xe s1) X.xe s

/-- the step ahead of the store is nothing for an iterator that keeps no tuple -/
theorem go_of {M : Model} {A : Around} {E : Value → Shared → Prop} {s : Shared} {tg : Expr} {it : Addr} {u : Value} {o : Obj} {n : String} {vs : Array Value} {Q : Unit → Shared → Prop} (ho : s.heap.get? it = some o) (hc : o.cls = .type n) (hd : o.data = .fields vs)
    (hn : ["enumerate", "zip", "dict_itemiterator", "dict_reverseitemiterator", "odict_iterator", "itertools.zip_longest", "itertools.pairwise"].contains n = false) (hQ : Q () s) : wpAny M A (letOwnedTupleGo tg (.ref it) u) Q E s := by
  unfold letOwnedTupleGo
  cases tg <;> first
    | exact wpAny_pure hQ
    | (cases u <;> first
        | exact wpAny_pure hQ
        | (refine wpAny_bind (wpAny_load ho ?_)
           rw [hc, hd]
           show wpAny M A (if (["enumerate", "zip", "dict_itemiterator", "dict_reverseitemiterator", "odict_iterator", "itertools.zip_longest", "itertools.pairwise"].contains n && vs[0]? == some (rawInt _)) = true then _ else _) Q E s
           rw [if_neg (by intro h; rw [hn, Bool.false_and] at h; cases h)]
           exact wpAny_pure hQ))

/-- the list at a, as it stands at each turn (a loop may append to it) -/
def Itl (K : PySem.W.Frag) (a : Addr) : It :=
  ⟨fun i H => ∃ xs x, SqL K H a xs ∧ xs[i]? = some x, fun i H x H' => H' = H ∧ ∀ xs, SqL K H a xs → xs[i]? = some x, fun i H => ∃ xs, SqL K H a xs ∧ xs.length ≤ i⟩
def Itt (K : PySem.W.Frag) (a : Addr) : It :=
  ⟨fun i H => ∃ xs x, SqT K H a xs ∧ xs[i]? = some x, fun i H x H' => H' = H ∧ ∀ xs, SqT K H a xs → xs[i]? = some x, fun i H => ∃ xs, SqT K H a xs ∧ xs.length ≤ i⟩
/-- lo, lo + 1, .. (n of them) -/
def Itr (lo : Int) (n : Nat) : It := ⟨fun i _ => i < n, fun i H x H' => H' = H ∧ x = .int (lo + i), fun i _ => n ≤ i⟩
theorem turn_list {P : Program} {w : World} {K : PySem.W.Frag} {tg : Expr} (a it : Addr) : Turn P w K tg (Itl K a) [it] it (fun i h => h.IsListIter it a i) where
  mem := by simp
  obj := fun i h st b hb => by
    have e : b = it := by simpa using hb
    subst e
    obtain ⟨o, e, c, d⟩ := st
    exact ⟨o, e, fun v z => by rw [d] at z; cases z⟩
  keep := fun i h h' st k => st.at fun o e => k it (by simp) o e
  item := by
    intro X hP hw hK hc i pins s σ H E I hf st hg
    subst hP hw hK
    obtain ⟨xs, x, hq, hx⟩ := hg
    obtain ⟨its, rv, p, hz⟩ := I.list hq
    obtain ⟨u, hu, ru⟩ := rv.get hx
    obtain ⟨f0, f1, f2, f3, f4, f5⟩ := hf it (by simp)
    refine wpAny_pyNext_list_item st p.isList (x := u) (by simpa using hu) fun h' st' sb => ?_
    have I1 : Inv X pins σ H { s with heap := h' } := I.turned (t' := s.toks) (fun b o hb e => (sb.2 b hb).trans e) f0 f1 f3 f4 f5
    obtain ⟨o, e, c, d⟩ := id st'
    exact ⟨u, rfl, go_of (s := { s with heap := h' }) e c d (by decide) ⟨x, H, I1, ru, ⟨rfl, fun ys hy => by rw [I.list_inj hy hq]; exact hx⟩, st', fun b hb => (hf b hb).1⟩⟩
  done := by
    intro X hP hw hK hc i pins s σ H E I hf st hg
    subst hP hw hK
    obtain ⟨xs, hq, hx⟩ := hg
    obtain ⟨its, rv, p, hz⟩ := I.list hq
    obtain ⟨f0, f1, f2, f3, f4, f5⟩ := hf it (by simp)
    have hl := rv.length
    exact wpAny_pyNext_list_end (I.ok.hd hc) st p.isList (by simp; omega) fun h' eb => ⟨rfl, I.turned (t' := s.toks) (fun b o hb e => eb b o hb e) f0 f1 f3 f4 f5⟩
  self := fun _ _ _ _ _ st h => wpAny_pyIter_listiter st h
theorem turn_tuple {P : Program} {w : World} {K : PySem.W.Frag} {tg : Expr} (a it : Addr) : Turn P w K tg (Itt K a) [it] it (fun i h => h.IsTupleIter it a i) where
  mem := by simp
  obj := fun i h st b hb => by
    have e : b = it := by simpa using hb
    subst e
    obtain ⟨o, e, c, d⟩ := st
    exact ⟨o, e, fun v z => by rw [d] at z; cases z⟩
  keep := fun i h h' st k => st.at fun o e => k it (by simp) o e
  item := by
    intro X hP hw hK hc i pins s σ H E I hf st hg
    subst hP hw hK
    obtain ⟨xs, x, hq, hx⟩ := hg
    obtain ⟨its, rv, p, hz⟩ := I.tuple hq
    obtain ⟨u, hu, ru⟩ := rv.get hx
    obtain ⟨f0, f1, f2, f3, f4, f5⟩ := hf it (by simp)
    refine wpAny_pyNext_tuple_item st (show s.heap.IsTuple a its.toArray from p) (x := u) (by simpa using hu) fun h' st' sb => ?_
    have I1 : Inv X pins σ H { s with heap := h' } := I.turned (t' := s.toks) (fun b o hb e => (sb.2 b hb).trans e) f0 f1 f3 f4 f5
    obtain ⟨o, e, c, d⟩ := id st'
    exact ⟨u, rfl, go_of (s := { s with heap := h' }) e c d (by decide) ⟨x, H, I1, ru, ⟨rfl, fun ys hy => by rw [I.tuple_inj hy hq]; exact hx⟩, st', fun b hb => (hf b hb).1⟩⟩
  done := by
    intro X hP hw hK hc i pins s σ H E I hf st hg
    subst hP hw hK
    obtain ⟨xs, hq, hx⟩ := hg
    obtain ⟨its, rv, p, hz⟩ := I.tuple hq
    obtain ⟨f0, f1, f2, f3, f4, f5⟩ := hf it (by simp)
    have hl := rv.length
    exact wpAny_pyNext_tuple_end (I.ok.hd hc) st (show s.heap.IsTuple a its.toArray from p) (by simp; omega) fun h' eb => ⟨rfl, I.turned (t' := s.toks) (fun b o hb e => eb b o hb e) f0 f1 f3 f4 f5⟩
  self := fun _ _ _ _ _ st h => wpAny_pyIter_tupleiter st h
theorem turn_range {P : Program} {w : World} {K : PySem.W.Frag} {tg : Expr} (it : Addr) (lo : Int) (n : Nat) : Turn P w K tg (Itr lo n) [it] it (fun i h => IsRangeIter h it (lo + (i : Nat) * 1) ((n : Int) - (i : Nat)) 1) where
  mem := by simp
  obj := fun i h st b hb => by
    have e : b = it := by simpa using hb
    subst e
    exact ⟨_, st, fun v z => by
      have z' : Data.fields _ = Data.cell v := z
      cases z'⟩
  keep := fun i h h' st k => k it (by simp) _ st
  item := by
    intro X hP hw hK hc i pins s σ H E I hf st hg
    subst hP hw hK
    obtain ⟨f0, f1, f2, f3, f4, f5⟩ := hf it (by simp)
    have W := Walks.range (prog := X.prog) (w := X.w) (I.ok.hd hc) it lo 1 n
    refine W.item i s _ _ hg st fun v h' tk hv st' kk => ?_
    obtain ⟨t, rfl⟩ := hv
    have I1 : Inv X pins σ H { s with heap := h', toks := tk } := I.turned (fun b o hb e => kk b o (by simpa using hb) e) f0 f1 f3 f4 f5
    refine ⟨_, rfl, go_of (s := { s with heap := h', toks := tk }) (n := "range_iterator") st' rfl rfl (by decide) ⟨.int (lo + i), H, I1, ⟨t, ?_⟩, ⟨rfl, rfl⟩, st', fun b hb => (hf b hb).1⟩⟩
    rw [Int.mul_one]
  done := by
    intro X hP hw hK hc i pins s σ H E I hf st hg
    subst hP hw hK
    obtain ⟨f0, f1, f2, f3, f4, f5⟩ := hf it (by simp)
    exact wpAny_pyNext_range_end (I.ok.hd hc) st (by have : n ≤ i := hg; omega) fun h' eb => ⟨rfl, I.turned (t' := s.toks) (fun b o hb e => eb b o hb e) f0 f1 f3 f4 f5⟩
  self := fun _ _ _ _ _ st h => wpAny_pyIter_rangeiter st h
end L2

namespace L2
open PySem PySem.Spec PyProof.Rows
section
variable {X : Cx} {tg : Expr}
def iList (K : PySem.W.Frag) (tl : TE) : TI := fun σ H R => tl σ H fun x H1 => ∃ a, x = .ref a ∧ (∃ xs, SqL K H1 a xs) ∧ R (Itl K a) H1
def iTup (K : PySem.W.Frag) (tl : TE) : TI := fun σ H R => tl σ H fun x H1 => ∃ a, x = .ref a ∧ (∃ xs, SqT K H1 a xs) ∧ R (Itt K a) H1
theorem pi_list {l : Expr} {tl : TE} (hl : PE X l tl) : PI X tg l (iList X.K tl) := by
  intro pins s σ H R I h
  refine thn (hl pins s σ H _ I h) fun v s1 ⟨x, H1, I1, r1, q1⟩ => ?_
  obtain ⟨a, e, ⟨xs, hq⟩, q⟩ := q1
  subst e
  cases r1
  obtain ⟨its, rv, p, hz⟩ := I1.list hq
  refine wpAny_pyIter_list p.isList ?_
  refine ⟨s1.heap.objs.size, [s1.heap.objs.size], _, _, H1, rfl, I1.kept (t' := s1.toks) fun b o e => Heap.get?_push_of_some _ e, turn_list a _, ⟨_, Heap.get?_push_size _ rfl, rfl, rfl⟩, fun b hb => ?_, q⟩
  have e : b = s1.heap.objs.size := by simpa using hb
  subst e
  exact I1.fpOk (Nat.le_refl _) (I1.hok.fresh (Nat.le_refl _))
theorem pi_tup {l : Expr} {tl : TE} (hl : PE X l tl) : PI X tg l (iTup X.K tl) := by
  intro pins s σ H R I h
  refine thn (hl pins s σ H _ I h) fun v s1 ⟨x, H1, I1, r1, q1⟩ => ?_
  obtain ⟨a, e, ⟨xs, hq⟩, q⟩ := q1
  subst e
  cases r1
  obtain ⟨its, rv, p, hz⟩ := I1.tuple hq
  refine wpAny_pyIter_tuple (show s1.heap.IsTuple a its.toArray from p) ?_
  refine ⟨s1.heap.objs.size, [s1.heap.objs.size], _, _, H1, rfl, I1.kept (t' := s1.toks) fun b o e => Heap.get?_push_of_some _ e, turn_tuple a _, ⟨_, Heap.get?_push_size _ rfl, rfl, rfl⟩, fun b hb => ?_, q⟩
  have e : b = s1.heap.objs.size := by simpa using hb
  subst e
  exact I1.fpOk (Nat.le_refl _) (I1.hok.fresh (Nat.le_refl _))
/-- a range object just made, walked -/
theorem range_it {pins : List (Addr × Obj)} {σ : St} {H : Hp} {s : Shared} {R : It → Hp → Prop} {E : Value → Shared → Prop} {lo hi : Int} {t u v : Tok} {tk : Nat} (I : Inv X pins σ H s) (h1 : -(2 ^ 62) ≤ lo) (h2 : lo < 2 ^ 62) (h3 : -(2 ^ 62) ≤ hi) (h4 : hi < 2 ^ 62)
    (q : R (Itr lo (hi - lo).toNat) H) : wpAny (model X.prog X.w) X.A (pyIter (.ref s.heap.objs.size)) (PIE X pins σ tg R) E { s with heap := s.heap.push { cls := .type "range", data := .fields #[.int lo t, .int hi u, .int 1 v] }, toks := tk } := by
  refine wpAny_pyIter_range (IsRange.new ..) (small_one h1 h2 h3 h4) ?_
  have I1 : Inv X pins σ H { s with heap := s.heap.push { cls := .type "range", data := .fields #[.int lo t, .int hi u, .int 1 v] }, toks := tk } := I.kept fun b o e => Heap.get?_push_of_some _ e
  refine ⟨(s.heap.push { cls := .type "range", data := .fields #[.int lo t, .int hi u, .int 1 v] }).objs.size, [(s.heap.push { cls := .type "range", data := .fields #[.int lo t, .int hi u, .int 1 v] }).objs.size], _, _, H, rfl,
    I1.kept (t' := tk) fun b o e => Heap.get?_push_of_some _ e, turn_range _ lo (hi - lo).toNat, ?_, fun b hb => ?_, q⟩
  · have e1 : lo + ((0 : Nat) : Int) * 1 = lo := by simp
    have e2 : (((hi - lo).toNat : Nat) : Int) - ((0 : Nat) : Int) = Builtin.Range.rangeSize lo hi 1 := by rw [rangeSize_one]; split <;> omega
    show IsRangeIter _ _ (lo + ((0 : Nat) : Int) * 1) ((((hi - lo).toNat : Nat) : Int) - ((0 : Nat) : Int)) 1
    rw [e1, e2]
    exact Heap.get?_push_size _ rfl
  · have e : b = (s.heap.push { cls := .type "range", data := .fields #[.int lo t, .int hi u, .int 1 v] }).objs.size := by simpa using hb
    subst e
    exact I1.fpOk (Nat.le_refl _) (I1.hok.fresh (Nat.le_refl _))
def iRng1 (ta : TA) : TI := fun σ H R => ta σ H fun vs H1 => ∃ j : Int, vs = [.int j] ∧ -(2 ^ 62) ≤ j ∧ j < 2 ^ 62 ∧ R (Itr 0 j.toNat) H1
def iRng2 (ta : TA) : TI := fun σ H R => ta σ H fun vs H1 => ∃ i j : Int, vs = [.int i, .int j] ∧ (-(2 ^ 62) ≤ i ∧ i < 2 ^ 62 ∧ -(2 ^ 62) ≤ j ∧ j < 2 ^ 62) ∧ R (Itr i (j - i).toNat) H1
theorem pi_range1 {a : Expr} {ta : TA} {p pos : Pos} (hg : Gl X "range") (hm : X.mg "range" = none) (ha : PA X [a] ta) (hs : starEach [a] X.env = [(false, eval a X.env)] := by rfl) : PI X tg (.Call (.Name "range" p) [a] [] pos) (iRng1 ta) := by
  intro pins s σ H R I h
  refine Call_ (ld_blt I hg hm boot_range (PyProof.Rows.callWith_type1 (thn (ha pos pins s σ H _ I h) fun us s1 ⟨vs, H1, I1, r1, q1⟩ => ?_) hs rfl))
  obtain ⟨j, e, q1, q2, q⟩ := q1
  subst e
  cases r1 with
  | cons r rr =>
    cases rr
    obtain ⟨t, rfl⟩ := r
    exact call_range_1 (range_it I1 (by omega) (by omega) q1 q2 (by simpa using q))
theorem pi_range2 {a b : Expr} {ta : TA} {p pos : Pos} (hg : Gl X "range") (hm : X.mg "range" = none) (ha : PA X [a, b] ta) (hs : starEach [a, b] X.env = [(false, eval a X.env), (false, eval b X.env)] := by rfl) (hs2 : starEach [b] X.env = [(false, eval b X.env)] := by rfl) :
    PI X tg (.Call (.Name "range" p) [a, b] [] pos) (iRng2 ta) := by
  intro pins s σ H R I h
  refine Call_ (ld_blt I hg hm boot_range (PyProof.Rows.callWith_type1 (thn (ha pos pins s σ H _ I h) fun us s1 ⟨vs, H1, I1, r1, q1⟩ => ?_) (by rw [hs, hs2]) (by rw [hs2]; rfl)))
  obtain ⟨i, j, e, ⟨q1, q2, q3, q4⟩, q⟩ := q1
  subst e
  cases r1 with
  | cons r rr =>
    cases rr with
    | cons r' rr =>
      cases rr
      obtain ⟨t, rfl⟩ := r
      obtain ⟨t', rfl⟩ := r'
      exact call_range_2 (range_it I1 q1 q2 q3 q4 q)

/-! ### for -/
/-- W: the invariant by the turn and a measure; N: what the body is to reach -/
def tFor (wi : TI) (g : TG) (tb : TS) : TS := fun D σ H => wi σ H fun J H1 => ∃ W : Nat → Nat → St → Hp → Prop, (∃ m, W 0 m σ H1) ∧ ∀ i m σ H, W i m σ H →
  (J.stop i H ∧ D.nx σ H) ∨ (J.go i H ∧ ∃ N : St → Hp → Prop, (∀ σ' H', N σ' H' → ∃ m', m' < m ∧ W (i + 1) m' σ' H') ∧ ∀ x H', J.yld i H x H' → g x σ H' fun σ2 H2 => tb { D with nx := N, ct := N, bk := D.nx } σ2 H2)
/-- the records at fp as they stand -/
def pinsAt (fp : List Addr) (h : Heap) : List (Addr × Obj) := fp.filterMap fun b => (h.get? b).map fun o => (b, o)
theorem mem_pinsAt {fp : List Addr} {h : Heap} {b : Addr} {o : Obj} (hb : b ∈ fp) (e : h.get? b = some o) : (b, o) ∈ pinsAt fp h := List.mem_filterMap.mpr ⟨b, hb, by rw [e]; rfl⟩
theorem of_pinsAt {fp : List Addr} {h : Heap} {p : Addr × Obj} (hp : p ∈ pinsAt fp h) : p.1 ∈ fp ∧ h.get? p.1 = some p.2 := by
  obtain ⟨b, hb, e⟩ := List.mem_filterMap.mp hp
  cases q : h.get? b with
  | none => rw [q] at e; cases e
  | some o =>
    rw [q] at e
    have e' : (b, o) = p := Option.some.inj e
    subst e'
    exact ⟨hb, q⟩
theorem Inv.pinned {pins : List (Addr × Obj)} {σ : St} {H : Hp} {s : Shared} {fp : List Addr} (I : Inv X pins σ H s) (hf : ∀ b ∈ fp, FpOk X pins H b) (ho : ∀ b ∈ fp, ∃ o, s.heap.get? b = some o ∧ ∀ v, o.data ≠ .cell v) : Inv X (pins ++ pinsAt fp s.heap) σ H s :=
  I.pins_of fun p hp => (List.mem_append.mp hp).elim (fun z => I.pin p (List.mem_append_right _ z)) fun z => by
    obtain ⟨hb, e⟩ := of_pinsAt z
    obtain ⟨f0, f1, f2, _⟩ := hf p.1 hb
    obtain ⟨o, e', d⟩ := ho p.1 hb
    rw [e] at e'; cases e'
    exact ⟨e, f0, f1, f2, d⟩
theorem Inv.unpinned {pins pl : List (Addr × Obj)} {σ : St} {H : Hp} {s : Shared} (I : Inv X (pins ++ pl) σ H s) : Inv X pins σ H s := I.pins_of fun p hp => I.pin p (List.mem_append_right _ (List.mem_append_left _ hp))
theorem ps_for {iter : Expr} {body : List Stmt} {wi : TI} {g : TG} {tb : TS} {pos : Pos} (hp : PassesOwn (model X.prog X.w) X.A X.env X.xe) (hc : X.calm = true) (hi : PI X tg iter wi) (hg : PG X tg g) (hb : PSs X body tb)
    (hs : ∀ x, foldedSetIterable iter X.env x = pure x := by intro _; rfl) : PS X (.For tg iter body [] pos) (tFor wi g tb) := by
  intro pins s σ H D I h
  refine wpAny_For (thn (hi pins s σ H _ I h) fun v s1 h1 => thn h1 fun itv s2 h2 => ?_) hs
  obtain ⟨it, fp, tn, J, H2, e, I2, T, st2, f2, W, ⟨m0, w0⟩, turn⟩ := h2
  subst e
  -- what stays true of the iterator's objects through the loop
  have stat : ∀ {H' : Hp}, (∀ b ∈ fp, H' b = none) → ∀ b ∈ fp, FpOk X pins H' b := fun hn b hb => ⟨hn b hb, (f2 b hb).2⟩
  refine codeAny_forLoop_any (fun n s' => ∃ i σ' H', Inv X pins σ' H' s' ∧ tn i s'.heap ∧ (∀ b ∈ fp, H' b = none) ∧ W i n σ' H') ?_ m0 ⟨0, σ, H2, I2, st2, fun b hb => (f2 b hb).1, w0⟩
  rintro n s3 ⟨i, σ3, H3, I3, st3, fr3, w3⟩
  rcases turn i n σ3 H3 w3 with ⟨stop, qn⟩ | ⟨go, N, hN, step⟩
  · refine wpAny_passesOwn hp (thn (T.done X rfl rfl rfl hc i pins s3 σ3 H3 X.xe I3 (stat fr3) st3 stop) fun r s4 ⟨hr, I4⟩ => ?_)
    subst hr
    exact wpAny_execs_nil ⟨σ3, H3, I4, qn⟩
  · refine wpAny_passesOwn hp (thn (T.item X rfl rfl rfl hc i pins s3 σ3 H3 X.xe I3 (stat fr3) st3 go) fun r s4 ⟨u, hr, h4⟩ => ?_)
    subst hr
    refine wpAny_passesOwn hp (thn h4 fun _ s5 ⟨x, H5, I5, r5, y5, st5, fr5⟩ => ?_)
    have I5' := I5.pinned (stat fr5) (T.obj _ _ st5)
    refine wpAny_passesOwn hp (thn (hg _ s5 σ3 H5 x u _ I5' r5 (step x H5 y5)) fun _ s6 ⟨σ6, H6, I6, q6⟩ => ?_)
    refine wpAny_passesOwn hp (thn (hb _ s6 σ6 H6 _ I6 q6) fun f s7 q7 => ?_)
    have again : ∀ {σ7 : St} {H7 : Hp}, Inv X (pins ++ pinsAt fp s5.heap) σ7 H7 s7 → N σ7 H7 → ∃ m, m < n ∧ ∃ i σ' H', Inv X pins σ' H' s7 ∧ tn i s7.heap ∧ (∀ b ∈ fp, H' b = none) ∧ W i m σ' H' := fun {σ7 H7} I7 n7 => by
      obtain ⟨m', hm, w7⟩ := hN σ7 H7 n7
      refine ⟨m', hm, i + 1, σ7, H7, I7.unpinned, T.keep _ _ _ st5 fun b hb o e => (I7.pin (b, o) (List.mem_append_right _ (List.mem_append_right _ (mem_pinsAt hb e)))).1, fun b hb => ?_, w7⟩
      obtain ⟨o, e, d⟩ := T.obj _ _ st5 b hb
      exact (I7.pin (b, o) (List.mem_append_right _ (List.mem_append_right _ (mem_pinsAt hb e)))).2.1
    cases f with
    | next => obtain ⟨σ7, H7, I7, n7⟩ := q7; exact again I7 n7
    | cont => obtain ⟨σ7, H7, I7, n7⟩ := q7; exact again I7 n7
    | brk => obtain ⟨σ7, H7, I7, q7⟩ := q7; exact ⟨σ7, H7, I7.unpinned, q7⟩
    | ret v => obtain ⟨x7, σ7, H7, I7, r7, q7⟩ := q7; exact ⟨x7, σ7, H7, I7.unpinned, r7, q7⟩
end

/-! ### the forms one uses -/
/-- over a list that the body leaves as it is -/
theorem for_list {K : PySem.W.Frag} {a : Addr} {xs : List V} {g : TG} {tb : TS} {D : Ends} {σ : St} {H : Hp} (Pv : Nat → St → Hp → Prop) (h0 : Pv 0 σ H) (hl : ∀ i σ H, i ≤ xs.length → Pv i σ H → SqL K H a xs)
    (hs : ∀ i x σ H, xs[i]? = some x → Pv i σ H → g x σ H fun σ2 H2 => tb { D with nx := Pv (i + 1), ct := Pv (i + 1), bk := D.nx } σ2 H2) (hd : ∀ σ H, Pv xs.length σ H → D.nx σ H) :
    ∃ W : Nat → Nat → St → Hp → Prop, (∃ m, W 0 m σ H) ∧ ∀ i m σ H, W i m σ H →
      ((Itl K a).stop i H ∧ D.nx σ H) ∨ ((Itl K a).go i H ∧ ∃ N : St → Hp → Prop, (∀ σ' H', N σ' H' → ∃ m', m' < m ∧ W (i + 1) m' σ' H') ∧ ∀ x H', (Itl K a).yld i H x H' → g x σ H' fun σ2 H2 => tb { D with nx := N, ct := N, bk := D.nx } σ2 H2) := by
  refine ⟨fun i m σ H => m = xs.length - i ∧ i ≤ xs.length ∧ Pv i σ H, ⟨xs.length, by simp, Nat.zero_le _, h0⟩, ?_⟩
  rintro i m σ H ⟨rfl, hi, p⟩
  have q := hl i σ H hi p
  by_cases hlt : i < xs.length
  · refine .inr ⟨⟨xs, xs[i], q, by simp [hlt]⟩, Pv (i + 1), fun σ' H' p' => ⟨xs.length - (i + 1), by omega, rfl, hlt, p'⟩, fun x H' y => ?_⟩
    obtain ⟨e, y⟩ := y
    subst e
    exact hs i x σ _ (y xs q) p
  · have e : i = xs.length := by omega
    subst e
    exact .inl ⟨⟨xs, q, Nat.le_refl _⟩, hd σ H p⟩
theorem for_tup {K : PySem.W.Frag} {a : Addr} {xs : List V} {g : TG} {tb : TS} {D : Ends} {σ : St} {H : Hp} (Pv : Nat → St → Hp → Prop) (h0 : Pv 0 σ H) (hl : ∀ i σ H, i ≤ xs.length → Pv i σ H → SqT K H a xs)
    (hs : ∀ i x σ H, xs[i]? = some x → Pv i σ H → g x σ H fun σ2 H2 => tb { D with nx := Pv (i + 1), ct := Pv (i + 1), bk := D.nx } σ2 H2) (hd : ∀ σ H, Pv xs.length σ H → D.nx σ H) :
    ∃ W : Nat → Nat → St → Hp → Prop, (∃ m, W 0 m σ H) ∧ ∀ i m σ H, W i m σ H →
      ((Itt K a).stop i H ∧ D.nx σ H) ∨ ((Itt K a).go i H ∧ ∃ N : St → Hp → Prop, (∀ σ' H', N σ' H' → ∃ m', m' < m ∧ W (i + 1) m' σ' H') ∧ ∀ x H', (Itt K a).yld i H x H' → g x σ H' fun σ2 H2 => tb { D with nx := N, ct := N, bk := D.nx } σ2 H2) := by
  refine ⟨fun i m σ H => m = xs.length - i ∧ i ≤ xs.length ∧ Pv i σ H, ⟨xs.length, by simp, Nat.zero_le _, h0⟩, ?_⟩
  rintro i m σ H ⟨rfl, hi, p⟩
  have q := hl i σ H hi p
  by_cases hlt : i < xs.length
  · refine .inr ⟨⟨xs, xs[i], q, by simp [hlt]⟩, Pv (i + 1), fun σ' H' p' => ⟨xs.length - (i + 1), by omega, rfl, hlt, p'⟩, fun x H' y => ?_⟩
    obtain ⟨e, y⟩ := y
    subst e
    exact hs i x σ _ (y xs q) p
  · have e : i = xs.length := by omega
    subst e
    exact .inl ⟨⟨xs, q, Nat.le_refl _⟩, hd σ H p⟩
theorem for_range {lo : Int} {n : Nat} {g : TG} {tb : TS} {D : Ends} {σ : St} {H : Hp} (Pv : Nat → St → Hp → Prop) (h0 : Pv 0 σ H)
    (hs : ∀ i σ H, i < n → Pv i σ H → g (.int (lo + i)) σ H fun σ2 H2 => tb { D with nx := Pv (i + 1), ct := Pv (i + 1), bk := D.nx } σ2 H2) (hd : ∀ σ H, Pv n σ H → D.nx σ H) :
    ∃ W : Nat → Nat → St → Hp → Prop, (∃ m, W 0 m σ H) ∧ ∀ i m σ H, W i m σ H →
      ((Itr lo n).stop i H ∧ D.nx σ H) ∨ ((Itr lo n).go i H ∧ ∃ N : St → Hp → Prop, (∀ σ' H', N σ' H' → ∃ m', m' < m ∧ W (i + 1) m' σ' H') ∧ ∀ x H', (Itr lo n).yld i H x H' → g x σ H' fun σ2 H2 => tb { D with nx := N, ct := N, bk := D.nx } σ2 H2) := by
  refine ⟨fun i m σ H => m = n - i ∧ i ≤ n ∧ Pv i σ H, ⟨n, by simp, Nat.zero_le _, h0⟩, ?_⟩
  rintro i m σ H ⟨rfl, hi, p⟩
  by_cases hlt : i < n
  · refine .inr ⟨hlt, Pv (i + 1), fun σ' H' p' => ⟨n - (i + 1), by omega, rfl, hlt, p'⟩, fun x H' y => ?_⟩
    obtain ⟨e, y⟩ := y
    subst e y
    exact hs i σ _ hlt p
  · have e : i = n := by omega
    subst e
    exact .inl ⟨Nat.le_refl _, hd σ H p⟩
end L2

namespace L2
open PySem PySem.Spec PyProof.Rows

abbrev R2 := V → V → Hp → VK → Prop
/-- a two-place operation on values: f is binaryOp op, inplaceOp op or compareOp op -/
def OpR (X : Cx) (f : Value → Value → Sem Value) (r : R2) : Prop :=
  ∀ (pins : List (Addr × Obj)) (s : Shared) (σ : St) (H : Hp) (x y : V) (v u : Value) (Q : VK), Inv X pins σ H s → RelV x v → RelV y u → r x y H Q →
    wpAny (model X.prog X.w) X.A (f v u) (EP X pins σ Q) X.xe s
/-- a call of a value that is known (a builtin, a type) with values -/
def CallR (X : Cx) (f : Value) (r : List V → Hp → VK → Prop) : Prop :=
  ∀ (pins : List (Addr × Obj)) (s : Shared) (σ : St) (H : Hp) (xs : List V) (us : List Value) (Q : VK), Inv X pins σ H s → Vals xs us → r xs H Q →
    wpAny (model X.prog X.w) X.A (call f us) (EP X pins σ Q) X.xe s
def tOp (r : R2) (ta tb : TE) : TE := fun σ H Q => ta σ H fun x H1 => tb σ H1 fun y H2 => r x y H2 Q
/-- ints in, under C, and a value out -/
def rI (C : Int → Int → Prop) (g : Int → Int → V) : R2 := fun x y H Q => ∃ i j, x = .int i ∧ y = .int j ∧ C i j ∧ Q (g i j) H
def rI0 (g : Int → Int → V) : R2 := fun x y H Q => ∃ i j, x = .int i ∧ y = .int j ∧ Q (g i j) H
section
variable {X : Cx} {a b c : Expr} {ta tb tc : TE} {pos : Pos}

theorem binT (ha : PE X a ta) (hb : PE X b tb) {pins : List (Addr × Obj)} {s : Shared} {σ : St} {H : Hp} {R : V → V → Hp → Prop} (I : Inv X pins σ H s)
    (h : ta σ H fun x H1 => tb σ H1 fun y H2 => R x y H2) {Q : Value → Shared → Prop} {f : Value → Value → Sem Value}
    (hf : ∀ v u s2 x y H2, Inv X pins σ H2 s2 → RelV x v → RelV y u → R x y H2 → wpAny (model X.prog X.w) X.A (f v u) Q X.xe s2) :
    wpAny (model X.prog X.w) X.A (eval a X.env) (fun v s₁ => wpAny (model X.prog X.w) X.A (eval b X.env) (fun u s₂ => wpAny (model X.prog X.w) X.A (f v u) Q X.xe s₂) X.xe s₁) X.xe s := by
  refine thn (ha pins s σ H _ I h) fun v s1 ⟨x, H1, I1, r1, q1⟩ => ?_
  refine thn (hb pins s1 σ H1 _ I1 q1) fun u s2 ⟨y, H2, I2, r2, q2⟩ => ?_
  exact hf v u s2 x y H2 I2 r1 r2 q2

theorem pe_op {op : Operator} {r : R2} (ho : OpR X (binaryOp op) r) (ha : PE X a ta) (hb : PE X b tb) : PE X (.BinOp a op b pos) (tOp r ta tb) := by
  intro pins s σ H Q I h
  exact wpAny_BinOp (binT ha hb I h fun v u s2 x y H2 I2 rx ry q => ho pins s2 σ H2 x y v u Q I2 rx ry q)
/-! ### ints -/
theorem opI {f : Value → Value → Sem Value} {C : Int → Int → Prop} {g : Int → Int → Int}
    (rule : ∀ (i j : Int) (t u : Tok) (s : Shared) (Q : Value → Shared → Prop) (E : Value → Shared → Prop), C i j → Q (.int (g i j) s.toks) { s with toks := s.toks + 1 } → wpAny (model X.prog X.w) X.A (f (.int i t) (.int j u)) Q E s) :
    OpR X f (rI C fun i j => .int (g i j)) := by
  intro pins s σ H x y v u Q I rx ry h
  obtain ⟨i, j, rfl, rfl, hc, q⟩ := h
  obtain ⟨t, rfl⟩ := rx
  obtain ⟨t', rfl⟩ := ry
  exact rule i j t t' s _ _ hc ⟨.int (g i j), H, I.tok _, ⟨_, rfl⟩, q⟩
theorem opI0 {f : Value → Value → Sem Value} {g : Int → Int → Int}
    (rule : ∀ (i j : Int) (t u : Tok) (s : Shared) (Q : Value → Shared → Prop) (E : Value → Shared → Prop), Q (.int (g i j) s.toks) { s with toks := s.toks + 1 } → wpAny (model X.prog X.w) X.A (f (.int i t) (.int j u)) Q E s) :
    OpR X f (rI0 fun i j => .int (g i j)) := by
  intro pins s σ H x y v u Q I rx ry h
  obtain ⟨i, j, rfl, rfl, q⟩ := h
  obtain ⟨t, rfl⟩ := rx
  obtain ⟨t', rfl⟩ := ry
  exact rule i j t t' s _ _ ⟨.int (g i j), H, I.tok _, ⟨_, rfl⟩, q⟩
theorem opB0 {f : Value → Value → Sem Value} {g : Int → Int → Bool}
    (rule : ∀ (i j : Int) (t u : Tok) (s : Shared) (Q : Value → Shared → Prop) (E : Value → Shared → Prop), Q (.bool (g i j)) s → wpAny (model X.prog X.w) X.A (f (.int i t) (.int j u)) Q E s) :
    OpR X f (rI0 fun i j => .bl (g i j)) := by
  intro pins s σ H x y v u Q I rx ry h
  obtain ⟨i, j, rfl, rfl, q⟩ := h
  obtain ⟨t, rfl⟩ := rx
  obtain ⟨t', rfl⟩ := ry
  exact rule i j t t' s _ _ ⟨.bl (g i j), H, I, rfl, q⟩

def CDiv (i j : Int) : Prop := 0 < j ∧ j < 1073741824
def CPow (i j : Int) : Prop := 0 ≤ j ∧ j ≤ 1000000 ∧ i.natAbs < 2 ^ 64
def CMul (i j : Int) : Prop := (-(2 ^ 64) < i ∧ i < 2 ^ 64) ∨ (-(2 ^ 64) < j ∧ j < 2 ^ 64)
theorem CMul.ok {i j : Int} (h : CMul i j) : IntMulOk i j := by
  rcases h with ⟨h1, h2⟩ | ⟨h1, h2⟩
  · exact .of_left (intBits_le_64 h1 h2)
  · exact .of_right (intBits_le_64 h1 h2)
theorem two_pow_nn (k : Nat) : (0 : Int) ≤ 2 ^ k := by
  rw [two_pow_cast]
  exact Int.natCast_nonneg _

theorem op_add : OpR X (binaryOp .Add) (rI0 fun i j => .int (i + j)) := opI0 fun _ _ _ _ _ _ _ q => add_int q
theorem op_mul : OpR X (binaryOp .Mult) (rI CMul fun i j => .int (i * j)) := opI fun _ _ _ _ _ _ _ hc q => mul_int q hc.ok
/-- // by a positive divisor -/
theorem op_fdiv : OpR X (binaryOp .FloorDiv) (rI CDiv fun i j => .int (i / j)) := opI fun i j _ _ _ _ _ hc q => by
  have h1 : (0 : Int) < j := hc.1
  have h2 : j < 1073741824 := hc.2
  exact floordiv_int (by omega) (by rw [Int.fdiv_eq_ediv_of_nonneg i (by omega)]; exact q) (.inl (PyProof.noPylong_small (by omega)))
/-- % by a positive divisor of any size -/
theorem op_mod : OpR X (binaryOp .Mod) (rI (fun _ j => 0 < j) fun i j => .int (i % j)) := opI fun i j _ _ _ _ _ hc q => by
  have h1 : (0 : Int) < j := hc
  exact mod_int' (by omega) (by rw [Int.fmod_eq_emod_of_nonneg i (by omega)]; exact q)
theorem op_pow : OpR X (binaryOp .Pow) (rI CPow fun i j => .int (i ^ j.toNat)) := opI fun _ _ _ _ _ _ _ hc q => pow_int_small hc.1 hc.2.1 hc.2.2 q
theorem op_shl : OpR X (binaryOp .LShift) (rI CPow fun i j => .int (i * 2 ^ j.toNat)) := opI fun _ _ _ _ _ _ _ hc q => lshift_int_small hc.1 hc.2.1 hc.2.2 q
theorem op_shr : OpR X (binaryOp .RShift) (rI (fun _ j => 0 ≤ j) fun i j => .int (i / 2 ^ j.toNat)) := opI fun i j _ _ _ _ _ hc q =>
  rshift_int hc (by rw [Int.fdiv_eq_ediv_of_nonneg i (two_pow_nn _)]; exact q)
theorem op_and : OpR X (binaryOp .BitAnd) (rI0 fun i j => .int (Builtin.bitAnd i j)) := opI0 fun _ _ _ _ _ _ _ q => and_int q
/-! ### bools among ints: n += (a < b) -/
end

/-! ### comparisons -/
/-- the scalars that == tells apart as data does -/
def scal : V → V → Bool
  | .non, .non => true | .non, .int _ => true | .int _, .non => true | .non, .bl _ => true | .bl _, .non => true | .non, .str _ => true | .str _, .non => true
  | .int _, .int _ => true | .bl _, .bl _ => true | .str _, .str _ => true | .byt _, .byt _ => true
  | .int _, .str _ => true | .str _, .int _ => true | .bl _, .str _ => true | .str _, .bl _ => true
  | _, _ => false
def rEq : R2 := fun x y H Q => scal x y = true ∧ Q (.bl (decide (x = y))) H
def rNe : R2 := fun x y H Q => scal x y = true ∧ Q (.bl (!decide (x = y))) H

theorem dec_int {i j : Int} : decide (V.int i = V.int j) = (i == j) := by
  rw [Bool.eq_iff_iff]
  simp
theorem dec_bl {i j : Bool} : decide (V.bl i = V.bl j) = (i == j) := by
  rw [Bool.eq_iff_iff]
  simp
theorem dec_str {i j : Str} : decide (V.str i = V.str j) = (i == j) := by
  rw [Bool.eq_iff_iff]
  simp
theorem dec_byt {i j : Array UInt8} : decide (V.byt i = V.byt j) = (i.toList == j.toList) := by
  rw [Bool.eq_iff_iff]
  cases i
  cases j
  simp

section
variable {X : Cx} {a b c : Expr} {ta tb tc : TE} {pos : Pos}
theorem fin_bl {pins : List (Addr × Obj)} {σ : St} {H : Hp} {s : Shared} {Q : VK} {k k' : Bool} (I : Inv X pins σ H s) (q : Q (.bl k) H) (e : k = k') : EP X pins σ Q (.bool k') s := by
  subst e
  exact ⟨.bl k, H, I, rfl, q⟩
theorem op_eq : OpR X (compareOp .Eq) rEq := by
  intro pins s σ H x y v u Q I rx ry h
  obtain ⟨hs, q⟩ := h
  cases x with
  | non =>
    cases rx
    cases y with
    | non => cases ry; exact PySem.EqNone.eq_none_none (fin_bl I q (by simp))
    | bl j => cases ry; exact PySem.EqNone.eq_none_bool (fin_bl I q (by simp))
    | int j => obtain ⟨t', rfl⟩ := ry; exact PySem.EqNone.eq_none_int (fin_bl I q (by simp))
    | str j => obtain ⟨t', rfl⟩ := ry; exact PySem.EqNone.eq_none_str (fin_bl I q (by simp))
    | _ => exact absurd (show false = true from hs) Bool.false_ne_true
  | bl i =>
    cases rx
    cases y with
    | non => cases ry; exact PySem.EqNone.eq_bool_none (fin_bl I q (by simp))
    | bl j => cases ry; exact eq_bool (fin_bl I q dec_bl)
    | str j => obtain ⟨t', rfl⟩ := ry; exact PySem.EqMixed.eq_bool_str (fin_bl I q (by simp))
    | _ => exact absurd (show false = true from hs) Bool.false_ne_true
  | int i =>
    obtain ⟨t, rfl⟩ := rx
    cases y with
    | non => cases ry; exact PySem.EqNone.eq_int_none (fin_bl I q (by simp))
    | int j => obtain ⟨t', rfl⟩ := ry; exact eq_int (fin_bl I q dec_int)
    | str j => obtain ⟨t', rfl⟩ := ry; exact PySem.EqMixed.eq_int_str (fin_bl I q (by simp))
    | _ => exact absurd (show false = true from hs) Bool.false_ne_true
  | str i =>
    obtain ⟨t, rfl⟩ := rx
    cases y with
    | non => cases ry; exact PySem.EqNone.eq_str_none (fin_bl I q (by simp))
    | bl j => cases ry; exact PySem.EqMixed.eq_str_bool (fin_bl I q (by simp))
    | int j => obtain ⟨t', rfl⟩ := ry; exact PySem.EqMixed.eq_str_int (fin_bl I q (by simp))
    | str j => obtain ⟨t', rfl⟩ := ry; exact eq_str (fin_bl I q dec_str)
    | _ => exact absurd (show false = true from hs) Bool.false_ne_true
  | byt i =>
    obtain ⟨t, rfl⟩ := rx
    cases y with
    | byt j => obtain ⟨t', rfl⟩ := ry; exact PySem.W.eq_bytes (fin_bl I q dec_byt)
    | _ => exact absurd (show false = true from hs) Bool.false_ne_true
  | _ => cases y <;> exact absurd (show false = true from hs) Bool.false_ne_true
theorem op_ne : OpR X (compareOp .NotEq) rNe := by
  intro pins s σ H x y v u Q I rx ry h
  obtain ⟨hs, q⟩ := h
  cases x with
  | non =>
    cases rx
    cases y with
    | non => cases ry; exact PySem.EqNone.ne_none_none (fin_bl I q (by simp))
    | bl j => cases ry; exact PySem.EqNone.ne_none_bool (fin_bl I q (by simp))
    | int j => obtain ⟨t', rfl⟩ := ry; exact PySem.EqNone.ne_none_int (fin_bl I q (by simp))
    | str j => obtain ⟨t', rfl⟩ := ry; exact PySem.EqNone.ne_none_str (fin_bl I q (by simp))
    | _ => exact absurd (show false = true from hs) Bool.false_ne_true
  | bl i =>
    cases rx
    cases y with
    | non => cases ry; exact PySem.EqNone.ne_bool_none (fin_bl I q (by simp))
    | bl j => cases ry; exact ne_bool (fin_bl I q (congrArg not dec_bl))
    | str j => obtain ⟨t', rfl⟩ := ry; exact PySem.EqMixed.ne_bool_str (fin_bl I q (by simp))
    | _ => exact absurd (show false = true from hs) Bool.false_ne_true
  | int i =>
    obtain ⟨t, rfl⟩ := rx
    cases y with
    | non => cases ry; exact PySem.EqNone.ne_int_none (fin_bl I q (by simp))
    | int j => obtain ⟨t', rfl⟩ := ry; exact ne_int (fin_bl I q (congrArg not dec_int))
    | str j => obtain ⟨t', rfl⟩ := ry; exact PySem.EqMixed.ne_int_str (fin_bl I q (by simp))
    | _ => exact absurd (show false = true from hs) Bool.false_ne_true
  | str i =>
    obtain ⟨t, rfl⟩ := rx
    cases y with
    | non => cases ry; exact PySem.EqNone.ne_str_none (fin_bl I q (by simp))
    | bl j => cases ry; exact PySem.EqMixed.ne_str_bool (fin_bl I q (by simp))
    | int j => obtain ⟨t', rfl⟩ := ry; exact PySem.EqMixed.ne_str_int (fin_bl I q (by simp))
    | str j => obtain ⟨t', rfl⟩ := ry; exact ne_str (fin_bl I q (congrArg not dec_str))
    | _ => exact absurd (show false = true from hs) Bool.false_ne_true
  | byt i =>
    obtain ⟨t, rfl⟩ := rx
    cases y with
    | byt j => obtain ⟨t', rfl⟩ := ry; exact PySem.W.ne_bytes (fin_bl I q (congrArg not dec_byt))
    | _ => exact absurd (show false = true from hs) Bool.false_ne_true
  | _ => cases y <;> exact absurd (show false = true from hs) Bool.false_ne_true

theorem op_lt : OpR X (compareOp .Lt) (rI0 fun i j => .bl (decide (i < j))) := opB0 fun _ _ _ _ _ _ _ q => lt_int q
theorem op_gt : OpR X (compareOp .Gt) (rI0 fun i j => .bl (decide (j < i))) := opB0 fun _ _ _ _ _ _ _ q => gt_int q
theorem op_ge : OpR X (compareOp .GtE) (rI0 fun i j => .bl (decide (j ≤ i))) := opB0 fun _ _ _ _ _ _ _ q => ge_int q
theorem nomark (b : Expr) {op : CmpOp} (h : op ≠ .In := by decide) (h2 : op ≠ .NotIn := by decide) : behindInMarks op b = false := by
  have e1 : (op == CmpOp.In) = false := by cases op <;> first | rfl | exact absurd rfl h
  have e2 : (op == CmpOp.NotIn) = false := by cases op <;> first | rfl | exact absurd rfl h2
  cases b <;> simp [behindInMarks, e1, e2]
/-- a comparison as a value; hm: nomark b, or (for in, not in) by with_unfolding_all rfl -/
theorem pe_cmpR {op : CmpOp} {r : R2} (ho : OpR X (compareOp op) r) (ha : PE X a ta) (hb : PE X b tb) (hm : behindInMarks op b = false) : PE X (.Compare a [op] [b] pos) (tOp r ta tb) := by
  intro pins s σ H Q I h
  exact wpAny_Compare1 (binT ha hb I h fun v u s2 x y H2 I2 rx ry q => ho pins s2 σ H2 x y v u Q I2 rx ry q) hm
/-- a reading of a value as a test -/
def tTest (t : TE) : TT := fun σ H Q => t σ H fun x H' => ∃ k, x = .bl k ∧ Q k H'
theorem pt_cmpR {op : CmpOp} {r : R2} (ho : OpR X (compareOp op) r) (ha : PE X a ta) (hb : PE X b tb) (hm : behindInMarks op b = false) : PT X (.Compare a [op] [b] pos) (tTest (tOp r ta tb)) := by
  intro pins s σ H Q I h
  refine wpAny_isTrue_Compare1 (thn (ha pins s σ H _ I h) fun v s1 ⟨x, H1, I1, r1, q1⟩ => thn (hb pins s1 σ H1 _ I1 q1) fun u s2 ⟨y, H2, I2, r2, q2⟩ =>
    thn (ho pins s2 σ H2 x y v u _ I2 r1 r2 q2) fun c s3 ⟨z, H3, I3, r3, k, e, q3⟩ => ?_) hm
  subst e
  cases r3
  exact wpAny_truthy_bool ⟨H3, I3, q3⟩
/-! ### truth -/
theorem line63 : (sizeLine : Nat) < 2 ^ 63 := by rw [sizeLine_eq]; decide
/-! ### strs and bytes -/
/-! ### scalar builtins, by CallR -/
theorem vals1 {x : V} {us : List Value} (r : Vals [x] us) : ∃ u, us = [u] ∧ RelV x u := by
  cases r with
  | cons r1 r2 => cases r2; exact ⟨_, rfl, r1⟩
theorem vals2 {x y : V} {us : List Value} (r : Vals [x, y] us) : ∃ u w', us = [u, w'] ∧ RelV x u ∧ RelV y w' := by
  cases r with
  | cons r1 r2 =>
    cases r2 with
    | cons r3 r4 => cases r4; exact ⟨_, _, rfl, r1, r3⟩
theorem call_abs : CallR X (.builtin "abs") (fun xs H Q => ∃ i, xs = [.int i] ∧ Q (.int (if i < 0 then -i else i)) H) := by
  intro pins s σ H xs us Q I r h
  obtain ⟨i, rfl, q⟩ := h
  obtain ⟨u, rfl, t, rfl⟩ := vals1 r
  exact call_abs_int fun u tk => ⟨.int (if i < 0 then -i else i), H, I.tok _, ⟨_, rfl⟩, q⟩
theorem call_max2 (hc : X.calm = true) : CallR X (.builtin "max") (fun xs H Q => ∃ i j, xs = [.int i, .int j] ∧ Q (.int (if j > i then j else i)) H) := by
  intro pins s σ H xs us Q I r h
  obtain ⟨i, j, rfl, q⟩ := h
  obtain ⟨u, w', rfl, ⟨t, rfl⟩, ⟨t', rfl⟩⟩ := vals2 r
  refine max_two_ints (I.ok.hd hc) fun h' tk k => ⟨_, H, I.kept k, ?_, q⟩
  by_cases hj : j > i
  · rw [if_pos hj, if_pos hj]; exact ⟨_, rfl⟩
  · rw [if_neg hj, if_neg hj]; exact ⟨_, rfl⟩
theorem call_min2 (hc : X.calm = true) : CallR X (.builtin "min") (fun xs H Q => ∃ i j, xs = [.int i, .int j] ∧ Q (.int (if j < i then j else i)) H) := by
  intro pins s σ H xs us Q I r h
  obtain ⟨i, j, rfl, q⟩ := h
  obtain ⟨u, w', rfl, ⟨t, rfl⟩, ⟨t', rfl⟩⟩ := vals2 r
  refine min_two_ints (I.ok.hd hc) fun h' tk k => ⟨_, H, I.kept k, ?_, q⟩
  by_cases hj : j < i
  · rw [if_pos hj, if_pos hj]; exact ⟨_, rfl⟩
  · rw [if_neg hj, if_neg hj]; exact ⟨_, rfl⟩
theorem call_int1 : CallR X (.type "int") (fun xs H Q => (∃ i, xs = [.int i] ∧ Q (.int i) H) ∨ ∃ k, xs = [.bl k] ∧ Q (.int (if k then 1 else 0)) H) := by
  intro pins s σ H xs us Q I r h
  rcases h with ⟨i, rfl, q⟩ | ⟨k, rfl, q⟩
  · obtain ⟨u, rfl, t, rfl⟩ := vals1 r
    exact call_int_int ⟨.int i, H, I, ⟨_, rfl⟩, q⟩
  · obtain ⟨u, rfl, r1⟩ := vals1 r
    cases r1
    exact call_int_bool ⟨.int (if k then 1 else 0), H, I.tok _, ⟨_, rfl⟩, q⟩
end
end L2

namespace L2
open PySem PySem.Spec PyProof.Rows

/-! ### an instance, its attributes a map -/
structure ObjM (h : Heap) (x dx C : Addr) (mA : Str → Option Value) : Prop where
  obj : h.get? x = some (PySem.W.instObj C dx)
  ns : h.Ns1 dx mA
  ne : dx ≠ x

theorem lookIn_ns {h : Heap} {dx : Addr} {mA : Str → Option Value} (n : h.Ns1 dx mA) : ∃ od, h.get? dx = some od ∧ ∀ name, PySem.W.lookIn name od = some (mA name) := by
  obtain ⟨o, es, ep, ho, hd, hk, _, hm⟩ := n
  refine ⟨o, ho, fun name => ?_⟩
  have e := hm name
  unfold nsFind findBy at e
  rw [← Array.find?_toList] at e
  unfold PySem.W.lookIn
  rw [hd]
  dsimp only
  split
  · rename_i y q
    rw [q] at e
    exact congrArg some e
  · rename_i q
    rw [q] at e
    have a : es.toList.any (·.refKey) = false := by
      rw [List.any_eq_false]
      intro y hy
      obtain ⟨z, t, hkey⟩ := hk y (Array.mem_toList_iff.mp hy)
      simp [DictEntry.refKey, hkey]
    have a' : ¬ es.toList.any (·.refKey) = true := by rw [a]; exact Bool.false_ne_true
    rw [if_neg a']
    exact congrArg some e

theorem ObjM.look {h : Heap} {x dx C : Addr} {mA : Str → Option Value} (I : ObjM h x dx C mA) : ∃ od, PySem.W.InstAt h x (PySem.W.instObj C dx) C (some od) ∧ ∀ name, PySem.W.lookIn name od = some (mA name) :=
  let ⟨od, ho, hl⟩ := lookIn_ns I.ns
  ⟨od, ⟨I.obj, rfl, rfl, ho⟩, hl⟩

section
variable {prog : Program} {w : World} {A : Around} {E : Value → Shared → Prop} {s : Shared} {K : PySem.W.Frag} {x dx C f : Addr} {mA : Str → Option Value} {name : Str} {v : Value}

end

/-! ### the attributes as a list of pairs -/
section
variable {P : Program} {w : World} {H H' : Hp} {h h' : Heap} {a C dx : Addr} {fs fs' : List (Str × V)}
theorem ins_get (hok : HOk P w H h) (e : H a = some (.ins C dx fs)) : ∃ mA, ObjM h a dx C mA ∧ (∀ f, RelO (fs.lookup f) (mA f)) ∧ PySem.Within mA (fs.map (·.1)) ∧ fs.length ≤ 1000 ∧ H dx = some (.own a) := by
  obtain ⟨d, z, ne, ob, mA, n, r, q⟩ := (show ObjOk P w H h a (.ins C dx fs) from hok a _ e)
  exact ⟨mA, ⟨ob, n, ne⟩, r, q, z, d⟩
end

/-! ### what of the text a class must have -/
structure Cls (K : PySem.W.Frag) (C : Addr) : Prop where
  pg : PySem.W.plainGet K C Str.empty = true
  hd : PySem.W.hasDictIn K C = true
  po : PySem.W.plainOver K C = true
  sa : PySem.W.findIn K (.ref C) "__setattr__" = some (some (.builtin "object.__setattr__"))
theorem Cls.get {K : PySem.W.Frag} {C : Addr} (c : Cls K C) (f : Str) : PySem.W.plainGet K C f = true := c.pg
section
variable {X : Cx} {pins : List (Addr × Obj)} {σ : St} {H : Hp} {s : Shared} {a C dx : Addr} {fs : List (Str × V)} {f : Str} {v : V} {A : Around} {E : Value → Shared → Prop}

end

/-! ### readings and rules -/
section
variable {X : Cx} {o e value : Expr} {f : Str} {pos pos' tpos : Pos} {ta tv : TE}
end

/-! ### isinstance -/
section
variable {X : Cx} {pins : List (Addr × Obj)} {σ : St} {H : Hp} {s : Shared} {A : Around} {E : Value → Shared → Prop} {Q : Value → Shared → Prop} {c : Value} {b : Bool}
/-- the type of a value, as the fragment's deciders take it; for an instance its class -/
inductive TyOf (K : PySem.W.Frag) (H : Hp) : V → Value → Prop where
  | non : TyOf K H .non (.type "NoneType")
  | bl (x : Bool) : TyOf K H (.bl x) (.type "bool")
  | int (i : Int) : TyOf K H (.int i) (.type "int")
  | str (x : Str) : TyOf K H (.str x) (.type "str")
  | flt (x : UInt64) : TyOf K H (.flt x) (.type "float")
  | lst {a : Addr} {xs : List V} (e : H a = some (.lst xs)) : TyOf K H (.ref a) (.type "list")
  | frz {a : Addr} {o : Obj} {xs : List V} (e : H a = some (.frz o (.lst xs))) : TyOf K H (.ref a) (.type "list")
  | tup {a : Addr} {xs : List V} (e : H a = some (.tup xs)) : TyOf K H (.ref a) (.type "tuple")
  | dK {a : Addr} {kvs : List (Key × V)} (e : H a = some (.dK kvs)) : TyOf K H (.ref a) (.type "dict")
  | dT {a : Addr} {kvs : List (List Key × V)} (e : H a = some (.dT kvs)) : TyOf K H (.ref a) (.type "dict")
  | ins {a C dx : Addr} {fs : List (Str × V)} (e : H a = some (.ins C dx fs)) (cl : Cls K C) (ha : PySem.W.findIn K (.ref C) "__class__" = some (some (.builtin "object.__class__")))
      (hn : PySem.W.specialIn K (.builtin "object.__class__") "__get__" = some (some (.builtin "getset_descriptor.__get__"))) (htk : PySem.W.takesIn K (.builtin "object.__class__") = some true)
      (hm : PySem.W.mroIn K C (.type "object") = some true) : TyOf K H (.ref a) (.ref C)
/-- isinstance(x, c) for one class c, a built-in or an own one: kitOne's answer -/
theorem isinst_ok {x : V} {u t : Value} (I : Inv X pins σ H s) (rx : RelV x u) (ty : TyOf X.K H x t) (e : PySem.W.kitOne X.K t c = some b) (h : ∀ tk, Q (.bool b) { s with toks := tk }) :
    wpAny (model X.prog X.w) A (call (.builtin "isinstance") [u, c]) Q E s := by
  cases ty with
  | non => cases (show u = Value.none from rx); exact PySem.W.kia_one PySem.W.kitx_none I.kIn True.intro e (fun z => nomatch z) h
  | bl y => cases (show u = Value.bool y from rx); exact PySem.W.kia_one PySem.W.kitx_bool I.kIn True.intro e (fun z => nomatch z) h
  | int i => obtain ⟨t, q⟩ := (show ∃ t, u = Value.int i t from rx); cases q; exact PySem.W.kia_one PySem.W.kitx_int I.kIn True.intro e (fun z => nomatch z) h
  | str y => obtain ⟨t, q⟩ := (show ∃ t, u = Value.str y t from rx); cases q; exact PySem.W.kia_one PySem.W.kitx_str I.kIn True.intro e (fun z => nomatch z) h
  | flt y => obtain ⟨t, q⟩ := (show ∃ t, u = Value.float y t from rx); cases q; exact PySem.W.kia_one PySem.W.kitx_float I.kIn True.intro e (fun z => nomatch z) h
  | @lst a xs ea =>
    cases (show u = Value.ref a from rx)
    obtain ⟨_, _, n, _, h1⟩ := (show ObjOk X.prog X.w H s.heap a (.lst xs) from I.hok a _ ea)
    exact PySem.W.kia_one PySem.W.kitx_list I.kIn ⟨_, h1, rfl⟩ e (fun z => nomatch z) h
  | @frz a ob xs ea =>
    cases (show u = Value.ref a from rx)
    obtain ⟨_, _, _, n, _, h1⟩ := (show ObjOk X.prog X.w H s.heap a (.frz ob (.lst xs)) from I.hok a _ ea)
    exact PySem.W.kia_one PySem.W.kitx_list I.kIn ⟨_, h1, rfl⟩ e (fun z => nomatch z) h
  | @tup a xs ea =>
    cases (show u = Value.ref a from rx)
    obtain ⟨_, _, _, p⟩ := (show ObjOk X.prog X.w H s.heap a (.tup xs) from I.hok a _ ea)
    obtain ⟨o, h1, h2, _⟩ := p
    exact PySem.W.kia_one PySem.W.kitx_tuple I.kIn ⟨o, h1, h2⟩ e (fun z => nomatch z) h
  | @dK a kvs ea =>
    cases (show u = Value.ref a from rx)
    obtain ⟨_, _, vs, _, p⟩ := (show ObjOk X.prog X.w H s.heap a (.dK kvs) from I.hok a _ ea)
    obtain ⟨o, es, ep, h1, h2, _⟩ := p
    exact PySem.W.kia_one PySem.W.kitx_dict I.kIn ⟨o, h1, h2.1⟩ e (fun z => nomatch z) h
  | @dT a kvs ea =>
    cases (show u = Value.ref a from rx)
    obtain ⟨_, _, xs, _, o, es, ep, h1, h2, _⟩ := (show ObjOk X.prog X.w H s.heap a (.dT kvs) from I.hok a _ ea)
    exact PySem.W.kia_one PySem.W.kitx_dict I.kIn ⟨o, h1, h2.1⟩ e (fun z => nomatch z) h
  | @ins a C dx fs ea cl ha hn htk hm =>
    cases (show u = Value.ref a from rx)
    obtain ⟨mA, O, _⟩ := ins_get I.hok ea
    obtain ⟨od, J, _⟩ := O.look
    exact PySem.W.kia_one (PySem.W.kitx_own (cl.get _) cl.hd ha hn htk hm) I.kIn J e (fun z => nomatch z) h
end
end L2

namespace L2
open PySem PySem.Spec PyProof.Rows

/-! ### room -/
structure Room (k : Nat) (A : Around) : Prop where
  hd : A.handled = none
  dp : A.depth + 3 * k + 5 < recursionLimit
  un : A.units + 16 * k + 200 < cLine
  gd : A.guards = some []
theorem Room.mono {j k : Nat} {A : Around} (r : Room k A) (h : j ≤ k) : Room j A := ⟨r.hd, by have := r.dp; omega, by have := r.un; omega, r.gd⟩
theorem Room.deeper {k : Nat} {A : Around} (r : Room (k + 1) A) (env : Env) : Room k (A.deeper env) :=
  ⟨r.hd, by have := r.dp; show A.depth + 1 + 3 * k + 5 < _; omega, by have := r.un; show A.units + 3 + 16 * k + 200 < _; omega, r.gd⟩
theorem Room.depth {k : Nat} {A : Around} (r : Room k A) : A.depth < recursionLimit := by have := r.dp; omega
theorem Room.units {k : Nat} {A : Around} (r : Room k A) : A.units + 64 < cLine := by have := r.un; omega
/-! ### argument lists and displays -/
def tNil : TA := fun _ H Q => Q [] H
def tCons (ta : TE) (tr : TA) : TA := fun σ H Q => ta σ H fun x H1 => tr σ H1 fun xs H2 => Q (x :: xs) H2
section
variable {X : Cx} {e : Expr} {es : List Expr} {te : TE} {t : TA} {pos : Pos}
theorem pa_nil : PA X [] tNil := fun _ _ _ _ H Q I h => Calls.spliced_nil ⟨[], H, I, .nil, h⟩
theorem pa_cons (ha : PE X e te) (hr : PA X es t) (hs : starEach (e :: es) X.env = (false, eval e X.env) :: starEach es X.env := by rfl) : PA X (e :: es) (tCons te t) := by
  intro pos pins s σ H Q I h
  rw [hs]
  show wpAny _ _ (spliced ((false, eval e X.env) :: backTo pos (starEach es X.env))) _ _ s
  refine Calls.spliced_cons (thn (ha pins s σ H _ I h) fun u s1 ⟨x, H1, I1, r1, q1⟩ => ?_)
  exact thn (hr pos pins s1 σ H1 _ I1 q1) fun us s2 ⟨xs, H2, I2, r2, q2⟩ => ⟨x :: xs, H2, I2, .cons r1 r2, q2⟩

/-- a tuple, a list of written items -/
def tTup (t : TA) : TE := fun σ H Q => t σ H fun xs H1 => xs.length ≤ sizeLine ∧ ∀ p, H1 p = none → Q (.ref p) (upd H1 p (.tup xs))
def tLst (t : TA) : TE := fun σ H Q => t σ H fun xs H1 => xs.length ≤ sizeLine ∧ ∀ p, H1 p = none → Q (.ref p) (upd H1 p (.lst xs))
theorem pe_tup {x1} (h : PA X es t) : PE X (.Tuple es x1 pos) (tTup t) := by
  intro pins s σ H Q I hq
  refine wpAny_Tuple_spliced (thn (h pos pins s σ H _ I hq) fun us s1 ⟨xs, H1, I1, r, z, q⟩ => ⟨by rw [← r.length]; exact z, ?_⟩)
  have hf : H1 s1.heap.objs.size = none := I1.hok.fresh (Nat.le_refl _)
  refine ⟨.ref s1.heap.objs.size, upd H1 s1.heap.objs.size (.tup xs), I1.laid (t' := s1.toks) (fun b u e => Heap.get?_push_of_some _ e) (Nat.le_refl _) ?_, rfl, q _ hf⟩
  exact ⟨z, us, r, ⟨_, Heap.get?_push_size _ rfl, rfl, _, rfl⟩⟩
theorem pe_lst (h : PA X es t) : PE X (.List es pos) (tLst t) := by
  intro pins s σ H Q I hq
  refine wpAny_List_spliced (thn (h pos pins s σ H _ I hq) fun us s1 ⟨xs, H1, I1, r, z, q⟩ => ⟨by rw [← r.length]; exact z, ?_⟩)
  have hf : H1 s1.heap.objs.size = none := I1.hok.fresh (Nat.le_refl _)
  refine ⟨.ref s1.heap.objs.size, upd H1 s1.heap.objs.size (.lst xs), I1.laid (t' := s1.toks) (fun b u e => Heap.get?_push_of_some _ e) (Nat.le_refl _) ?_, rfl, q _ hf⟩
  exact ⟨z, us, 0, r, Heap.get?_push_size _ rfl⟩
end

/-! ### what a def promises -/
/-- a def's promise: the bound arguments in the parameters' order, the heap, the wanted end, the wanted exception -/
abbrev Sp := List V → Hp → VK → XK → Prop
/-- how an exception lies behind a call (file 08 gives it): the callers' frames, abstract heap and state ahead of the call, the wish, the exception, the state -/
abbrev CXT := List Env → Hp → Shared → XK → Value → Shared → Prop

/-- the state at a call -/
structure Env0 (P : Program) (w : World) (K : PySem.W.Frag) (mg : Str → Option Value) (base : Heap) (A : Around) (outer : List Env) (s : Shared) (H : Hp) : Prop where
  frames : A.frames = some outer
  mod : Mod K mg base
  bs : ∀ b o, base.get? b = some o → s.heap.get? b = some o ∧ H b = none
  bsz : base.objs.size ≤ s.heap.objs.size
  funs : s.heap.FunFrames base outer
  frf : ∀ b ∈ frs outer, H b = none
  hok : HOk P w H s.heap
  bare : AllBare s.gens
/-- a call's end -/
def CE (outer : List Env) (P : Program) (w : World) (H : Hp) (s : Shared) (Q : VK) (u : Value) (s' : Shared) : Prop :=
  ∃ v H', s'.os = s.os ∧ AllBare s'.gens ∧ Un (frs outer) [] H H' s.heap s'.heap ∧ HOk P w H' s'.heap ∧ RelV v u ∧ Q v H'
def CR (CX : CXT) (outer : List Env) (P : Program) (w : World) (H : Hp) (s : Shared) (Q : VK) (E : XK) (r : Result) (s' : Shared) : Prop :=
  match r with
  | .ok (.ret u) => CE outer P w H s Q u s'
  | .ok _ => False
  | .error e => CX outer H s E e s'
structure FnOk (P : Program) (w : World) (K : PySem.W.Frag) (mg : Str → Option Value) (base : Heap) (CX : CXT) (k : Nat) (f : Addr) (fd : FuncData) (ps : List Str) (sp : Sp) : Prop where
  len : ∀ vs H Q E, sp vs H Q E → vs.length = ps.length
  run : ∀ (A : Around) (outer : List Env) (s : Shared) (H : Hp) (args : Args) (us : List Value) (vs : List V) (Q : VK) (E : XK), Room k A → Env0 P w K mg base A outer s H → BindsTo s fd args (ps.zip us) → Vals vs us → sp vs H Q E →
    codeAny (model P w) A (.call (.ref f) args) (CR CX outer P w H s Q E) s
/-- a weaker promise -/
theorem FnOk.imp {P : Program} {w : World} {K : PySem.W.Frag} {mg : Str → Option Value} {base : Heap} {CX : CXT} {k : Nat} {f : Addr} {fd : FuncData} {ps : List Str} {sp sp' : Sp} (F : FnOk P w K mg base CX k f fd ps sp)
    (h : ∀ vs H Q E, sp' vs H Q E → sp vs H Q E) : FnOk P w K mg base CX k f fd ps sp' :=
  ⟨fun vs H Q E q => F.len vs H Q E (h _ _ _ _ q), fun A outer s H args us vs Q E hr he hb hv hs => F.run A outer s H args us vs Q E hr he hb hv (h _ _ _ _ hs)⟩

section
variable {X : Cx} {pins : List (Addr × Obj)} {σ : St} {H : Hp} {s s' : Shared}
/-- from a body: what a callee wants -/
theorem Inv.env0 (I : Inv X pins σ H s) : Env0 X.prog X.w X.K X.mg X.base X.A X.stack s H :=
  ⟨I.ok.frames, I.ok.mod, I.bs, Nat.le_trans I.ok.bsz I.sz, I.stack, I.stkFree, I.hok, I.bare⟩
/-- behind a call -/
theorem Inv.after {Q : VK} {u : Value} (I : Inv X pins σ H s) (h : CE X.stack X.prog X.w H s Q u s') : EP X pins σ Q u s' := by
  obtain ⟨v, H', os, bare, un, hok, r, q⟩ := h
  obtain ⟨hh, g, d, t, os'⟩ := s'
  obtain rfl : os' = s.os := os
  exact ⟨v, H', I.call (h' := hh) (g' := g) (d' := d) (t' := t) (ch := []) un hok bare (fun b z => absurd z (by simp)), r, q⟩
end

/-! ### calls -/
/-- f(..): the written arguments, then the defaults dvs; E: what is wanted of an exception -/
def tCall (sp : Sp) (dvs : List V) (E : XK) (t : TA) : TE := fun σ H Q => t σ H fun vs H1 => sp (vs ++ dvs) H1 Q E
/-- how the parameters are bound: us the positional arguments, kw the keywords' values by name, ds the defaults that fill up -/
def Binds (K : PySem.W.Frag) (fd : FuncData) (ps : List Str) (ds : List Value) : Prop :=
  ∀ (s : Shared) (us : List Value), K.In s.heap → (us ++ ds).length = ps.length → BindsTo s fd ⟨us, []⟩ (ps.zip (us ++ ds))
/-- every parameter is given -/
theorem Binds.all {K : PySem.W.Frag} {fd : FuncData} {ps : List Str} (h : ∀ us : List Value, us.length = ps.length → bindArgs fd ⟨us, []⟩ = pure (ps.zip us)) : Binds K fd ps [] := fun s us _ hl => by
  rw [List.append_nil] at hl ⊢
  exact .of_eq (h us hl)

/-- an exception of a callee reaches what this body wants of exceptions -/
def Passes (CX : CXT) (X : Cx) (E : XK) : Prop := ∀ (pins : List (Addr × Obj)) (σ : St) (H : Hp) (s : Shared) (e : Value) (s' : Shared), Inv X pins σ H s → CX X.stack H s E e s' → X.xe e s'

section
variable {X : Cx} {CX : CXT} {k : Nat} {f C : Addr} {fd : FuncData} {ps : List Str} {sp : Sp} {dvs : List V} {ds : List Value} {E : XK} {x m : Str} {p pos apos : Pos} {e o : Expr} {es : List Expr} {ta : TE} {t : TA}

/-- the callee runs -/
theorem run_fn {pins : List (Addr × Obj)} {σ : St} {H : Hp} {s : Shared} {Q : VK} {us : List Value} {vs : List V} (F : FnOk X.prog X.w X.K X.mg X.base CX k f fd ps sp) (hr : Room k X.A) (hb : Binds X.K fd ps ds) (hd : Vals dvs ds) (hx : Passes CX X E)
    (I : Inv X pins σ H s) (r : Vals vs us) (h : sp (vs ++ dvs) H Q E) : wpAny (model X.prog X.w) X.A (call (.ref f) us) (EP X pins σ Q) X.xe s := by
  have r2 : Vals (vs ++ dvs) (us ++ ds) := r.append hd
  have hl : (us ++ ds).length = ps.length := by rw [← r2.length]; exact F.len _ _ _ _ h
  refine wpAny_call (codeAny_mono (F.run X.A X.stack s H ⟨us, []⟩ (us ++ ds) (vs ++ dvs) Q E hr I.env0 (hb s us I.kIn hl) r2 h) fun r s' hq => ?_)
  cases r with
  | error e => exact hx pins σ H s e s' I hq
  | ok fl =>
    cases fl with
    | ret u => exact I.after hq
    | next => exact False.elim hq
    | brk => exact False.elim hq
    | cont => exact False.elim hq

theorem pe_call (F : FnOk X.prog X.w X.K X.mg X.base CX k f fd ps sp) (hr : Room k X.A) (hg : Gl X x) (hm : X.mg x = some (.ref f)) (hk : PySem.W.keepIn X.K (.ref f) = true) (hb : Binds X.K fd ps ds) (hd : Vals dvs ds) (hx : Passes CX X E)
    (ha : PA X (e :: es) t) (hdb : (x == ("__debug__" : Str)) = false := by decide) (he : starEach (e :: es) X.env = (false, eval e X.env) :: starEach es X.env := by rfl) (hpl : (backTo pos (starEach es X.env)).any (·.1) = false := by rfl) :
    PE X (.Call (.Name x p) (e :: es) [] pos) (tCall sp dvs E t) := by
  intro pins s σ H Q I h
  refine wpAny_Call_Name_kw (ld_glob I hg hm ?_ hdb)
  refine PySem.W.callWith_K (h₀ := X.base) I.ok.mod.kin hk (thn (ha pos pins s σ H _ I h) fun us s1 ⟨vs, H1, I1, r, q⟩ => ⟨I1.kIn, ?_⟩) he hpl
  exact run_fn F hr hb hd hx I1 r q
end

/-! ### keywords -/
section
variable {X : Cx} {CX : CXT} {k : Nat} {f C : Addr} {fd : FuncData} {ps ks : List Str} {sp : Sp} {E : XK} {x m : Str} {p pos apos kpos : Pos} {e o : Expr} {es : List Expr} {kws : List Keyword} {te ta : TE} {t tk : TA} {nm : Option Str}
variable {g : List Value → List Value → List Value} {gV : List V → List V → List V}
end

/-! ### a def's body keeps its promise -/
/-- names: the parameters first -/
structure FnScope (N P : List Str) (sc : Scope) : Prop where
  kind : sc.kind = .function
  co : sc.isCoroutine = false
  gen : sc.isGenerator = false
  nd : N.Nodup
  pre : N.take P.length = P
  par : ∀ x ∈ P, sc.names.lookup x = some .local ∨ sc.names.lookup x = some .cell
  nofree : ∀ y ∈ sc.names, y.2 ≠ .free

theorem bindL_out {kindOf : Str → Option NameKind} {x : Str} : ∀ {binds : List (Str × Value)} {m : Str → Option Value}, (∀ v, (x, v) ∉ binds) → bindL kindOf binds m x = m x
  | [], _, _ => rfl
  | (n, v) :: r, m, h => by
    unfold bindL
    rw [bindL_out fun w hw => h w (List.mem_cons_of_mem _ hw)]
    split
    · have : x ≠ n := by rintro rfl; exact h v List.mem_cons_self
      simp [this]
    · rfl
theorem bindC_out {kindOf : Str → Option NameKind} {x : Str} : ∀ {binds : List (Str × Value)} {m : Str → Option Value}, (∀ v, (x, v) ∉ binds) → bindC kindOf binds m x = m x
  | [], _, _ => rfl
  | (n, v) :: r, m, h => by
    unfold bindC
    rw [bindC_out fun w hw => h w (List.mem_cons_of_mem _ hw)]
    split
    · rfl
    · have : x ≠ n := by rintro rfl; exact h v List.mem_cons_self
      simp [this]
theorem bindL_get {kindOf : Str → Option NameKind} {x : Str} {v : Value} : ∀ {P : List Str} {vs : List Value} {i : Nat} {m : Str → Option Value}, P.Nodup → P[i]? = some x → vs[i]? = some v → kindOf x = some .local →
    bindL kindOf (P.zip vs) m x = some v
  | [], _, _, _, _, h, _, _ => by simp at h
  | _ :: _, [], _, _, _, _, h, _ => by simp at h
  | p :: P, w :: vs, 0, m, nd, h1, h2, hk => by
    simp at h1 h2; subst h1; subst h2
    show bindL kindOf ((p, w) :: P.zip vs) m p = _
    unfold bindL
    rw [bindL_out fun v hv => (List.nodup_cons.mp nd).1 (List.of_mem_zip hv).1, if_pos hk]
    simp
  | p :: P, w :: vs, i + 1, m, nd, h1, h2, hk => by
    show bindL kindOf ((p, w) :: P.zip vs) m x = _
    unfold bindL
    exact bindL_get (i := i) (List.nodup_cons.mp nd).2 (by simpa using h1) (by simpa using h2) hk
theorem bindC_get {kindOf : Str → Option NameKind} {x : Str} {v : Value} : ∀ {P : List Str} {vs : List Value} {i : Nat} {m : Str → Option Value}, P.Nodup → P[i]? = some x → vs[i]? = some v → kindOf x ≠ some .local →
    bindC kindOf (P.zip vs) m x = some v
  | [], _, _, _, _, h, _, _ => by simp at h
  | _ :: _, [], _, _, _, _, h, _ => by simp at h
  | p :: P, w :: vs, 0, m, nd, h1, h2, hk => by
    simp at h1 h2; subst h1; subst h2
    show bindC kindOf ((p, w) :: P.zip vs) m p = _
    unfold bindC
    rw [bindC_out fun v hv => (List.nodup_cons.mp nd).1 (List.of_mem_zip hv).1, if_neg hk]
    simp
  | p :: P, w :: vs, i + 1, m, nd, h1, h2, hk => by
    show bindC kindOf ((p, w) :: P.zip vs) m x = _
    unfold bindC
    exact bindC_get (i := i) (List.nodup_cons.mp nd).2 (by simpa using h1) (by simpa using h2) hk

/-- the names' values at the entry -/
def start (N : List Str) (vs : List V) : St := vs.map some ++ List.replicate (N.length - vs.length) none

/-- the context of a def's body, at its entry; an exception leaves the frame, then lies as CX says -/
def cxOf (CX : CXT) (P : Program) (w : World) (K : PySem.W.Frag) (mg : Str → Option Value) (base : Heap) (N : List Str) (qual : Str) (scope : Scope) (f : Addr) (cd : Value) (A : Around) (outer : List Env) (s : Shared) (H : Hp) (E : XK) : Cx where
  prog := P
  w := w
  K := K
  mg := mg
  base := base
  A := A.deeper (envOfC qual scope s.heap.objs.size f cd)
  N := N
  s₀ := s
  H₀ := H
  env := envOfC qual scope s.heap.objs.size f cd
  outer := outer
  stack := envOfC qual scope s.heap.objs.size f cd :: outer
  ex := []
  calm := true
  fn := fun _ => true
  pn := []
  xe := fun e s' => wpAny (model P w) (A.deeper (envOfC qual scope s.heap.objs.size f cd)) (leaving (envOfC qual scope s.heap.objs.size f cd) e) (fun _ s'' => CX outer H s E e s'') (fun e' s'' => CX outer H s E e' s'') s'

theorem cell_has {sc : Scope} {n : Nat} {x : Str} (h : sc.names.lookup x = some .cell) : ∃ c, (cellsFrom n sc.names []).lookup x = some c := by
  have q := PySem.W.cellsFrom_some sc.names n [] (.inl h)
  exact Option.isSome_iff_exists.mp q

theorem inv_start {CX : CXT} {P : Program} {w : World} {K : PySem.W.Frag} {mg : Str → Option Value} {base : Heap} {N ps : List Str} {qual : Str} {scope : Scope} {f : Addr} {cd : Value} {A : Around} {outer : List Env} {s s1 : Shared} {H : Hp} {E : XK} {us : List Value} {vs : List V}
    (S : FnScope N ps scope) (hd : A.handled = none) (e0 : Env0 P w K mg base A outer s H) (hl : vs.length = ps.length) (r : Vals vs us)
    (x : InCallC s s.heap.objs.size (bindL (envOfC qual scope s.heap.objs.size f cd).kindOf (ps.zip us) fun _ => none) (cellsFrom (s.heap.objs.size + 1) scope.names []) (bindC (envOfC qual scope s.heap.objs.size f cd).kindOf (ps.zip us) fun _ => none) s1) :
    Inv (cxOf CX P w K mg base N qual scope f cd A outer s H E) [] (start N vs) H s1 := by
  have hpl : ps.length ≤ N.length := by have := congrArg List.length S.pre; rw [List.length_take] at this; omega
  obtain ⟨h1, tk, rfl, hk⟩ := x.done
  have noA : ∀ b : Addr, b ∉ (cxOf CX P w K mg base N qual scope f cd A outer s H E).ex := fun b z => absurd (show b ∈ ([] : List Addr) from z) (by simp)
  refine ⟨⟨e0.mod, S.kind, rfl, rfl, Nat.le_refl _, fun y z c h1 h2 => ?_, fun y hy => ?_, fun y c _ h => ?_, fun _ => hd, Around.frames_deeper e0.frames, .inr ⟨rfl, rfl⟩, fun b z => absurd z (noA b), e0.bs, e0.bsz, fun b _ _ => noA b, fun b z => absurd z (noA b), e0.funs, e0.frf⟩,
    rfl, e0.bare, Un.kept hk, ⟨_, x.toInCall.ns, fun i y v h1 h2 h3 => ?_⟩, fun y c h => ⟨_, x.cell y c h⟩, e0.hok.fresh (Nat.le_refl _), fun y c h => ?_, fun p hp => absurd (show p ∈ ([] : List (Addr × Obj)) from hp) (by simp), e0.hok.kept hk, ?_⟩
  · exact name_of_addr x.apart (PySem.mem_of_lookup h1) (PySem.mem_of_lookup h2)
  · have hy : scope.names.lookup y = some .cell ∨ scope.names.lookup y = some .free := hy
    rcases hy with hy | hy
    · exact cell_has hy
    · exact absurd rfl (S.nofree _ (PySem.mem_of_lookup hy))
  · exact Nat.le_of_lt (x.above y c (PySem.mem_of_lookup h))
  · have hi : i < vs.length := by
      unfold start at h2
      by_cases hi : i < vs.length
      · exact hi
      · rw [List.getElem?_append_right (by simpa using hi)] at h2
        rw [List.getElem?_replicate] at h2
        split at h2 <;> cases h2
    have ha : vs[i]? = some v := by
      unfold start at h2
      rw [List.getElem?_append_left (by simpa using hi), List.getElem?_map] at h2
      cases e : vs[i]? with
      | none => rw [e] at h2; cases h2
      | some a => rw [e] at h2; cases h2; rfl
    obtain ⟨u, hu, rv⟩ := r.get ha
    have hp : ps[i]? = some y := by
      rw [← S.pre, List.getElem?_take_of_lt (by omega)]; exact h1
    have ndP : ps.Nodup := by rw [← S.pre]; exact S.nd.sublist (List.take_sublist _ _)
    refine ⟨u, rv, ?_⟩
    rcases S.par y (List.mem_of_getElem? hp) with k | k
    · exact .inl ⟨k, bindL_get ndP hp hu k⟩
    · obtain ⟨c, e⟩ := cell_has (n := s.heap.objs.size + 1) k
      refine .inr ⟨.inl k, c, e, ?_⟩
      have q := x.cell y c e
      rw [bindC_get ndP hp hu (by show scope.names.lookup y ≠ _; rw [k]; decide)] at q
      exact q
  · exact e0.hok.fresh (Nat.le_of_lt (x.above y c (PySem.mem_of_lookup h)))
  · unfold start
    show _ = N.length
    rw [List.length_append, List.length_map, List.length_replicate]
    omega

/-- THE RULE: a def (or a method) of the text, by its body. The body's reading t is chosen for each entry; it is run at the parameters' values -/
theorem fn_of {CX : CXT} {P : Program} {w : World} {K : PySem.W.Frag} {mg : Str → Option Value} {base : Heap} {k : Nat} {f : Addr} {name qual : Str} {params : Arguments} {body : List Stmt} {scope : Scope} {dV kV doc pm cdv ct oc : Value} {an od : Option Addr}
    {osl : Array (Option Value)} {N ps : List Str} {sp : Sp} (lk : K.lookup f = some ⟨oc, od, .func (PySem.W.fnOf name qual params body scope dV kV doc pm an cdv ct), osl⟩) (hcd : PySem.W.codeIn K cdv qual = true) (S : FnScope N ps scope)
    (len : ∀ vs H Q E, sp vs H Q E → vs.length = ps.length)
    (hbody : ∀ (A : Around) (outer : List Env) (s : Shared) (H : Hp) (vs : List V) (Q : VK) (E : XK), Room k (A.deeper (envOfC qual scope s.heap.objs.size f cdv)) → sp vs H Q E →
      ∃ t, PSs (cxOf CX P w K mg base N qual scope f cdv A outer s H E) body t ∧ t { nx := fun _ H' => Q .non H', rt := Q } (start N vs) H) :
    FnOk P w K mg base CX (k + 1) f (PySem.W.fnOf name qual params body scope dV kV doc pm an cdv ct) ps sp := by
  refine ⟨len, fun A outer s H args us vs Q E hr e0 hb r hsp => ?_⟩
  have hl := len _ _ _ _ hsp
  have KX : K.In s.heap := e0.mod.kin.keeps fun b o e => (e0.bs b o e).1
  have lim : s.heap.NoLimit := e0.mod.nolimit.keeps fun b o e => (e0.bs b o e).1
  have hkind : ∀ y ∈ ps.zip us, scope.names.lookup y.1 = some .local ∨ (scope.names.lookup y.1 = some .cell ∧ ((cellsFrom (s.heap.objs.size + 1) scope.names []).lookup y.1).isSome = true) := fun ⟨n, v⟩ hy => by
    rcases S.par n (List.of_mem_zip hy).1 with q | q
    · exact .inl q
    · exact .inr ⟨q, PySem.W.cellsFrom_some _ _ _ (.inl q)⟩
  refine codeAny_call_function hr.depth (KX _ _ lk) rfl S.co S.gen rfl (PySem.W.codeRec_of KX hcd) (hb _ _ _ _ ?_)
  refine wpAny_newFunctionEnv_cells S.kind hkind fun env he s1 x => ?_
  subst he
  refine ⟨lim.keeps x.toInCall.keep, codeAny_func ?_⟩
  obtain ⟨t, ht, hq⟩ := hbody A outer s H vs Q E (hr.deeper _) hsp
  have I : Inv (cxOf CX P w K mg base N qual scope f cdv A outer s H E) [] (start N vs) H s1 := inv_start S hr.hd e0 hl r x
  refine wpAny_mono (ht [] s1 (start N vs) H _ I hq) (fun fl s' hs => ?_) fun e s' hs => hs
  have fin : ∀ {σ' : St} {H' : Hp} {v : V} {u : Value}, Inv (cxOf CX P w K mg base N qual scope f cdv A outer s H E) [] σ' H' s' → RelV v u → Q v H' → CE outer P w H s Q u s' :=
    fun {σ' H' v u} J rv q => ⟨v, H', J.os, J.bare, J.base, J.hok, rv, q⟩
  cases fl with
  | ret u =>
    obtain ⟨v, σ', H', J, rv, q⟩ := hs
    exact fin J rv q
  | next =>
    obtain ⟨σ', H', J, q⟩ := hs
    exact fin (v := V.non) (u := Value.none) J rfl q
  | brk =>
    obtain ⟨_, _, _, q⟩ := hs
    exact False.elim q
  | cont =>
    obtain ⟨_, _, _, q⟩ := hs
    exact False.elim q
end L2

namespace L2
open PySem PySem.Spec PyProof.Rows
section
variable {X : Cx} {x : Str} {p pos : Pos} {e : Expr} {es : List Expr} {t : TA} {id T : String} {r : List V → Hp → VK → Prop}

def tCB (r : List V → Hp → VK → Prop) (t : TA) : TE := fun σ H Q => t σ H fun vs H1 => r vs H1 Q
/-- f(e, ..), f a built-in function -/
theorem pe_callB (hc : CallR X (.builtin id) r) (hg : Gl X x) (hm : X.mg x = none) (hv : bootBuiltins x = some (.builtin id)) (ha : PA X (e :: es) t) (hn : x ≠ "__name__" := by decide) (hdb : (x == ("__debug__" : Str)) = false := by decide)
    (he : starEach (e :: es) X.env = (false, eval e X.env) :: starEach es X.env := by rfl) (hpl : (backTo pos (starEach es X.env)).any (·.1) = false := by rfl) : PE X (.Call (.Name x p) (e :: es) [] pos) (tCB r t) := by
  intro pins s σ H Q I h
  refine wpAny_Call_Name_kw (ld_blt I hg hm hv ?_ hn hdb)
  exact PyProof.Rows.callWith_builtin1 (thn (ha pos pins s σ H _ I h) fun us s1 ⟨vs, H1, I1, r1, q1⟩ => hc pins s1 σ H1 vs us Q I1 r1 q1) he hpl
/-- T(e, ..), T a built-in type -/
theorem pe_callTy (hc : CallR X (.type T) r) (hg : Gl X x) (hm : X.mg x = none) (hv : bootBuiltins x = some (.type T)) (ha : PA X (e :: es) t) (hn : x ≠ "__name__" := by decide) (hdb : (x == ("__debug__" : Str)) = false := by decide)
    (he : starEach (e :: es) X.env = (false, eval e X.env) :: starEach es X.env := by rfl) (hpl : (backTo pos (starEach es X.env)).any (·.1) = false := by rfl) : PE X (.Call (.Name x p) (e :: es) [] pos) (tCB r t) := by
  intro pins s σ H Q I h
  refine wpAny_Call_Name_kw (ld_blt I hg hm hv ?_ hn hdb)
  exact PyProof.Rows.callWith_type1 (thn (ha pos pins s σ H _ I h) fun us s1 ⟨vs, H1, I1, r1, q1⟩ => hc pins s1 σ H1 vs us Q I1 r1 q1) he hpl
end
end L2

namespace HT
open PySem PyProof.Rows

section
open PySem.SeqAt
open PySem.AutoSeq1 (wpAny_loadPart')
open PySem.MeetsSeq PySem.MeetsSeq2 PySem.MeetsSeq3

end

section
variable {prog : Program} {w : World} {A : Around} {E : Value → Shared → Prop} {s : Shared}

/-- t + u, t not empty -/
theorem cat_tup {t b : Addr} {vs ws : List Value} {Q : Value → Shared → Prop} (ht : IsTup s.heap t vs.toArray) (hb : IsTup s.heap b ws.toArray) (hv : vs ≠ [])
    (h1 : ws = [] → Q (.ref t) s) (h2 : ws ≠ [] → Q (.ref s.heap.objs.size) { s with heap := s.heap.push { cls := .type "tuple", data := .seq (vs ++ ws).toArray } })
    (hsz : vs.length + ws.length ≤ sizeLine) : wpAny (model prog w) A (binaryOp .Add (.ref t) (.ref b)) Q E s := by
  obtain ⟨⟨cls, dd, data, sl⟩, ho, hc, n, hd⟩ := id ht
  obtain ⟨⟨cls2, dd2, data2, sl2⟩, ho2, hc2, n2, hd2⟩ := id hb
  simp only at hc hd hc2 hd2
  subst hc hd hc2 hd2
  have e : vs.toArray ++ ws.toArray = (vs ++ ws).toArray := by simp
  by_cases hw : ws = []
  · exact concat_meets ⟨_, ho, rfl⟩ ⟨_, ho2, rfl⟩ noFill_tuple_add seq_tuple_add PySem.F.slot_tuple_add PySem.F.entry_tuple_add (PySem.F.args_tuple_add_2 _ _)
      (tuple_addW1 t b vs.toArray ws.toArray n n2 dd dd2 sl sl2 (by simpa using hv) (by simp [hw])) ⟨ho, ho2, h1 hw⟩
  · refine concat_meets ⟨_, ho, rfl⟩ ⟨_, ho2, rfl⟩ noFill_tuple_add seq_tuple_add PySem.F.slot_tuple_add PySem.F.entry_tuple_add (PySem.F.args_tuple_add_2 _ _)
      (tuple_addW2 t b vs.toArray ws.toArray n n2 dd dd2 sl sl2 (by simpa using hv) (by simpa using hw) (by rw [List.size_toArray, List.size_toArray]; exact hsz)) ⟨ho, ho2, ?_⟩
    rw [e]
    exact h2 hw

/-! ### t[a:b], not the whole -/
/-- a slice's bound as a place among n (d where it is left out) -/
def sIx (n d : Nat) : Option Int → Nat
  | none => d
  | some v => if v < 0 then (v + (n : Int)).toNat else min v.toNat n
theorem sIx_nat (n d k : Nat) : sIx n d (some (k : Int)) = min k n := by
  show (if (k : Int) < 0 then ((k : Int) + (n : Int)).toNat else min (k : Int).toNat n) = min k n
  rw [if_neg (by omega), Int.toNat_natCast]
end
end HT

namespace L2
open PySem PySem.Spec PyProof.Rows

/-! ### the parts of a slice -/
abbrev TO := St → Hp → (Option Int → Hp → Prop) → Prop
/-- a slice's part (left out, or an int) -/
def PO (X : Cx) (e : Option Expr) (t : TO) : Prop :=
  ∀ (pins : List (Addr × Obj)) (s : Shared) (σ : St) (H : Hp) (Q : Option Int → Hp → Prop), Inv X pins σ H s → t σ H Q →
    wpAny (model X.prog X.w) X.A (evalPart e X.env) (fun u s' => ∃ o H', Inv X pins σ H' s' ∧ IsPart u o ∧ Q o H') X.xe s
def tNoPart : TO := fun _ H Q => Q none H
def tPart (t : TE) : TO := fun σ H Q => t σ H fun x H1 => ∃ i, x = .int i ∧ Q (some i) H1

theorem intsAre_of {ns : List Int} : ∀ {us : List Value}, Vals (ns.map V.int) us → IntsAre us ns := by
  induction ns with
  | nil => intro us r; rw [List.map_nil] at r; cases r; exact .nil
  | cons n ns ih =>
    intro us r
    rw [List.map_cons] at r
    cases r with
    | cons r1 r2 =>
      obtain ⟨t, e⟩ := r1
      subst e
      exact .cons n t (ih r2)

section
variable {X : Cx} {e : Expr} {te : TE} {lo hi : Option Expr} {tl th : TO} {pos p2 : Pos}

theorem po_none : PO X none tNoPart := by
  intro pins s σ H Q I h
  rw [evalPart_none]
  exact wpAny_pure ⟨none, H, I, .none, h⟩
theorem po_some (h : PE X e te) : PO X (some e) (tPart te) := by
  intro pins s σ H Q I hw
  rw [evalPart_some]
  refine thn (h pins s σ H _ I hw) fun u s1 ⟨x, H1, I1, r1, q1⟩ => ?_
  obtain ⟨i, rfl, q⟩ := q1
  obtain ⟨t, rfl⟩ := r1
  exact ⟨some i, H1, I1, .int i t, q⟩

/-- what a slice of a value is, by values: the slice object stands at sl -/
def SlR (X : Cx) (r : V → Option Int → Option Int → Hp → VK → Prop) : Prop :=
  ∀ (pins : List (Addr × Obj)) (s : Shared) (σ : St) (H : Hp) (x : V) (v vl vu : Value) (lo hi : Option Int) (sl : Addr) (Q : VK), Inv X pins σ H s → RelV x v → s.heap.IsSliceOf sl vl vu .none → IsPart vl lo → IsPart vu hi → r x lo hi H Q →
    ∃ T id, typeLookup (.type T) "__getitem__" = pure (some (.builtin id)) ∧ s.TypeIs v T ∧ wpAny (model X.prog X.w) X.A (getItem v (.ref sl)) (EP X pins σ Q) X.xe s
def tSl (r : V → Option Int → Option Int → Hp → VK → Prop) (te : TE) (tl th : TO) : TE := fun σ H Q => te σ H fun x H1 => tl σ H1 fun l H2 => th σ H2 fun u H3 => r x l u H3 Q
/-- a[lo:hi], any a -/
theorem pe_slice {r : V → Option Int → Option Int → Hp → VK → Prop} (hr : SlR X r) (he : PE X e te) (hl : PO X lo tl) (hu : PO X hi th) : PE X (.Subscript e (.Slice lo hi none p2) pos) (tSl r te tl th) := by
  intro pins s σ H Q I h
  refine Subscript_ (thn (he pins s σ H _ I h) fun v s1 ⟨x, H1, I1, r1, q1⟩ => ?_)
  refine wpAny_Slice (thn (hl pins s1 σ H1 _ I1 q1) fun vl s2 ⟨l, H2, I2, pl, q2⟩ => thn (hu pins s2 σ H2 _ I2 q2) fun vu s3 ⟨u, H3, I3, pu, q3⟩ => ?_)
  rw [evalPart_none]
  refine wpAny_pure ?_
  have I4 : Inv X pins σ H3 { s3 with heap := s3.heap.push { cls := .type "slice", data := .fields #[vl, vu, .none] } } := I3.kept (t' := s3.toks) fun b ob q => Heap.get?_push_of_some _ q
  obtain ⟨T, id, hT, ht, hg⟩ := hr pins { s3 with heap := s3.heap.push { cls := .type "slice", data := .fields #[vl, vu, .none] } } σ H3 x v vl vu l u s3.heap.objs.size Q I4 r1 (Heap.IsSliceOf.new ..) pl pu q3
  show wpAny (model X.prog X.w) X.A (subscriptTail e (.Slice lo hi none p2) v (.ref s3.heap.objs.size)) (EP X pins σ Q) X.xe { s3 with heap := s3.heap.push { cls := .type "slice", data := .fields #[vl, vu, .none] } }
  exact tail_any (ops := [.ref s3.heap.objs.size, v]) ht hT hg (by with_unfolding_all rfl)

/-- the items of xs[lo:hi] -/
def cutV (xs : List V) (lo hi : Option Int) : List V := (xs.drop (HT.sIx xs.length 0 lo)).take (HT.sIx xs.length xs.length hi - HT.sIx xs.length 0 lo)
theorem cutV_length (xs : List V) (lo hi : Option Int) : (cutV xs lo hi).length ≤ xs.length := by
  unfold cutV
  rw [List.length_take, List.length_drop]
  omega
/-! ### t < u, t + u -/
/-- t + u, t not empty: u empty gives t itself -/
def rCatT (K : PySem.W.Frag) : R2 := fun x y H Q => ∃ a b xs ys, x = .ref a ∧ y = .ref b ∧ SqT K H a xs ∧ SqT K H b ys ∧ xs ≠ [] ∧ xs.length + ys.length ≤ sizeLine ∧
  (ys = [] → Q (.ref a) H) ∧ (ys ≠ [] → ∀ p, H p = none → Q (.ref p) (upd H p (.tup (xs ++ ys))))
theorem Vals.nil_iff {xs : List V} {us : List Value} (r : Vals xs us) : us = [] ↔ xs = [] := by
  cases r with
  | nil => simp
  | cons _ _ => simp
theorem op_catT : OpR X (binaryOp .Add) (rCatT X.K) := by
  intro pins s σ H x y v u Q I rx ry h
  obtain ⟨a, b, xs, ys, rfl, rfl, ha, hb, hx, hz, q1, q2⟩ := h
  cases rx
  cases ry
  obtain ⟨its, r1, p1, _⟩ := I.tuple ha
  obtain ⟨its2, r2, p2, _⟩ := I.tuple hb
  refine HT.cat_tup p1 p2 (fun z => hx (r1.nil_iff.mp z)) (fun z => ⟨.ref a, H, I, rfl, q1 (r2.nil_iff.mp z)⟩) (fun z => ?_) (by rw [← r1.length, ← r2.length]; exact hz)
  refine ⟨.ref s.heap.objs.size, _, I.laid (t' := s.toks) (o := .tup (xs ++ ys)) (fun b ob q => Heap.get?_push_of_some _ q) (Nat.le_refl _) ?_, rfl, q2 (fun w => z (r2.nil_iff.mpr w)) _ (I.hok.fresh (Nat.le_refl _))⟩
  exact ⟨by rw [List.length_append]; exact hz, _, r1.append r2, IsTup.new _ _⟩
end
end L2

namespace L2
open PySem PySem.Spec PyProof.Rows

/-! ### places -/
/-- the place that an index of any sign means -/
def ixN (n : Nat) (i : Int) : Option Nat := if 0 ≤ i then (if i < n then some i.toNat else none) else if -(n : Int) ≤ i then some (i + n).toNat else none
def atI {α : Type} (xs : List α) (i : Int) : Option α := (ixN xs.length i).bind fun j => xs[j]?
theorem ixN_seq {n : Nat} {i : Int} {j : Nat} (h : ixN n i = some j) : seqIndex? i n = some j ∧ j < n ∧ -(n : Int) ≤ i ∧ i < n := by
  unfold ixN at h
  by_cases h0 : 0 ≤ i
  · rw [if_pos h0] at h
    by_cases h1 : i < n
    · rw [if_pos h1] at h
      have e : i.toNat = j := Option.some.inj h
      exact ⟨by rw [seqIndex_of h0 h1, e], by omega, by omega, h1⟩
    · rw [if_neg h1] at h; cases h
  · rw [if_neg h0] at h
    by_cases h1 : -(n : Int) ≤ i
    · rw [if_pos h1] at h
      have e : (i + n).toNat = j := Option.some.inj h
      exact ⟨by rw [seqIndex_neg (by omega) h1, e], by omega, h1, by omega⟩
    · rw [if_neg h1] at h; cases h
theorem atI_get {α : Type} {xs : List α} {i : Int} {v : α} (h : atI xs i = some v) : ∃ j, seqIndex? i xs.length = some j ∧ xs[j]? = some v ∧ j < xs.length ∧ -(xs.length : Int) ≤ i ∧ i < xs.length := by
  unfold atI at h
  cases e : ixN xs.length i with
  | none => rw [e] at h; cases h
  | some j =>
    rw [e] at h
    obtain ⟨h1, h2, h3, h4⟩ := ixN_seq e
    exact ⟨j, h1, h, h2, h3, h4⟩
theorem atI_nat {α : Type} {xs : List α} {j : Nat} {v : α} (h : xs[j]? = some v) : atI xs (j : Int) = some v := by
  have hj : j < xs.length := (List.getElem?_eq_some_iff.mp h).1
  have e : ixN xs.length (j : Int) = some j := by
    unfold ixN
    rw [if_pos (by omega), if_pos (by omega)]; simp
  unfold atI; rw [e]; exact h
/-! ### what may be subscripted -/
/-- what stands as an index of a plain subscript -/
def PlainIx (b : Expr) : Prop := ∀ o i, subscripted b false o i = operate [o, i] (getItem o i)
/-- a subscript by values -/
def IxR (X : Cx) (r : R2) : Prop :=
  ∀ (value slice : Expr) (pins : List (Addr × Obj)) (s : Shared) (σ : St) (H : Hp) (x y : V) (v u : Value) (Q : VK), Inv X pins σ H s → RelV x v → RelV y u → r x y H Q →
    subscripted slice false v u = operate [v, u] (getItem v u) → wpAny (model X.prog X.w) X.A (subscriptTail value slice v u) (EP X pins σ Q) X.xe s
/-- a call of a builtin's method by values: the receiver, the arguments -/
def MtR (X : Cx) (id : String) (r : V → List V → Hp → VK → Prop) : Prop :=
  ∀ (pins : List (Addr × Obj)) (s : Shared) (σ : St) (H : Hp) (x : V) (xs : List V) (v : Value) (us : List Value) (Q : VK), Inv X pins σ H s → RelV x v → Vals xs us → r x xs H Q →
    wpAny (model X.prog X.w) X.A (call (.builtin id) (v :: us)) (EP X pins σ Q) X.xe s
section
variable {X : Cx} {a b : Expr} {ta tb : TE} {pos : Pos}
/-- a[b] -/
theorem pe_ix {r : R2} (hr : IxR X r) (ha : PE X a ta) (hb : PE X b tb) (hs : PlainIx b) : PE X (.Subscript a b pos) (tOp r ta tb) := by
  intro pins s σ H Q I h
  exact Subscript_ (binT ha hb I h fun v u s2 x y H2 I2 rx ry q => hr a b pins s2 σ H2 x y v u Q I2 rx ry q (hs _ _))

def rIxL (K : PySem.W.Frag) : R2 := fun x y H Q => ∃ p xs i v, x = .ref p ∧ y = .int i ∧ SqL K H p xs ∧ atI xs i = some v ∧ Q v H
def rIxT (K : PySem.W.Frag) : R2 := fun x y H Q => ∃ p xs i v, x = .ref p ∧ y = .int i ∧ SqT K H p xs ∧ atI xs i = some v ∧ Q v H
theorem ix_list : IxR X (rIxL X.K) := by
  intro value slice pins s σ H x y v u Q I rx ry h hs
  obtain ⟨p, xs, i, z, rfl, rfl, hq, he, q⟩ := h
  cases rx
  obtain ⟨t, rfl⟩ := ry
  obtain ⟨its, r, pl, hz⟩ := I.list hq
  obtain ⟨j, h1, h2, h3, h4, h5⟩ := atI_get he
  obtain ⟨w, ew, rw'⟩ := r.get h2
  have hl := r.length
  have hn := line63
  have fin : EP X pins σ Q w s := ⟨z, H, I, rw', q⟩
  by_cases h0 : 0 ≤ i
  · have hj : i.toNat = j := by
      rw [seqIndex_of h0 h5] at h1
      exact Option.some.inj h1
    exact item_listR pl.isList h0 (by omega) (by rw [hj]; simpa using ew) fin hs
  · have hj : (i + (its.toArray.size : Int)).toNat = j := by
      rw [seqIndex_neg (by omega) h4] at h1
      rw [List.size_toArray, ← hl]
      exact Option.some.inj h1
    exact subscriptTail_builtinR (x := w) pl.isList.typeIs slot_list_getitem.lookup
      (wpAny_getItem_list_neg (Q := fun r s' => r = w ∧ EP X pins σ Q r s') pl.isList (by omega) (by rw [List.size_toArray] <;> omega) (by omega) (by rw [hj]; simpa using ew) ⟨rfl, fin⟩) hs
theorem ix_tup : IxR X (rIxT X.K) := by
  intro value slice pins s σ H x y v u Q I rx ry h hs
  obtain ⟨p, xs, i, z, rfl, rfl, hq, he, q⟩ := h
  cases rx
  obtain ⟨t, rfl⟩ := ry
  obtain ⟨its, r, pl, hz⟩ := I.tuple hq
  obtain ⟨j, h1, h2, h3, h4, h5⟩ := atI_get he
  obtain ⟨w, ew, rw'⟩ := r.get h2
  have hl := r.length
  have hn := line63
  have fin : EP X pins σ Q w s := ⟨z, H, I, rw', q⟩
  exact subscriptTail_builtinR (x := w) pl.typeIs slot_tuple_getitem.lookup
    (getItem_tuple (j := j) (Q := fun r s' => r = w ∧ EP X pins σ Q r s') pl (by omega) (by omega) (by rw [List.size_toArray, ← hl]; exact h1) (by simpa using ew) ⟨rfl, fin⟩) hs
/-! ### xs[i] = v, any sign -/
/-- the list's object behind a store -/
theorem mapSeq_set (its : List Value) (n j : Nat) (u : Value) : Obj.mapSeq (·.setIfInBounds j u) { cls := .type "list", data := .seq its.toArray n } = { cls := .type "list", data := .seq (its.set j u).toArray n } := by
  simp [Obj.mapSeq]
theorem Inv.lst {pins : List (Addr × Obj)} {σ : St} {H : Hp} {s : Shared} {p : Addr} {xs : List V} (I : Inv X pins σ H s) (h : H p = some (.lst xs)) :
    ∃ (its : List Value) (n : Nat), Vals xs its ∧ s.heap.get? p = some { cls := .type "list", data := .seq its.toArray n } ∧ xs.length ≤ sizeLine := by
  obtain ⟨z, its, n, r, e⟩ := I.hok p _ h
  exact ⟨its, n, r, e, z⟩
/-- the list at p is written by an update of its object -/
theorem Inv.lstUpd {pins : List (Addr × Obj)} {σ : St} {H : Hp} {s : Shared} {p : Addr} {xs ys : List V} {its its' : List Value} {n n' : Nat} {f : Obj → Obj} (I : Inv X pins σ H s) (h : H p = some (.lst xs))
    (ho : s.heap.get? p = some { cls := .type "list", data := .seq its.toArray n }) (hf : f { cls := .type "list", data := .seq its.toArray n } = { cls := .type "list", data := .seq its'.toArray n' }) (r : Vals ys its') (hz : ys.length ≤ sizeLine) (t : Nat) :
    Inv X pins σ (upd H p (.lst ys)) { s with heap := s.heap.update p f, toks := t } := by
  have e : (s.heap.update p f).get? p = some { cls := .type "list", data := .seq its'.toArray n' } := by
    rw [Heap.get?_update_self f ho (by rw [hf] <;> rfl), hf]
  refine I.write (x := p) (e := p) (by rw [h]; trivial) (.inl rfl) (fun b u hb q => (Heap.get?_update_other _ _ (Ne.symm hb)).trans q) ⟨_, e⟩ ?_
  exact ⟨hz, its', n', r, e⟩
def rSetL : V → V → V → Hp → (Hp → Prop) → Prop := fun o i v H Q => ∃ p xs k j, o = .ref p ∧ i = .int k ∧ H p = some (.lst xs) ∧ ixN xs.length k = some j ∧ Q (upd H p (.lst (xs.set j v)))
theorem set_list : PSet X rSetL := by
  intro pins s σ H o i v ov iv u Q I ro ri rv h
  obtain ⟨p, xs, k, j, rfl, rfl, hp, hj, q⟩ := h
  cases ro
  obtain ⟨t, rfl⟩ := ri
  obtain ⟨its, n, r, ho, hz⟩ := I.lst hp
  obtain ⟨h1, h2, h3, h4⟩ := ixN_seq hj
  have hl := r.length
  have hn := line63
  have I' : Inv X pins σ (upd H p (.lst (xs.set j v))) { s with heap := s.heap.update p (Obj.mapSeq (·.setIfInBounds j u)) } :=
    I.lstUpd hp ho (mapSeq_set its n j u) (r.set rv j) (by rw [List.length_set]; exact hz) s.toks
  by_cases h0 : 0 ≤ k
  · have hk : k.toNat = j := by
      rw [seqIndex_of h0 h4] at h1
      exact Option.some.inj h1
    exact PySem.W.ki_setAt ho h0 (by omega) (by rw [List.size_toArray, ← hl]; exact h4) (by rw [hk]; exact ⟨_, I', q⟩)
  · have hk : (k + (its.toArray.size : Int)).toNat = j := by
      rw [seqIndex_neg (by omega) h3] at h1
      rw [List.size_toArray, ← hl]
      exact Option.some.inj h1
    exact PySem.W.ki_setBack ho (by omega) (by rw [List.size_toArray, ← hl]; exact h3) (by omega) (by rw [hk]; exact ⟨_, I', q⟩)

/-! ### slices -/
theorem slice_bounds (lo hi : Option Int) (n : Nat) : (sliceBounds lo hi none n).1 = ((HT.sIx n 0 lo : Nat) : Int) ∧ (sliceBounds lo hi none n).2.1 = ((HT.sIx n n hi : Nat) : Int) ∧ (sliceBounds lo hi none n).2.2 = 1 := by
  refine ⟨?_, ?_, rfl⟩
  · cases lo with
    | none => simp [sliceBounds, HT.sIx]
    | some i =>
      simp only [sliceBounds, HT.sIx, Option.getD_none, show (1 : Int) > 0 by decide, if_true]
      by_cases h : i < 0
      · simp only [h, if_true] <;> omega
      · simp only [h, if_false] <;> omega
  · cases hi with
    | none => simp [sliceBounds, HT.sIx]
    | some i =>
      simp only [sliceBounds, HT.sIx, Option.getD_none, show (1 : Int) > 0 by decide, if_true]
      by_cases h : i < 0
      · simp only [h, if_true] <;> omega
      · simp only [h, if_false] <;> omega
theorem slicePick_cut (its : List Value) (lo hi : Option Int) : slicePick its.toArray lo hi none = ((its.drop (HT.sIx its.length 0 lo)).take (HT.sIx its.length its.length hi - HT.sIx its.length 0 lo)).toArray := by
  obtain ⟨h1, h2, h3⟩ := slice_bounds lo hi its.toArray.size
  unfold slicePick
  rw [h1, h2, h3]
  simp only [sliceRange_one, pick_run, List.size_toArray] <;> rfl
/-- xs[lo:hi] of a list: a new list -/
def rSlL (K : PySem.W.Frag) : V → Option Int → Option Int → Hp → VK → Prop := fun x lo hi H Q => ∃ a xs, x = .ref a ∧ SqL K H a xs ∧ ∀ p, H p = none → Q (.ref p) (upd H p (.lst (cutV xs lo hi)))
theorem sl_list : SlR X (rSlL X.K) := by
  intro pins s σ H x v vl vu lo hi sl Q I rx hs pl pu h
  obtain ⟨a, xs, rfl, hx, q⟩ := h
  cases rx
  obtain ⟨its, r, ht, hz⟩ := I.list hx
  have hlen := r.length
  refine ⟨"list", _, slot_list_getitem.lookup, ht.isList.typeIs, ?_⟩
  refine wpAny_getItem_list_slice ht.isList hs pl pu .none (by simp) ?_ (by rw [List.size_toArray] <;> omega)
  rw [slicePick_cut, ← hlen]
  refine ⟨.ref s.heap.objs.size, _, I.laid (t' := s.toks) (o := .lst (cutV xs lo hi)) (fun b ob q => Heap.get?_push_of_some _ q) (Nat.le_refl _) ?_, rfl, q _ (I.hok.fresh (Nat.le_refl _))⟩
  exact ⟨Nat.le_trans (cutV_length xs lo hi) hz, _, 0, (r.drop (HT.sIx xs.length 0 lo)).take (HT.sIx xs.length xs.length hi - HT.sIx xs.length 0 lo), Heap.get?_push_size _ rfl⟩

/-! ### in, not in: flat items -/
def flatV : V → Bool
  | .non => true
  | .bl _ => true
  | .int _ => true
  | .str _ => true
  | _ => false
/-- == of flat values -/
def eqV : V → V → Bool
  | .non, .non => true
  | .bl a, .bl b => a == b
  | .bl a, .int b => (if a then 1 else 0) == b
  | .int a, .bl b => a == (if b then 1 else 0)
  | .int a, .int b => a == b
  | .str a, .str b => a == b
  | _, _ => false
theorem eqAt_V {A : Around} {s : Shared} {y x : V} {u v : Value} (ry : RelV y u) (rx : RelV x v) (fy : flatV y = true) (fx : flatV x = true) : SeqAt.EqAt A s u v (eqV y x) := by
  cases y with
  | non =>
    cases ry
    cases x with
    | non => cases rx; exact SeqAt.EqAt.same _
    | bl b => cases rx; exact SeqAt.EqAt.none_bool b
    | int b => obtain ⟨t, rfl⟩ := rx; exact SeqAt.EqAt.none_int b t
    | str b => obtain ⟨t, rfl⟩ := rx; exact SeqAt.EqAt.none_str b t
    | _ => exact absurd (show false = true from fx) Bool.false_ne_true
  | bl a =>
    cases ry
    cases x with
    | non => cases rx; exact SeqAt.EqAt.bool_none a
    | bl b => cases rx; exact SeqAt.EqAt.bool_bool a b
    | int b => obtain ⟨t, rfl⟩ := rx; exact SeqAt.EqAt.bool_int a b t
    | str b => obtain ⟨t, rfl⟩ := rx; exact SeqAt.EqAt.bool_str a b t
    | _ => exact absurd (show false = true from fx) Bool.false_ne_true
  | int a =>
    obtain ⟨t', rfl⟩ := ry
    cases x with
    | non => cases rx; exact SeqAt.EqAt.int_none a t'
    | bl b => cases rx; exact SeqAt.EqAt.int_bool a t' b
    | int b => obtain ⟨t, rfl⟩ := rx; exact SeqAt.EqAt.int_int a t' b t
    | str b => obtain ⟨t, rfl⟩ := rx; exact SeqAt.EqAt.int_str a t' b t
    | _ => exact absurd (show false = true from fx) Bool.false_ne_true
  | str a =>
    obtain ⟨t', rfl⟩ := ry
    cases x with
    | non => cases rx; exact SeqAt.EqAt.str_none a t'
    | bl b => cases rx; exact SeqAt.EqAt.str_bool a t' b
    | int b => obtain ⟨t, rfl⟩ := rx; exact SeqAt.EqAt.str_int a t' b t
    | str b => obtain ⟨t, rfl⟩ := rx; exact SeqAt.EqAt.str_str a t' b t
    | _ => exact absurd (show false = true from fx) Bool.false_ne_true
  | _ => exact absurd (show false = true from fy) Bool.false_ne_true
/-- the items' answers, read off the values (a value's own answer does not lean on its token) -/
def eqU (x : V) (u : Value) : Bool := match u with
  | .none => eqV .non x
  | .bool b => eqV (.bl b) x
  | .int i _ => eqV (.int i) x
  | .str z _ => eqV (.str z) x
  | _ => false
theorem eqU_of {x y : V} {u : Value} (r : RelV y u) (f : flatV y = true) : eqU x u = eqV y x := by
  cases y with
  | non => cases r; rfl
  | bl b => cases r; rfl
  | int i => obtain ⟨t, rfl⟩ := r; rfl
  | str z => obtain ⟨t, rfl⟩ := r; rfl
  | _ => exact absurd (show false = true from f) Bool.false_ne_true
theorem any_eqU {x : V} : ∀ {xs : List V} {us : List Value}, Vals xs us → xs.all flatV = true → us.any (eqU x) = xs.any fun y => eqV y x
  | _, _, .nil, _ => rfl
  | y :: xs, u :: us, .cons r t, f => by
    rw [List.all_cons, Bool.and_eq_true] at f
    rw [List.any_cons, List.any_cons, eqU_of r f.1, any_eqU t f.2]
theorem mem_eqAt {A : Around} {s : Shared} {x : V} {v : Value} (rx : RelV x v) (fx : flatV x = true) : ∀ {xs : List V} {us : List Value}, Vals xs us → xs.all flatV = true → ∀ u ∈ us, SeqAt.EqAt A s u v (eqU x u)
  | _, _, .nil, _ => fun u hu => by cases hu
  | y :: xs, u :: us, .cons r t, f => fun u' hu => by
    rw [List.all_cons, Bool.and_eq_true] at f
    rcases List.mem_cons.mp hu with rfl | hu
    · rw [eqU_of r f.1]; exact eqAt_V r rx f.1 fx
    · exact mem_eqAt rx fx t f.2 u' hu
def inV (x : V) (xs : List V) : Bool := xs.any fun y => eqV y x
/-- x in a list or tuple of flat items -/
def rIn (K : PySem.W.Frag) (neg : Bool) : R2 := fun x y H Q => ∃ p xs, y = .ref p ∧ (SqL K H p xs ∨ SqT K H p xs) ∧ flatV x = true ∧ xs.all flatV = true ∧ Q (.bl (if neg then !inV x xs else inV x xs)) H
theorem op_in_seq : OpR X (compareOp .In) (rIn X.K false) := by
  intro pins s σ H x y v u Q I rx ry h
  obtain ⟨p, xs, rfl, hq, fx, fs, q⟩ := h
  cases ry
  rcases hq with hq | hq
  · obtain ⟨its, r, pl, hz⟩ := I.list hq
    refine SeqAt.in_listAt (eqU x) pl.isList (fun w hw => mem_eqAt rx fx r fs w (by simpa using hw)) ⟨.bl _, H, I, rfl, ?_⟩
    rw [show its.toArray.any (eqU x) = its.any (eqU x) by simp, any_eqU r fs]
    exact q
  · obtain ⟨its, r, pl, hz⟩ := I.tuple hq
    refine SeqAt.in_tupleAt (eqU x) pl (fun w hw => mem_eqAt rx fx r fs w (by simpa using hw)) ⟨.bl _, H, I, rfl, ?_⟩
    rw [show its.toArray.any (eqU x) = its.any (eqU x) by simp, any_eqU r fs]
    exact q
theorem op_notIn_seq : OpR X (compareOp .NotIn) (rIn X.K true) := by
  intro pins s σ H x y v u Q I rx ry h
  obtain ⟨p, xs, rfl, hq, fx, fs, q⟩ := h
  cases ry
  rcases hq with hq | hq
  · obtain ⟨its, r, pl, hz⟩ := I.list hq
    refine SeqAt.notIn_listAt (eqU x) pl.isList (fun w hw => mem_eqAt rx fx r fs w (by simpa using hw)) ⟨.bl _, H, I, rfl, ?_⟩
    rw [show its.toArray.any (eqU x) = its.any (eqU x) by simp, any_eqU r fs]
    exact q
  · obtain ⟨its, r, pl, hz⟩ := I.tuple hq
    refine SeqAt.notIn_tupleAt (eqU x) pl (fun w hw => mem_eqAt rx fx r fs w (by simpa using hw)) ⟨.bl _, H, I, rfl, ?_⟩
    rw [show its.toArray.any (eqU x) = its.any (eqU x) by simp, any_eqU r fs]
    exact q
/-! ### len, list(x), tuple(x) of any list or tuple that is read -/
theorem call_len_seq : CallR X (.builtin "len") (fun xs H Q => ∃ p ys, xs = [.ref p] ∧ (SqL X.K H p ys ∨ SqT X.K H p ys) ∧ Q (.int ys.length) H) := by
  intro pins s σ H xs us Q I r h
  obtain ⟨p, ys, rfl, hq, q⟩ := h
  obtain ⟨u, rfl, rx⟩ := vals1 r
  cases rx
  have hn := line63
  rcases hq with hq | hq
  · obtain ⟨its, r', pl, hz⟩ := I.list hq
    have hlen := r'.length
    exact Calls.call_len_list pl.isList (by simp only [List.size_toArray] <;> omega) ⟨.int ys.length, H, I.tok _, ⟨s.toks + 1, by rw [List.size_toArray, hlen]⟩, q⟩
  · obtain ⟨its, r', pl, hz⟩ := I.tuple hq
    have hlen := r'.length
    exact len_tuple pl (by simp only [List.size_toArray] <;> omega) ⟨.int ys.length, H, I.tok _, ⟨s.toks + 1, by rw [List.size_toArray, hlen]⟩, q⟩
theorem call_tuple_of : CallR X (.type "tuple") (fun xs H Q => ∃ p ys, xs = [.ref p] ∧ ((SqL X.K H p ys ∧ ∀ l, H l = none → Q (.ref l) (upd H l (.tup ys))) ∨ (SqT X.K H p ys ∧ Q (.ref p) H))) := by
  intro pins s σ H xs us Q I r h
  obtain ⟨p, ys, rfl, h⟩ := h
  obtain ⟨u, rfl, rx⟩ := vals1 r
  cases rx
  rcases h with ⟨hq, q⟩ | ⟨hq, q⟩
  · obtain ⟨its, r', pl, hz⟩ := I.list hq
    have hlen := r'.length
    refine call_tuple_list pl.isList (fun h' kp => ?_) (by simp only [List.size_toArray] <;> omega)
    have I1 : Inv X pins σ H { s with heap := h' } := I.kept (t' := s.toks) kp
    have I2 : Inv X pins σ (upd H h'.objs.size (.tup ys)) { s with heap := h'.push { cls := .type "tuple", data := .seq its.toArray } } :=
      I1.laid (t' := s.toks) (fun b o e => Heap.get?_push_of_some _ e) (Nat.le_refl _) (show ObjOk X.prog X.w _ _ _ (.tup ys) from ⟨hz, its, r', IsTup.new _ _⟩)
    exact ⟨.ref h'.objs.size, _, I2, rfl, q _ (I1.hok.fresh (Nat.le_refl _))⟩
  · obtain ⟨its, r', pl, hz⟩ := I.tuple hq
    exact call_tuple_same pl ⟨.ref p, H, I, rfl, q⟩

/-! ### the call of a builtin's method: o.m(..) -/
/-- the value is of that builtin type -/
def tyV (K : PySem.W.Frag) (T : String) (x : V) (H : Hp) : Prop := match x with
  | .str _ => T = "str"
  | .int _ => T = "int"
  | .ref p => (T = "list" ∧ ∃ xs, SqL K H p xs) ∨ (T = "tuple" ∧ ∃ o, K.lookup p = some o ∧ o.cls = .type "tuple" ∧ o.dict = none) ∨
      (T = "dict" ∧ ((∃ kvs, H p = some (.dK kvs)) ∨ ∃ kvs, H p = some (.dT kvs))) ∨ (T = "set" ∧ ∃ S n, H p = some (.set S n))
  | _ => False
theorem tyV_is {pins : List (Addr × Obj)} {σ : St} {H : Hp} {s : Shared} {T : String} {x : V} {v : Value} (I : Inv X pins σ H s) (r : RelV x v) (ty : tyV X.K T x H) :
    s.TypeIs v T ∧ ∀ a, v = .ref a → ∃ ob, s.heap.get? a = some ob ∧ ob.dict = none := by
  cases x with
  | str z =>
    obtain ⟨t, rfl⟩ := r
    cases (show T = "str" from ty)
    exact ⟨typeIs_str s z t, fun _ e => nomatch e⟩
  | int i =>
    obtain ⟨t, rfl⟩ := r
    cases (show T = "int" from ty)
    exact ⟨typeIs_int s i t, fun _ e => nomatch e⟩
  | ref p =>
    cases r
    rcases ty with ⟨rfl, xs, hq⟩ | ⟨rfl, o, hk, hc, hd⟩ | ⟨rfl, hk⟩ | ⟨rfl, S, n, hk⟩
    · obtain ⟨its, _, pl, _⟩ := I.list hq
      refine ⟨pl.isList.typeIs, fun a e => ?_⟩
      cases e
      obtain ⟨o, n, e, c, hd, _⟩ := pl
      exact ⟨o, e, hd⟩
    · refine ⟨⟨o, I.kIn p o hk, hc⟩, fun a e => ?_⟩
      cases e
      exact ⟨o, I.kIn _ o hk, hd⟩
    · have z : ∃ o, s.heap.get? p = some o ∧ o.ExactDict := by
        rcases hk with ⟨kvs, hk⟩ | ⟨kvs, hk⟩
        · obtain ⟨_, _, _, _, o, _, _, e, ex, _⟩ := I.hok p _ hk
          exact ⟨o, e, ex⟩
        · obtain ⟨_, _, _, _, o, _, _, e, ex, _⟩ := I.hok p _ hk
          exact ⟨o, e, ex⟩
      obtain ⟨o, e, ex⟩ := z
      refine ⟨⟨o, e, ex.1⟩, fun a e2 => ?_⟩
      cases e2
      exact ⟨o, e, ex.2.1⟩
    · obtain ⟨o, _, _, _, e, ex, _⟩ := I.hok p _ hk
      refine ⟨⟨o, e, ex.1⟩, fun a e2 => ?_⟩
      cases e2
      exact ⟨o, e, ex.2.1⟩
  | _ => exact False.elim ty
def tBM (K : PySem.W.Frag) (T : String) (r : V → List V → Hp → VK → Prop) (to : TE) (t : TA) : TE := fun σ H Q => to σ H fun x H1 => tyV K T x H1 ∧ t σ H1 fun xs H2 => r x xs H2 Q
variable {o e : Expr} {es : List Expr} {to : TE} {t : TA} {name : Str} {apos cpos : Pos} {T id : String} {r : V → List V → Hp → VK → Prop}
theorem pe_bm (pa : PlainAttrs T) (slot : Slot T name id) (hty : typeOf (.builtin id) = pure (.type "method_descriptor")) (hm : MtR X id r) (ho : PE X o to) (ha : PA X (e :: es) t)
    (hbase : attributeBase o name X.env (eval o X.env) = eval o X.env := by rfl)
    (hfew : ((backTo cpos (starEach (e :: es) X.env)).all (fun x => !x.1) && (backToKw cpos (keywordEach [] X.env)).all (fun x => x.1.isSome)
      && decide ((e :: es).length + ([] : List Keyword).length + (if ([] : List Keyword).isEmpty then 0 else 1) < 30)) = true := by rfl)
    (hline : (apos.endLine == cpos.line) = true := by rfl) (hs : starEach (e :: es) X.env = (false, eval e X.env) :: starEach es X.env := by rfl) (hplain : (backTo cpos (starEach es X.env)).any (·.1) = false := by rfl) :
    PE X (.Call (.Attribute o name apos) (e :: es) [] cpos) (tBM X.K T r to t) := by
  intro pins s σ H Q I h
  refine wpAny_Call_method_late hbase hfew hline rfl (thn (ho pins s σ H _ I h) fun v s1 ⟨x, H1, I1, r1, ty, q1⟩ => ?_)
  obtain ⟨h1, h2⟩ := tyV_is I1 r1 ty
  refine ⟨T, id, pa, slot, hty, h1, h2, ?_⟩
  have hA := ha cpos pins s1 σ H1 _ I1 q1
  rw [hs] at hA ⊢
  refine Calls.callWith_builtin (by show (false || (backTo cpos (starEach es X.env)).any (·.1)) = false; rw [hplain] <;> rfl) (Calls.evalArgs_plain ?_)
  exact thn hA fun us s2 ⟨vs, H2, I2, r2, q2⟩ => hm pins s2 σ H2 x vs v us Q I2 r1 r2 q2
/- xs.append(e), list.index on a module's tuple .. are MtR facts of 06m -/
end
end L2

namespace L2
open PySem PySem.Spec PyProof.Rows

def MtM (X : Cx) (id : String) (r : V → List V → Hp → VK → Prop) : Prop :=
  ∀ (pins : List (Addr × Obj)) (s : Shared) (σ : St) (H : Hp) (x : V) (xs : List V) (v : Value) (us : List Value) (Q : VK), Inv X pins σ H s → RelV x v → Vals xs us → r x xs H Q →
    wpAny (model X.prog X.w) X.A (call (.builtin id) (v :: us)) (EP X pins σ Q) X.xe s

/-! ### lists of values -/
theorem Vals.one : ∀ {x : V} {us : List Value}, Vals [x] us → ∃ u, us = [u] ∧ RelV x u
  | _, _, .cons r .nil => ⟨_, rfl, r⟩
theorem Vals.eraseIdx : ∀ {xs : List V} {us : List Value} (i : Nat), Vals xs us → Vals (xs.eraseIdx i) (us.eraseIdx i)
  | _, _, _, .nil => .nil
  | _, _, 0, .cons _ t => t
  | _, _, i + 1, .cons r t => .cons r (Vals.eraseIdx i t)
theorem len_erase {α : Type} : ∀ (l : List α) (i : Nat), (l.eraseIdx i).length ≤ l.length
  | [], _ => Nat.le_refl _
  | _ :: _, 0 => Nat.le_succ _
  | _ :: r, i + 1 => Nat.succ_le_succ (len_erase r i)
section
variable {X : Cx} {pins : List (Addr × Obj)} {σ : St} {H : Hp} {s : Shared} {l b : Addr} {xs ys zs : List V}

/-! ### the two steps: a tracked list is rewritten, a new list is laid -/
theorem Inv.lset {its its' : List Value} {n : Nat} {f : Array Value → Array Value} {t' : Nat} (I : Inv X pins σ H s) (hH : H l = some (.lst xs))
    (e : s.heap.get? l = some { cls := .type "list", data := .seq its.toArray n }) (hf : f its.toArray = its'.toArray) (hv : Vals ys its') (hz : ys.length ≤ sizeLine) :
    Inv X pins σ (upd H l (.lst ys)) { s with heap := s.heap.update l (Obj.mapSeq f), toks := t' } := by
  have q := PySem.IsL.update e f
  rw [hf] at q
  refine I.write (x := l) (e := l) (by rw [hH]; exact trivial) (.inl rfl) (fun b' u hb hu => (Heap.get?_update_other s.heap (Obj.mapSeq f) (Ne.symm hb)).trans hu) ⟨_, q⟩ ?_
  exact ⟨hz, its', _, hv, q⟩
theorem Inv.lnew {its : List Value} {t' : Nat} (I : Inv X pins σ H s) (hv : Vals ys its) (hz : ys.length ≤ sizeLine) :
    Inv X pins σ (upd H s.heap.objs.size (.lst ys)) { s with heap := s.heap.push { cls := .type "list", data := .seq its.toArray }, toks := t' } :=
  I.laid (fun _ _ q => Heap.get?_push_of_some _ q) (Nat.le_refl _) ⟨hz, its, 0, hv, Heap.get?_push_size _ rfl⟩
theorem Inv.fresh (I : Inv X pins σ H s) : H s.heap.objs.size = none := I.hok.fresh (Nat.le_refl _)
theorem Inv.lstM (I : Inv X pins σ H s) (hH : H l = some (.lst xs)) : xs.length ≤ sizeLine ∧ ∃ (its : List Value) (n : Nat), Vals xs its ∧ xs.length = its.length ∧ s.heap.get? l = some { cls := .type "list", data := .seq its.toArray n } := by
  obtain ⟨z, its, n, r, e⟩ := I.hok l _ hH
  exact ⟨z, its, n, r, r.length, e⟩

theorem notLongL {n : Nat} (h : n ≤ sizeLine) : Builtin.List.listTooLong n = false := by
  unfold Builtin.List.listTooLong
  exact decide_eq_false (by omega)
end

section
variable {X : Cx}

/-! ### methods -/
def rAppend : V → List V → Hp → VK → Prop := fun x vs H Q => ∃ l xs y, x = .ref l ∧ vs = [y] ∧ H l = some (.lst xs) ∧ xs.length < sizeLine ∧ Q .non (upd H l (.lst (xs ++ [y])))
theorem mt_append : MtM X "list.append" rAppend := by
  intro pins s σ H x vs v us Q I rx rv h
  obtain ⟨l, xs, y, rfl, rfl, hH, hz, q⟩ := h
  cases rx
  obtain ⟨u, rfl, ru⟩ := rv.one
  obtain ⟨z, its, n, r, hl, e⟩ := I.lstM hH
  refine call_meets F.slot_list_append ⟨_, e, rfl⟩ F.entry_list_append (F.args_list_append_2 _ _) (PySem.list_append l its.toArray n u (by rw [List.size_toArray]; omega)) ⟨e, ?_⟩
  refine ⟨.non, _, I.lset (its' := its ++ [u]) hH e (by simp) (r.append (.cons ru .nil)) ?_, rfl, q⟩
  rw [List.length_append, List.length_singleton]
  omega

def rPopAt : V → List V → Hp → VK → Prop := fun x vs H Q => ∃ l xs i k y, x = .ref l ∧ vs = [.int i] ∧ H l = some (.lst xs) ∧ -(2 ^ 63) ≤ i ∧ i < 2 ^ 63 ∧ seqIndex? i xs.length = some k ∧ xs[k]? = some y ∧ Q y (upd H l (.lst (xs.eraseIdx k)))
theorem mt_popAt : MtM X "list.pop" rPopAt := by
  intro pins s σ H x vs v us Q I rx rv h
  obtain ⟨l, xs, i, k, y, rfl, rfl, hH, h1, h2, hk, hy, q⟩ := h
  cases rx
  obtain ⟨u, rfl, ru⟩ := rv.one
  obtain ⟨t, rfl⟩ := ru
  obtain ⟨z, its, n, r, hl, e⟩ := I.lstM hH
  obtain ⟨w, hw, rw'⟩ := r.get hy
  refine call_meets F.slot_list_pop ⟨_, e, rfl⟩ F.entry_list_pop (F.args_list_pop_2 _ _)
    (MeetsSeq.list_pop_at l its.toArray n i t k w (fitsIndex_both h1 h2) (by rw [List.size_toArray, ← hl]; exact hk) (by rw [← Array.getElem?_toList]; exact hw) (by rw [List.size_toArray]; omega)) ⟨e, ?_⟩
  refine ⟨y, _, I.lset (its' := its.eraseIdx k) hH e ?_ (r.eraseIdx k) ?_, rw', q⟩
  · show its.toArray.eraseIdxIfInBounds k = (its.eraseIdx k).toArray
    rw [List.eraseIdxIfInBounds_toArray]
  · have := len_erase xs k
    omega

/-! ### list + list, list += list, list * int -/
def rCat : R2 := fun x y H Q => ∃ l b xs zs, x = .ref l ∧ y = .ref b ∧ H l = some (.lst xs) ∧ H b = some (.lst zs) ∧ xs.length + zs.length ≤ sizeLine ∧ ∀ p, H p = none → Q (.ref p) (upd H p (.lst (xs ++ zs)))
theorem op_cat : OpR X (binaryOp .Add) rCat := by
  intro pins s σ H x y v u Q I rx ry h
  obtain ⟨l, b, xs, zs, rfl, rfl, hH, hB, hz, q⟩ := h
  cases rx
  cases ry
  obtain ⟨z, its, n, r, hl, e⟩ := I.lstM hH
  obtain ⟨z2, its2, n2, r2, hl2, e2⟩ := I.lstM hB
  refine PySem.P.add_list e e2 ?_ (by rw [List.size_toArray, List.size_toArray]; omega)
  have ea : its.toArray ++ its2.toArray = (its ++ its2).toArray := by simp
  rw [ea]
  exact ⟨.ref _, _, I.lnew (t' := s.toks) (r.append r2) (by rw [List.length_append]; omega), rfl, q _ I.fresh⟩
/-! ### del xs[i] -/
end

/-! ### xs[a:b] = ys -/
section
variable {prog : Program} {w : World} {A : Around} {E : Value → Shared → Prop} {s : Shared}
end

section
variable {X : Cx}
end
end L2

namespace Att
open PySem PySem.W PySem.Calls PyProof.Rows

/-! ### the script -/
theorem ints_of_wellAll {P : Params} {h : Heap} : ∀ (ns : List Int) (vs : List Value), WellAll P h vs (ns.map WData.int) → IntsAre vs ns := by
  intro ns
  induction ns with
  | nil =>
    intro vs w
    rw [List.map_nil] at w
    cases w
    exact .nil
  | cons n ns ih =>
    intro vs w
    rw [List.map_cons] at w
    cases w with
    | cons a b =>
      cases a
      exact .cons _ _ (ih _ b)

theorem script_of {l : OpenLaw} {n : Nat} (hn : l.most = some n) {P : Params} {h : Heap} {args : List WData} {vals : List Value}
    (hpre : l.row.toRowW.claim.pre args = true) (hwl : WellAll P h vals args) :
    ∃ a vs ns, vals = [Value.ref a] ∧ args = [WData.list (ns.map WData.int)] ∧ h.get? a = some { cls := .type "list", data := .seq vs.toArray } ∧ IntsAre vs ns ∧ ns.length ≤ n := by
  have hsh : WShape.hasAll [] args [.list .int] = true := (pre_splitW hpre).1
  have hc : l.pre.holds [] { args := args } = true := (pre_splitW hpre).2
  obtain ⟨d, r, rfl, h1, h2⟩ := hasAllW_cons hsh
  obtain rfl := hasAllW_nil h2
  obtain ⟨xs, rfl, h3⟩ := hasW_list h1
  obtain ⟨ns, rfl⟩ := items_int h3
  have hlen : ns.length ≤ n := by
    unfold OpenLaw.pre at hc
    have h4 : (WTm.not (.lt (.lit (.int (n : Int))) (.len (.arg 0)))).holds [] { args := [.list (ns.map .int)] } = true := by
      have h4 := (holds_andW hc).1
      rw [hn] at h4
      exact h4
    have h5 := condW_of h4 (w_not (w_lt w_lit (w_len_list (w_arg rfl))))
    rw [List.length_map] at h5
    refine Nat.le_of_not_lt fun q => ?_
    have q' : (n : Int) < ((ns.length : Nat) : Int) := by omega
    first
      | (rw [decide_eq_true q'] at h5; exact absurd h5 (by decide))
      | (simp at h5; omega)
  cases hwl with
  | cons w1 w2 =>
    cases w2
    cases w1 with
    | list ho hall => exact ⟨_, _, ns, rfl, rfl, ho, ints_of_wellAll ns _ hall, hlen⟩

theorem post_true (l : OpenLaw) (args : List WData) : l.row.toRowW.claim.post args (.bool true) args = true :=
  postW_of (r := l.row.toRowW) (X := (true == true))
    (show WShape.has [] (.bool true) .bool = true by first | rfl | decide | simp [WShape.has, WShape.arms, WShape.armsAll])
    (show (WTm.eq .res (.lit (.bool true))).value [] { args := args, res := some (.bool true), after := args } = some (.bool (true == true)) from w_eq_bool (w_res rfl) w_lit) rfl

/-! ### the attachment: holds_open's last premise (the goal 'hc' behind k_head) from a wpAny of the law's body -/
/-- the same from a codeAny of the CALL (for a layer whose function contracts speak of calls) -/
theorem attach_call {l : OpenLaw} {n : Nat} {q : Program} {loose : List Str} {XP : (Str → Option Value) → Heap → Prop} {YP : World → Heap → Prop} {d : DefRec}
    (hn : l.most = some n) (hdf : d.params.defaults = [])
    (call : ∀ (w : World) (s₀ s₁ : Shared) (mg mb : Str → Option Value) (fa : Addr) (o : Obj) (pm cd doc : Value) (a : Addr) (vs : List Value) (ns : List Int),
      Ground q loose [] XP w s₀ mg mb s₁.heap → YP w s₁.heap →
      s₁.heap.get? fa = some o → o.data = .func (docDef d.name d.params d.body d.scope pm cd doc) → s₁.heap.CodeRec cd d.name → mg d.name = some (.ref fa) →
      s₁.heap.get? a = some { cls := .type "list", data := .seq vs.toArray } → IntsAre vs ns → ns.length ≤ n → s₁.gens = #[] →
      codeAny (model l.prog w) callerA (.call (.ref fa) ⟨[.ref a], []⟩) (fun r s' => r = .ok (.ret (.bool true)) ∧ OldK s₁.heap s'.heap ∧ s'.os = s₁.os ∧ AllBare s'.gens) s₁) :
    WalkO q loose XP YP l.row.toRowW d [] (fun f vs => PySem.call f vs) := by
  intro w s₀ s₁ mg mb G Y fa o pm cd doc dV kV ho hd hcd hD hmg hg args vals as hpre hlay hrd hwl hlo
  obtain rfl : dV = .none := Dflts.none hD hdf
  obtain rfl : kV = .none := Dflts.noKw hD
  obtain ⟨a, vs, ns, rfl, rfl, hobj, hints, hlen⟩ := script_of hn hpre hwl
  refine enter_call (codeAny_mono (call w s₀ s₁ mg mb fa o pm cd doc a vs ns G Y ho (fd_plain hd) hcd hmg hobj hints hlen hg) fun r s' hq => ?_)
  obtain ⟨rfl, h2, h3, h4⟩ := hq
  exact ⟨.inl ⟨.bool true, .bool true, [], rfl, fun _ => rfl, .bool true, post_true l _, fun _ => ⟨List.Pairwise.nil, fun _ hm => (nomatch hm)⟩⟩, h2, h3, h4⟩

/-! ### rules over ANY heap (no ledger) from facts about the written part K: the library's own take a ledger (News) for what they write -/
section
variable {prog : Program} {w : World} {A : Around} {E : Value → Shared → Prop} {s : Shared} {K : Frag}

/-! the whole heap as the ledger: makes every rule that writes through a ledger a rule over any heap -/
end
end Att

namespace L2
open PySem PySem.Spec PyProof.Rows

theorem vals_ints : ∀ {vs : List Value} {ns : List Int}, IntsAre vs ns → Vals (ns.map V.int) vs
  | _, _, .nil => .nil
  | _, _, .cons n t h => .cons ⟨t, rfl⟩ (vals_ints h)

/-- nothing is tracked but the script, known to the object (or it is an object of the module) -/
def Only (H : Hp) : Prop := ∀ b, H b = none ∨ ∃ o xs, H b = some (.frz o (.lst xs))

/-- THE HEAD: the law's promise, at the heap behind the top. F, the promise of the law's def, may use that base is part of the heap (so K.In base, base.Ns mainGlobals mg stand in Mod) -/
theorem law_call {P : Program} {w : World} {K : PySem.W.Frag} {mg mb : Str → Option Value} {CX : CXT} {k : Nat} {fa a : Addr} {fd : FuncData} {x : Str} {sp : Sp} {s₁ : Shared} {vs : List Value} {ns : List Int}
    (KX : K.In s₁.heap) (hns : s₁.heap.Ns mainGlobals mg) (hb : s₁.heap.Ns builtinsNs mb) (hbb : ∀ x : Str, x ≠ "__name__" → mb x = bootBuiltins x) (hlim : s₁.heap.NoLimit) (hg : s₁.gens = #[])
    (ha : s₁.heap.get? a = some { cls := .type "list", data := .seq vs.toArray }) (hi : IntsAre vs ns) (hl : ns.length ≤ sizeLine) (hr : Room k callerA)
    (F : ∀ base : Heap, K.In base → base.Ns mainGlobals mg → FnOk P w K mg base CX k fa fd [x] sp) (hbind : ∀ (s : Shared) (u : Value), BindsTo s fd ⟨[u], []⟩ [(x, u)])
    (hsp : ∀ H : Hp, Only H → SqL K H a (ns.map V.int) → sp [.ref a] H (fun v _ => v = .bl true) fun _ _ _ => False)
    (hCX : ∀ H e s', CX [] H s₁ (fun _ _ _ => False) e s' → False) :
    codeAny (model P w) callerA (.call (.ref fa) ⟨[.ref a], []⟩) (fun r s' => r = .ok (.ret (.bool true)) ∧ OldK s₁.heap s'.heap ∧ s'.os = s₁.os ∧ AllBare s'.gens) s₁ := by
  have rv := vals_ints hi
  have lenV := hi.length
  -- from an abstract heap in which nothing but the script may be tracked
  have core : ∀ H : Hp, Only H → SqL K H a (ns.map V.int) → HOk P w H s₁.heap → (∀ b, H b ≠ none → b = a) → (H a ≠ none → K.lookup a = none) →
      codeAny (model P w) callerA (.call (.ref fa) ⟨[.ref a], []⟩) (fun r s' => r = .ok (.ret (.bool true)) ∧ OldK s₁.heap s'.heap ∧ s'.os = s₁.os ∧ AllBare s'.gens) s₁ := by
    intro H hO hS hok hA hK
    have base_of : ∀ {b : Addr} {o : Obj}, s₁.heap.get? b = some o → H b = none → (hidT s₁.heap H).get? b = some o := fun e n => hidT_get e n
    have noA : ∀ {b : Addr} {o : Obj} {es : Array DictEntry} {ep : Nat}, s₁.heap.get? b = some o → o.data = .dict es ep → H b = none := fun {b o es ep} e d => by
      cases q : H b with
      | none => rfl
      | some u =>
        have e' : b = a := hA b (by rw [q]; simp)
        subst e'
        rw [ha] at e; cases e
        have d' : Data.seq vs.toArray _ = Data.dict es ep := d
        cases d'
    have nsK : ∀ {b : Addr} {m : Str → Option Value}, s₁.heap.Ns b m → (hidT s₁.heap H).Ns b m := fun {b m} ⟨o, es, ep, e, d, r⟩ => ⟨o, es, ep, base_of e (noA e d), d, r⟩
    have hKb : K.In (hidT s₁.heap H) := fun b o e => base_of (KX b o e) (by
      cases q : H b with
      | none => rfl
      | some u =>
        have e' : b = a := hA b (by rw [q]; simp)
        subst e'
        rw [hK (by rw [q]; simp)] at e; cases e)
    have hM : Mod K mg (hidT s₁.heap H) := ⟨hKb, nsK hns, ⟨mb, nsK hb, hbb⟩, let ⟨mc, h1, h2⟩ := hlim; ⟨mc, nsK h1, h2⟩⟩
    have e0 : Env0 P w K mg (hidT s₁.heap H) callerA [] s₁ H := ⟨rfl, hM, fun b o e => of_hidT e, Nat.le_of_eq (hidT_size _ _), trivial, fun b hb => absurd (show b ∈ ([] : List Addr) from hb) (by simp), hok, .of_eq hg⟩
    refine codeAny_mono ((F _ hKb (nsK hns)).run callerA [] s₁ H ⟨[.ref a], []⟩ [.ref a] [.ref a] _ _ hr e0 (hbind s₁ (.ref a)) (.cons rfl .nil) (hsp H hO hS)) fun r s' h => ?_
    cases r with
    | error e => exact (hCX H e s' h).elim
    | ok fl =>
      cases fl with
      | next => exact False.elim h
      | brk => exact False.elim h
      | cont => exact False.elim h
      | ret u =>
        obtain ⟨v, H', os, bare, un, hok', r', q⟩ := h
        have q' : v = .bl true := q
        subst q'
        obtain rfl : u = Value.bool true := r'
        refine ⟨rfl, OldK.of_keep fun b o e => ?_, os, bare⟩
        cases q : H b with
        | none => exact un.keep b o e q (by intro z; exact absurd (show b ∈ ([] : List Addr) from z) (by simp)) (by simp)
        | some u =>
          rcases hO b with z | ⟨ob, xs, z⟩
          · rw [q] at z; cases z
          · have z2 := un.frzs b ob _ z
            obtain ⟨e1, _⟩ := hok b _ z
            obtain ⟨e2, _⟩ := hok' b _ z2
            rw [e] at e1; cases e1
            exact e2
  cases hk : K.lookup a with
  | some o =>
    -- the script is one of the module's own objects
    have e := KX a o hk
    rw [ha] at e
    cases e
    refine core (fun _ => none) (fun _ => .inl rfl) (.inr ⟨_, vs.toArray, _, hk, rfl, rfl, rfl, by rw [List.size_toArray, lenV]; exact hl, by simpa using rv⟩) (fun b u z => by have z' : (none : Option HO) = some u := z; cases z') (fun b z => absurd rfl z) fun z => absurd rfl z
  | none =>
    refine core (fun b => if b = a then some (.frz { cls := .type "list", data := .seq vs.toArray } (.lst (ns.map V.int))) else none) (fun b => ?_) (.inl (.inr ⟨{ cls := .type "list", data := .seq vs.toArray }, if_pos rfl⟩)) (fun b u z => ?_) (fun b z => ?_) fun _ => hk
    · by_cases hb : b = a
      · exact .inr ⟨_, _, if_pos hb⟩
      · exact .inl (if_neg hb)
    · by_cases hb : b = a
      · have z' := (if_pos hb).symm.trans z
        cases z'
        subst hb
        exact ⟨ha, by rw [List.length_map]; exact hl, vs, _, rv, ha⟩
      · have z' := (if_neg hb).symm.trans z
        cases z'
    · by_cases hb : b = a
      · exact hb
      · exact absurd (if_neg hb) z
end L2

namespace L2
open PySem PySem.Spec PyProof.Rows

abbrev KOf {K : PySem.W.Frag} {h : Heap} (_ : K.In h) : PySem.W.Frag := K

/-- the goal that k_head leaves (case hc), from the law's promise. F gives the function object fd (K's own) once, then the promise over every base -/
theorem walk_of {l : PySem.W.OpenLaw} {n k : Nat} {q : Program} {loose : List Str} {XP : (Str → Option Value) → Heap → Prop} {YP : World → Heap → Prop} {d : DefRec} {K : Params → PySem.W.Frag} {CX : World → CXT} {sp : World → Sp} {x : Str}
    (hn : l.most = some n) (hn2 : n ≤ sizeLine) (hdf : d.params.defaults = []) (hr : Room k callerA)
    (hY : ∀ (w : World) (h : Heap), YP w h → (K w.params).In h)
    (F : ∀ (w : World) (mg : Str → Option Value) (fa : Addr) (h : Heap), (K w.params).In h → h.Ns mainGlobals mg → mg d.name = some (.ref fa) →
      ∃ fd : FuncData, (∀ (s : Shared) (u : Value), BindsTo s fd ⟨[u], []⟩ [(x, u)]) ∧
        ∀ base : Heap, (K w.params).In base → base.Ns mainGlobals mg → FnOk l.prog w (K w.params) mg base (CX w) k fa fd [x] (sp w))
    (hsp : ∀ (w : World) (H : Hp) (a : Addr) (ns : List Int), ns.length ≤ n → Only H → SqL (K w.params) H a (ns.map V.int) → sp w [.ref a] H (fun v _ => v = .bl true) fun _ _ _ => False)
    (hCX : ∀ (w : World) (H : Hp) (s : Shared) (e : Value) (s' : Shared), CX w [] H s (fun _ _ _ => False) e s' → False) :
    PySem.W.WalkO q loose XP YP l.row.toRowW d [] (fun f vs => PySem.call f vs) := by
  refine Att.attach_call hn hdf fun w s₀ s₁ mg mb fa o pm cd doc a vs ns G Y ho hd hcd hmg hobj hints hlen hg => ?_
  have KX := hY w _ Y
  obtain ⟨fd, hb, hF⟩ := F w mg fa _ KX G.T.g hmg
  exact law_call KX G.T.g G.T.b G.T.builtins G.T.nolimit hg hobj hints (Nat.le_trans hlen hn2) hr hF hb (fun H hO hS => hsp w H a ns hlen hO hS) fun H e s' => hCX w H s₁ e s'
end L2

/- THE LAST THEOREM (shape; LID, My.* are yours):
   My.Adr: a structure of the addresses that your layer names (classes, functions); My.Txt K t: a structure (Prop) of the equations over K;
   My.txt_mk : {K} {implicit addresses ..} (e1 : nsIn K mainGlobals "law" = some (some (.ref f))) (e2 : K.lookup f = some ⟨oc, od, .func (fnOf "law" "law" params body scope dV kV doc pm an cdv ct), sl⟩) (e3 : codeIn K cdv "law" = true) .. : ∃ t, My.Txt K t

set_option maxRecDepth 100000 in
set_option maxHeartbeats 0 in
theorem PySem.Challenge.cw_LID_holds : PySem.Challenge.rw_LID.Holds := by
  w_on; o_law; k_head; (case hw => w_witness2)
  k_fill
  refine L2.walk_of (l := PySem.Challenge.rw_LID) (n := 63) (k := 40) (x := "script") (CX := fun w => ..) (sp := fun _ => My.sp_law) rfl (by decide) rfl ⟨rfl, by decide, by decide⟩ (fun w h Y => PySem.W.kIn_of Y) ?F ?S ?C
  case F =>
    intro w mg fa h KX G hmg
    have T : ∃ t, My.Txt (L2.KOf KX) t := by
      dsimp only [L2.KOf]                          -- K must stand as «<heap const> w.params» for k_is
      refine' My.txt_mk ?e1 ?e2 ?e3 ..
      (case e1 => PySem.W.k_is)                    -- in the order: a name -> its address -> its object -> its parts
      (case e2 => PySem.W.k_is)
      ..
    obtain ⟨t, T⟩ := T
    have e0 := hmg.symm.trans (PySem.W.mg_of KX G T.law)
    cases e0                                       -- fa is the law's own address
    exact ⟨_, fun s u => .of_eq rfl, fun base kb nb => My.law_fn T kb nb⟩     -- if «.of_eq rfl» comes too early: refine' ⟨_, ?b, fun base kb nb => My.law_fn T kb nb⟩; exact fun s u => .of_eq rfl
  case S => exact fun w H a ns hl hO hS => ..
  case C => exact ..
(the tactic k_is has no namespace: write k_is) -/

/-! SHORT WORDS over the layer: a def of the text, its body, what a loop and a test want. -/
namespace L2
open PySem PySem.Spec PyProof.Rows

/-! ### the text by places -/
def defArgs (s : Stmt) : Arguments := match s with
  | .FunctionDef _ a _ _ _ _ _ _ _ _ => a
  | _ => { posonlyargs := [], args := [], vararg := none, kwonlyargs := [], kw_defaults := [], kwarg := none, defaults := [] }
def defBody (s : Stmt) : List Stmt := match s with
  | .FunctionDef _ _ b _ _ _ _ _ _ _ => b
  | _ => []
def defScope (s : Stmt) : Scope := match s with
  | .FunctionDef _ _ _ _ _ _ sc _ _ _ => sc
  | _ => { kind := .function, names := [], isGenerator := false, isCoroutine := false }

/-! ### no exception leaves a def -/
abbrev CX0 : CXT := fun _ _ _ _ _ _ => False
abbrev E0 : XK := fun _ _ _ => False
theorem pass0 {X : Cx} : Passes CX0 X E0 := fun _ _ _ _ _ _ _ h => h.elim

/-! ### a def (or method) of the text as it stands behind the top -/
structure Fun (K : PySem.W.Frag) (x qual : Str) (st : Stmt) (f : Addr) (fd : FuncData) : Prop where
  ex : ∃ (oc : Value) (od : Option Addr) (kV doc pm : Value) (an : Option Addr) (cdv ct : Value) (osl : Array (Option Value)),
    fd = PySem.W.fnOf x qual (defArgs st) (defBody st) (defScope st) .none kV doc pm an cdv ct ∧ K.lookup f = some ⟨oc, od, .func fd, osl⟩ ∧ PySem.W.codeIn K cdv qual = true
  kp : PySem.W.keepIn K (.ref f) = true
section
variable {P : Program} {w : World} {K : PySem.W.Frag} {mg : Str → Option Value} {base : Heap}
/-- THE RULE for a def: its body as a term of rules, and the reading of that term -/
theorem Fun.ok {x qual : Str} {st : Stmt} {f : Addr} {fd : FuncData} {N ps : List Str} {k : Nat} {sp : Sp} (F : Fun K x qual st f fd) (S : FnScope N ps (defScope st)) (len : ∀ vs H Q E, sp vs H Q E → vs.length = ps.length)
    (hbody : ∀ (cdv : Value) (A : Around) (outer : List Env) (s : Shared) (H : Hp) (vs : List V) (Q : VK) (E : XK), Room k (A.deeper (envOfC qual (defScope st) s.heap.objs.size f cdv)) → sp vs H Q E →
      ∃ t, PSs (cxOf CX0 P w K mg base N qual (defScope st) f cdv A outer s H E).nox (defBody st) t ∧ t { nx := fun _ H' => Q .non H', rt := Q } (start N vs) H) : FnOk P w K mg base CX0 (k + 1) f fd ps sp := by
  obtain ⟨oc, od, kV, doc, pm, an, cdv, ct, osl, rfl, lk, hcd⟩ := F.ex
  refine fn_of lk hcd S len fun A outer s H vs Q E hr hsp => ?_
  obtain ⟨t, h, q⟩ := hbody cdv A outer s H vs Q E hr hsp
  exact ⟨t, h.nox, q⟩
/-- how its arguments bind (no defaults): h is «fun _ _ _ _ _ _ us hl => match us, hl with | [_, _], _ => rfl», one _ a parameter -/
theorem Fun.binds {x qual : Str} {st : Stmt} {f : Addr} {fd : FuncData} {ps : List Str} (F : Fun K x qual st f fd)
    (h : ∀ (kV doc pm : Value) (an : Option Addr) (cdv ct : Value) (us : List Value), us.length = ps.length → bindArgs (PySem.W.fnOf x qual (defArgs st) (defBody st) (defScope st) .none kV doc pm an cdv ct) ⟨us, []⟩ = pure (ps.zip us)) : Binds K fd ps [] := by
  obtain ⟨oc, od, kV, doc, pm, an, cdv, ct, osl, rfl, lk, hcd⟩ := F.ex
  exact .all (h kV doc pm an cdv ct)
theorem fun_mk {x qual : Str} {st : Stmt} {f : Addr} {oc : Value} {od an : Option Addr} {osl : Array (Option Value)} {kV doc pm cdv ct : Value} (l : K.lookup f = some ⟨oc, od, .func (PySem.W.fnOf x qual (defArgs st) (defBody st) (defScope st) .none kV doc pm an cdv ct), osl⟩)
    (c : PySem.W.codeIn K cdv qual = true) (k : PySem.W.keepIn K (.ref f) = true) : Fun K x qual st f (PySem.W.fnOf x qual (defArgs st) (defBody st) (defScope st) .none kV doc pm an cdv ct) := ⟨⟨oc, od, kV, doc, pm, an, cdv, ct, osl, rfl, l, c⟩, k⟩
end
/-! ### expressions in short: the name that stands in the i-th slot -/
section
variable {X : Cx}
theorem pv (i : Nat) {x : Str} {pos : Pos} (hN : X.N[i]? = some x := by rfl) (hv : Vis X.env.scope x := by first | exact Or.inl rfl | exact Or.inr (Or.inl rfl) | exact Or.inr (Or.inr rfl)) (hd : (x == ("__debug__" : Str)) = false := by decide)
    (hcd : (x == ("__classdict__" : Str)) = false := by decide) : PE X (.Name x pos) (tVar i) := pe_var hN hv hd hcd
end

/-! ### tests -/
theorem iteF {A B : Prop} (h : B) : if false = true then A else B := by
  rw [if_neg Bool.false_ne_true]
  exact h
theorem iteT {A B : Prop} (h : A) : if true = true then A else B := by
  rw [if_pos rfl]
  exact h
theorem ite2 {c A B : Prop} [Decidable c] (h1 : c → A) (h2 : ¬ c → B) : if c then A else B := by
  by_cases h : c
  · rw [if_pos h]
    exact h1 h
  · rw [if_neg h]
    exact h2 h
/-! ### heaps -/
/-- all that was tracked is as it was -/
def Same (H H' : Hp) : Prop := ∀ b o, H b = some o → H' b = some o
theorem Same.refl (H : Hp) : Same H H := fun _ _ h => h
theorem Same.trans {H H1 H2 : Hp} (a : Same H H1) (b : Same H1 H2) : Same H H2 := fun c o h => b c o (a c o h)
theorem Same.free {H H' : Hp} (e : Same H H') {l : Addr} (h : H' l = Option.none) : H l = Option.none := by
  cases q : H l with
  | none => rfl
  | some o =>
    rw [e l o q] at h
    cases h
theorem Same.seq {K : PySem.W.Frag} {H H' : Hp} {a : Addr} {xs : List V} (e : Same H H') (h : SqL K H a xs) : SqL K H' a xs := by
  rcases h with (h | ⟨o, h⟩) | h
  · exact .inl (.inl (e _ _ h))
  · exact .inl (.inr ⟨o, e _ _ h⟩)
  · exact .inr h

end L2

set_option maxHeartbeats 4000000
/-! EvExc: refusals of own classes by hand: raise, a callee's refusal that passes, try with one except clause that names, isinstance of a refusal. Over the hand layer (namespace L2), which stands ahead of it. -/
namespace L2
open PySem PySem.Spec PyProof.Rows

section
variable {X : Cx} {pins : List (Addr × Obj)} {σ : St} {H H' : Hp} {s s' : Shared}
theorem Inv.nopins (I : Inv X pins σ H s) : Inv X [] σ H s := I.pins_of fun p hp => nomatch hp
end

section
variable {P : Program} {w : World} {K : PySem.W.Frag} {mg : Str → Option Value} {base : Heap} {N : List Str} {qual : Str} {scope : Scope} {f : Addr} {cd : Value} {A : Around} {outer : List Env} {s : Shared} {H : Hp} {E : XK}
end
/-! ### raise -/
end L2
/-! EvTry: isinstance of a refusal, except clauses, defs called within an except suite. Behind EvExc. -/
namespace PySem.W
open PySem PySem.Calls PyProof.Rows Builtin Builtin.ObjectAttr Builtin.Getset_descriptor
section
variable {prog : Program} {w : World} {A : Around} {E : Value → Shared → Prop} {s : Shared} {K : Frag} {x C D : Addr} {ox : Obj}
end
end PySem.W

namespace L2
open PySem PySem.Spec PyProof.Rows
/-! ### isinstance by values -/
/-- isinstance(x, c), c one class -/
theorem call_isinst {X : Cx} : CallR X (.builtin "isinstance") (fun xs H Q => ∃ x c t b, xs = [x, c] ∧ TyOf X.K H x t ∧ (∀ u, RelV c u → PySem.W.kitOne X.K t u = some b) ∧ Q (.bl b) H) := by
  intro pins s σ H xs us Q I r h
  obtain ⟨x, c, t, b, rfl, ty, k, q⟩ := h
  obtain ⟨u, w', rfl, r1, r2⟩ := vals2 r
  exact isinst_ok I r1 ty (k _ r2) fun tk => ⟨.bl b, H, I.tok tk, rfl, q⟩
/-! ### try, one clause with a name -/
section
variable {X : Cx} {pins : List (Addr × Obj)} {σ : St} {H : Hp} {s : Shared}
/-- an object that was not tracked is -/
theorem Inv.track {a : Addr} {o : HO} (I : Inv X pins σ H s) (hn : H a = none) (h0 : X.s₀.heap.get? a = none) (hL : a ≠ X.env.locals) (hc : ∀ x c, X.env.cells.lookup x = some c → c ≠ a) (hp : ∀ p ∈ X.pn ++ pins, p.1 ≠ a)
    (new : ObjOk X.prog X.w (upd H a o) s.heap a o) : Inv X pins σ (upd H a o) s := by
  have ne : ∀ b u, H b = some u → b ≠ a := fun b u e => ne_of_none e hn
  refine ⟨I.ok, I.os, I.bare, ⟨I.base.keep, I.base.slot, fun b ob e n hx => ?_, I.base.there, fun b xs e => ?_, fun b ob u e => ?_, fun b ps e => ?_⟩, I.loc, I.cell, ?_, fun x c e => ?_, fun p hp' => ?_, fun b u e => ?_, I.len⟩
  · rw [upd_ne (fun z => by rw [z, h0] at e; cases e)]
    exact I.base.free b ob e n hx
  · have q := I.base.tups b xs e
    rw [upd_ne (ne b _ q)]; exact q
  · have q := I.base.frzs b ob u e
    rw [upd_ne (ne b _ q)]; exact q
  · obtain ⟨m, q⟩ := I.base.tbls b ps e
    exact ⟨m, by rw [upd_ne (ne b _ q)]; exact q⟩
  · rw [upd_ne (Ne.symm hL)]; exact I.free
  · rw [upd_ne (hc x c e)]; exact I.freeC x c e
  · obtain ⟨e, n, r⟩ := I.pin p hp'
    exact ⟨e, by rw [upd_ne (hp p hp')]; exact n, r⟩
  · by_cases hb : b = a
    · subst hb; rw [upd_same] at e; cases e; exact new
    · rw [upd_ne hb] at e
      exact (I.hok b u e).stay (fun _ _ _ q => q) (fun c q => by rw [upd_ne (ne c _ q)]; exact q) fun c xs q => by rw [upd_ne (ne c _ q)]; exact q
end
/-! ### a def that is called within an except suite -/
end L2

namespace L2
open PySem PySem.Spec PyProof.Rows
end L2
/-! EvStr: f-strings with ints, a while whose test need not be monotone. Behind EvTry. -/
namespace L2
open PySem PySem.Spec PyProof.Rows
/-! ### while -/
def WTurn (Pv : St → Hp → Prop) (mu : St → Hp → Nat) (m : Nat) (tb : TS) (D : Ends) (σ : St) (H1 : Hp) : Prop :=
  ∃ N : St → Hp → Prop, (∀ σ' H', N σ' H' → ∃ m', m' < m ∧ m' = mu σ' H' ∧ Pv σ' H') ∧ tb { D with nx := N, ct := N, bk := D.nx } σ H1
theorem WTurn.of {Pv : St → Hp → Prop} {mu : St → Hp → Nat} {m : Nat} {tb : TS} {D : Ends} {σ : St} {H1 : Hp}
    (h : tb { D with nx := fun σ' H' => Pv σ' H' ∧ mu σ' H' < m, ct := fun σ' H' => Pv σ' H' ∧ mu σ' H' < m, bk := D.nx } σ H1) : WTurn Pv mu m tb D σ H1 :=
  ⟨_, fun σ' H' ⟨p, l⟩ => ⟨_, l, rfl, p⟩, h⟩
theorem while_w {c : TT} {tb : TS} {D : Ends} {σ : St} {H : Hp} (Pv : St → Hp → Prop) (mu : St → Hp → Nat) (h0 : Pv σ H)
    (hs : ∀ m σ H, Pv σ H → m = mu σ H → c σ H fun b H1 => if b = true then WTurn Pv mu m tb D σ H1 else D.nx σ H1) : tWhile c tb D σ H := by
  refine ⟨fun m σ H => m = mu σ H ∧ Pv σ H, ⟨_, rfl, h0⟩, ?_⟩
  rintro m σ H ⟨e, p⟩
  exact hs m σ H p e
/-! ### tests that are known -/
theorem ifT {c A B : Prop} [Decidable c] (h : c) (k : A) : if decide c = true then A else B := by
  rw [if_pos (decide_eq_true h)]
  exact k
theorem ifF {c A B : Prop} [Decidable c] (h : ¬ c) (k : B) : if decide c = true then A else B := by
  rw [if_neg (fun z => h (of_decide_eq_true z))]
  exact k
/-! ### f-strings -/
end L2
/-! EvComp: a list comprehension with one for and at most one if, by hand. Behind EvStr. -/
namespace L2
open PySem PySem.Spec PyProof.Rows
/-! ### the closure -/
theorem cellOf_some {env : Env} {x : Str} {c : Addr} (h : env.cells.lookup x = some c) : cellOf env x = pure c := by
  unfold cellOf
  rw [h]
theorem closure_go {env : Env} : ∀ (names : List (Str × NameKind)) (cs : List (Str × Addr)), (∀ x, (x, NameKind.free) ∈ names → ∃ c, env.cells.lookup x = some c) →
    (∀ x c, cs.lookup x = some c → env.cells.lookup x = some c) →
    ∃ cl : List (Str × Addr), (forIn names cs fun (y : Str × NameKind) (r : List (Str × Addr)) => if (y.2 == .free) = true then (do let c ← cellOf env y.1; pure (ForInStep.yield ((y.1, c) :: r)) : Sem _) else pure (ForInStep.yield r)) = pure cl ∧
      (∀ x c, cl.lookup x = some c → env.cells.lookup x = some c) ∧ (∀ x, ((x, NameKind.free) ∈ names ∨ ∃ c, cs.lookup x = some c) → ∃ c, cl.lookup x = some c)
  | [], cs, _, h2 => ⟨cs, rfl, h2, fun x hx => hx.elim (fun z => nomatch z) id⟩
  | (y, k) :: names, cs, h1, h2 => by
    by_cases hk : k = .free
    · subst hk
      obtain ⟨c, hc⟩ := h1 y (List.mem_cons_self ..)
      obtain ⟨cl, e, a, b⟩ := closure_go names ((y, c) :: cs) (fun x hx => h1 x (List.mem_cons_of_mem _ hx)) (fun x c' hx => by
        rw [List.lookup_cons] at hx
        split at hx
        · rename_i hb
          have hb' : x = y := by simpa using hb
          cases hx
          rw [hb']
          exact hc
        · exact h2 x c' hx)
      refine ⟨cl, ?_, a, fun x hx => b x ?_⟩
      · rw [List.forIn_cons]
        simp only [beq_self_eq_true, if_true, cellOf_some hc]
        exact e
      · rcases hx with hx | ⟨c', hx⟩
        · rcases List.mem_cons.mp hx with z | z
          · cases z
            exact .inr ⟨c, by simp⟩
          · exact .inl z
        · by_cases hb : (x == y) = true
          · exact .inr ⟨c, by rw [List.lookup_cons, hb]⟩
          · exact .inr ⟨c', by rw [List.lookup_cons, Bool.not_eq_true _ |>.mp hb]; exact hx⟩
    · obtain ⟨cl, e, a, b⟩ := closure_go names cs (fun x hx => h1 x (List.mem_cons_of_mem _ hx)) h2
      have hb : (k == NameKind.free) = false := by simpa using hk
      refine ⟨cl, ?_, a, fun x hx => b x ?_⟩
      · rw [List.forIn_cons]
        simp only [hb, Bool.false_eq_true, if_false]
        exact e
      · rcases hx with hx | hx
        · rcases List.mem_cons.mp hx with z | z
          · cases z
            exact absurd rfl hk
          · exact .inl z
        · exact .inr hx
theorem closure_of {scope : Scope} {env : Env} (h : ∀ x, (x, NameKind.free) ∈ scope.names → ∃ c, env.cells.lookup x = some c) :
    ∃ cl, closureFor scope env = pure cl ∧ (∀ x c, cl.lookup x = some c → env.cells.lookup x = some c) ∧ ∀ x, (x, NameKind.free) ∈ scope.names → ∃ c, cl.lookup x = some c := by
  obtain ⟨cl, e, a, b⟩ := closure_go scope.names [] h (fun x c hx => nomatch hx)
  refine ⟨cl, ?_, a, fun x hx => b x (.inl hx)⟩
  refine Eq.trans (b := (forIn scope.names [] fun (y : Str × NameKind) (r : List (Str × Addr)) => if (y.2 == .free) = true then (do let c ← cellOf env y.1; pure (ForInStep.yield ((y.1, c) :: r)) : Sem _) else pure (ForInStep.yield r)) >>= fun r => pure r) rfl ?_
  rw [e]
  rfl
/-! ### the loop -/
section
variable {prog : Program} {w : World} {A : Around} {R : Result → Shared → Prop} {s : Shared}
theorem compLoop_anyX {elt target iter : Expr} {ifs : List Expr} {scope : Scope} {pos : Pos} {it acc : Value} {env : Env} (I : Nat → Shared → Prop)
    (turn : ∀ n s, I n s → wpAny (model prog w) A (pyNext it) (fun r s1 => match r with
      | none => R (.ok .next) s1
      | some v => wpAny (model prog w) A (letOwnedTupleGo target it v) (fun _ s1' => wpAny (model prog w) A (assign target env v) (fun _ s2 =>
          wpAny (model prog w) A (forIn ifs true fun c r => if r = true then do let ok ← isTrue c env (eval c env); pure (ForInStep.yield ok) else pure (ForInStep.yield r)) (fun ok s3 =>
            if ok = true then wpAny (model prog w) A (eval elt env) (fun x s4 =>
              wpAny (model prog w) A (call (.builtin "list.append") [acc, x]) (fun _ s5 => ∃ m, m < n ∧ I m s5) (fun _ _ => False) s4) (notedBy (model prog w) A env fun x s' => R (.error x) s') s3
            else ∃ m, m < n ∧ I m s3) (fun _ _ => False) s2) (fun _ _ => False) s1') (fun _ _ => False) s1) (fun _ _ => False) s)
    (n : Nat) (h : I n s) : codeAny (model prog w) A (.compLoop (.ListComp elt [⟨target, iter, ifs, 0⟩] scope pos) 0 it acc env) R s := by
  refine codeAny_loop rfl I (fun n s hI => ?_) n h
  show wpAny _ A ((compTurn (.ListComp elt [⟨target, iter, ifs, 0⟩] scope pos) 0 it acc env).onRaise (fun x => do noteFrame x env; theTreesLotGoes x)) _ _ s
  refine wpAny_noted ?_
  rw [compTurn_list]
  refine wpAny_bind (wpAny_standAt (wpAny_bind (wpAny_mono (turn n s hI) (fun r s1 h1 => ?_) fun _ _ h' => h'.elim)))
  cases r with
  | none => exact wpAny_pure h1
  | some v =>
    refine wpAny_bind (wpAny_mono h1 (fun _ s1' h1' => ?_) fun _ _ h' => h'.elim)
    refine wpAny_bind (wpAny_mono h1' (fun _ s2 h2 => wpAny_bind (wpAny_mono h2 (fun ok s3 h3 => ?_) fun _ _ h' => h'.elim)) fun _ _ h' => h'.elim)
    cases ok with
    | false => exact wpAny_pure ⟨rfl, h3⟩
    | true =>
      exact wpAny_bind (wpAny_bind (wpAny_mono h3 (fun x s4 h4 => wpAny_bind (wpAny_mono h4 (fun _ s5 h5 => wpAny_pure (wpAny_pure ⟨rfl, h5⟩)) fun _ _ h' => h'.elim)) fun _ _ h' => h'))
end
/-! ### the block's context -/
def cxC (X : Cx) (s : Shared) (H : Hp) (scope : Scope) (cl : List (Str × Addr)) (C : Addr) (N : List Str) (fp : List Addr) : Cx where
  prog := X.prog
  w := X.w
  K := X.K
  mg := X.mg
  base := X.base
  A := X.A
  N := N
  s₀ := s
  H₀ := H
  env := compEnvC scope cl C X.env
  outer := X.stack
  stack := X.stack
  ex := fp
  fn := fun x => scope.names.lookup x == some NameKind.cell
  calm := X.calm
  pn := []
  xe := fun _ _ => False
/-- slot i of the block is the outer slot, or the block's own -/
def seen (σ : St) (src : List (Option Nat)) : St := src.map fun o => match o with | some j => (σ[j]?).join | none => none
structure CompScope (X : Cx) (scope : Scope) (N : List Str) (src : List (Option Nat)) : Prop where
  kind : scope.kind = .function
  cells : ∀ y ∈ scope.names, y.2 = .cell → scope.names.lookup y.1 = some .cell
  own : ∀ y ∈ scope.names, y.2 = .local → scope.names.lookup y.1 = some .local
  has : ∀ x, (x, NameKind.free) ∈ scope.names → X.env.kindOf x = some .cell ∨ X.env.kindOf x = some .free
  len : src.length = N.length
  src : ∀ (i j : Nat) (x : Str), src[i]? = some (some j) → N[i]? = some x → X.N[j]? = some x ∧ (x, NameKind.free) ∈ scope.names ∧ scope.names.lookup x = some .free
theorem lookup_relabel_free {env : Env} : ∀ {names : List (Str × NameKind)} {x : Str}, names.lookup x = some .free →
    (names.map fun (n, k) => if (k == NameKind.free && env.scope.kind == .function && env.kindOf n == some .cell) then (n, NameKind.cell) else (n, k)).lookup x = some .cell ∨
    (names.map fun (n, k) => if (k == NameKind.free && env.scope.kind == .function && env.kindOf n == some .cell) then (n, NameKind.cell) else (n, k)).lookup x = some .free
  | [], _, h => by simp at h
  | (n, k) :: r, x, h => by
    have ih := @lookup_relabel_free env r x
    show List.lookup x ((if (k == NameKind.free && env.scope.kind == .function && env.kindOf n == some .cell) = true then (n, NameKind.cell) else (n, k)) :: _) = _ ∨ List.lookup x ((if (k == NameKind.free && env.scope.kind == .function && env.kindOf n == some .cell) = true then (n, NameKind.cell) else (n, k)) :: _) = _
    cases hx : x == n with
    | true =>
      simp only [List.lookup_cons, hx] at h
      cases h
      by_cases hc : (NameKind.free == NameKind.free && env.scope.kind == .function && env.kindOf n == some .cell) = true
      · rw [if_pos hc]; left; simp only [List.lookup_cons, hx]
      · rw [if_neg hc]; right; simp only [List.lookup_cons, hx]
    | false =>
      simp only [List.lookup_cons, hx] at h
      by_cases hc : (k == NameKind.free && env.scope.kind == .function && env.kindOf n == some .cell) = true
      · rw [if_pos hc]; simp only [List.lookup_cons, hx]; exact ih h
      · rw [if_neg hc]; simp only [List.lookup_cons, hx]; exact ih h
/-- a cell or a free name of the block was free in it -/
theorem relabel_cell {env : Env} : ∀ {names : List (Str × NameKind)} {x : Str},
    ((names.map fun (n, k) => if (k == NameKind.free && env.scope.kind == .function && env.kindOf n == some .cell) then (n, NameKind.cell) else (n, k)).lookup x = some .cell ∨
    (names.map fun (n, k) => if (k == NameKind.free && env.scope.kind == .function && env.kindOf n == some .cell) then (n, NameKind.cell) else (n, k)).lookup x = some .free) → (x, NameKind.free) ∈ names ∨ (x, NameKind.cell) ∈ names
  | [], _, h => by simp at h
  | (n, k) :: r, x, h => by
    have ih := @relabel_cell env r x
    change List.lookup x ((if (k == NameKind.free && env.scope.kind == .function && env.kindOf n == some .cell) = true then (n, NameKind.cell) else (n, k)) :: _) = _ ∨ List.lookup x ((if (k == NameKind.free && env.scope.kind == .function && env.kindOf n == some .cell) = true then (n, NameKind.cell) else (n, k)) :: _) = _ at h
    cases hx : x == n with
    | true =>
      have e : x = n := by simpa using hx
      by_cases hc : (k == NameKind.free && env.scope.kind == .function && env.kindOf n == some .cell) = true
      · have hk : k = .free := by
          simp only [Bool.and_eq_true, beq_iff_eq] at hc
          exact hc.1.1
        rw [e, hk]; exact .inl (List.mem_cons_self ..)
      · rw [if_neg hc] at h
        simp only [List.lookup_cons, hx, Option.some.injEq] at h
        rcases h with h | h
        · rw [e, h]; exact .inr (List.mem_cons_self ..)
        · rw [e, h]; exact .inl (List.mem_cons_self ..)
    | false =>
      by_cases hc : (k == NameKind.free && env.scope.kind == .function && env.kindOf n == some .cell) = true
      · rw [if_pos hc] at h; simp only [List.lookup_cons, hx] at h; exact (ih h).imp (List.mem_cons_of_mem _) (List.mem_cons_of_mem _)
      · rw [if_neg hc] at h; simp only [List.lookup_cons, hx] at h; exact (ih h).imp (List.mem_cons_of_mem _) (List.mem_cons_of_mem _)
def Weak (σ σ2 : St) : Prop := σ2.length = σ.length ∧ ∀ (i : Nat) (v : V), σ[i]? = some (some v) → σ2[i]? = some (some v)
theorem Weak.refl (σ : St) : Weak σ σ := ⟨rfl, fun _ _ h => h⟩
theorem Weak.set {σ : St} {i : Nat} {o : Option V} (h : ∀ v, σ[i]? ≠ some (some v)) : Weak σ (σ.set i o) := ⟨by simp, fun j v e => by
  have : i ≠ j := fun z => h v (z ▸ e)
  rw [List.getElem?_set_ne this]
  exact e⟩
theorem Weak.trans {a b c : St} (h : Weak a b) (h' : Weak b c) : Weak a c := ⟨h'.1.trans h.1, fun i v e => h'.2 i v (h.2 i v e)⟩
/-- the tests -/
def PIf (X : Cx) (ifs : List Expr) (t : TT) : Prop := ∀ (pins : List (Addr × Obj)) (s : Shared) (σ : St) (H : Hp) (Q : Bool → Hp → Prop), Inv X pins σ H s → t σ H Q →
  wpAny (model X.prog X.w) X.A (forIn ifs true fun c r => if r = true then do let ok ← isTrue c X.env (eval c X.env); pure (ForInStep.yield ok) else pure (ForInStep.yield r)) (TP X pins σ Q) X.xe s
def tYes : TT := fun _ H Q => Q true H
theorem pif_nil {X : Cx} : PIf X [] tYes := fun _ _ _ H _ I h => wpAny_tests_nil ⟨H, I, h⟩
theorem pif_one {X : Cx} {c : Expr} {t : TT} (h : PT X c t) : PIf X [c] t := fun pins s σ H Q I q => wpAny_tests_one (h pins s σ H Q I q)
def tComp (src : List (Option Nat)) (wi : TI) (g : TG) (tc : TT) (te : TE) : TE := fun σ H Q => wi σ H fun J H1 => ∃ W : Nat → Nat → List V → Hp → Prop, (∃ m, W 0 m [] H1) ∧ ∀ i m ys H2, W i m ys H2 →
  (J.stop i H2 ∧ ys.length ≤ sizeLine ∧ ∀ p, H2 p = none → Q (.ref p) (upd H2 p (.lst ys))) ∨
  (J.go i H2 ∧ ∀ x H3, J.yld i H2 x H3 → g x (seen σ src) H3 fun σ2 H4 => Weak (seen σ src) σ2 ∧ tc σ2 H4 fun b H5 =>
    if b = true then te σ2 H5 fun y H6 => ys.length < sizeLine ∧ ∃ m', m' < m ∧ W (i + 1) m' (ys ++ [y]) H6 else ∃ m', m' < m ∧ W (i + 1) m' ys H5)
theorem cellsFrom_app : ∀ (names : List (Str × NameKind)) (n : Nat) (acc : List (Str × Addr)), cellsFrom n names acc = cellsFrom n names [] ++ acc
  | [], _, acc => rfl
  | (x, k) :: r, n, acc => by
    unfold cellsFrom
    split
    · rw [cellsFrom_app r (n + 1) ((x, n) :: acc), cellsFrom_app r (n + 1) [(x, n)], List.append_assoc]
      rfl
    · exact cellsFrom_app r n acc
theorem cellsFrom_mem : ∀ (names : List (Str × NameKind)) (n : Nat) (acc : List (Str × Addr)) (x : Str) (c : Addr), (x, c) ∈ cellsFrom n names acc → (x, c) ∈ acc ∨ (x, NameKind.cell) ∈ names
  | [], _, _, _, _, h => .inl h
  | (y, k) :: r, n, acc, x, c, h => by
    unfold cellsFrom at h
    split at h
    · rename_i hk
      have hk' : k = .cell := by simpa using hk
      rcases cellsFrom_mem r _ _ x c h with z | z
      · rcases List.mem_cons.mp z with z | z
        · cases z
          exact .inr (hk' ▸ List.mem_cons_self ..)
        · exact .inl z
      · exact .inr (List.mem_cons_of_mem _ z)
    · rcases cellsFrom_mem r _ _ x c h with z | z
      · exact .inl z
      · exact .inr (List.mem_cons_of_mem _ z)
theorem new_around {M : Model} {A : Around} {E : Value → Shared → Prop} {s : Shared} {scope : Scope} {globals : Addr} {cl : List (Str × Addr)} {qual : Str} {env : Env} {Q : Env → Shared → Prop}
    (h : ∀ h', h'.Ns s.heap.objs.size (fun _ => none) → (∀ b o, s.heap.get? b = some o → h'.get? b = some o) → CellsOk h' (s.heap.objs.size + 1) (cellsFrom (s.heap.objs.size + 1) scope.names []) →
      Q { scope, locals := s.heap.objs.size, globals, cells := cellsFrom (s.heap.objs.size + 1) scope.names [] ++ cl, qual, func := none, code := env.code, frame := env.frame, builtins := env.builtins } { s with heap := h' }) :
    wpAny M A (newFunctionEnv scope globals cl [] qual none .none (some env)) Q E s := by
  simp only [newFunctionEnv, Option.isSome_some, if_true]
  refine wpAny_bind (wpAny_alloc ?_)
  refine wpAny_bind (wpAny_layCells _ (fun name kind cells => by cases hkc : kind == NameKind.cell <;> simp [hkc]) _ _ _ _ ?_)
  have ok := cellsFrom_ok scope.names (s.heap.push { cls := .type "dict", data := .dict #[] }) (s.heap.objs.size + 1) [] ⟨fun _ _ hm => (nomatch hm), List.Pairwise.nil⟩ (by rw [Heap.size_push]; exact Nat.le_refl _)
  rw [Heap.size_push] at ok
  rw [show ({ s with heap := s.heap.push { cls := .type "dict", data := .dict #[] } } : Shared).heap.objs.size = s.heap.objs.size + 1 from Heap.size_push .., cellsFrom_app]
  rw [List.forIn_nil]
  exact wpAny_bind (wpAny_pure (wpAny_pure (h _ ((Heap.Ns.new s.heap (.type "dict")).keeps (pushCells_keeps _ _)) (fun b o e => pushCells_keeps _ _ b o (Heap.get?_push_of_some _ e)) ok)))
/-- a comprehension, whatever is done with its list; its element may refuse -/
theorem comp_coreX {X : Cx} {elt tg iter : Expr} {ifs : List Expr} {scope : Scope} {pos pos2 : Pos} {N : List Str} {src : List (Option Nat)} {wi : TI} {g : TG} {tc : TT} {te : TE} {use : Option (Value → Sem Unit)} {Post : Value → Shared → Prop} {pins : List (Addr × Obj)} {s : Shared} {σ : St} {H : Hp} {Q : VK}
    (hc : X.calm = true) (S : CompScope X scope N src) (hi : PI X tg iter wi)
    (hg : ∀ s H cl C fp, PG (cxC X s H scope cl C N fp) tg g) (hf : ∀ s H cl C fp, PIf (cxC X s H scope cl C N fp) ifs tc) (xc : Cx → Value → Shared → Prop) (he : ∀ s H cl C fp, (X.ex = [] → ∀ b o, X.s₀.heap.get? b = some o → b ∉ fp ∧ ∃ o', s.heap.get? b = some o') → PE ((cxC X s H scope cl C N fp).wish (xc (cxC X s H scope cl C N fp))) elt te)
    (hs : ∀ x, foldedSetIterable iter X.env x = pure x) (I : Inv X pins σ H s) (h : tComp src wi g tc te σ H Q)
    (fin : ∀ (C a : Addr) (H1 : Hp) (s' : Shared), (∀ h', Heap.SameBut C s'.heap h' → Inv X pins σ H1 { s' with heap := h' }) → FpOk X pins H1 C → (∃ m, s'.heap.Ns C m) → Q (.ref a) H1 → compPost (model X.prog X.w) X.A X.xe use Post (.ref a) C (.ok .next) s')
    (bad : ∀ (s2 : Shared) (H2 : Hp) (cl : List (Str × Addr)) (C : Addr) (fp : List Addr) (acc e : Value) (s' : Shared), (∀ σ' H' s', Inv (cxC X s2 H2 scope cl C N fp) [] σ' H' s' → ∀ h', Heap.SameBut C s'.heap h' → Inv X pins σ H' { s' with heap := h' }) → (X.ex = [] → ∀ b o, X.s₀.heap.get? b = some o → b ∉ fp ∧ ∃ o', s2.heap.get? b = some o') → xc (cxC X s2 H2 scope cl C N fp) e s' →
      notedBy (model X.prog X.w) X.A (compEnvC scope cl C X.env) (fun x s'' => compPost (model X.prog X.w) X.A X.xe use Post acc C (.error x) s'') e s') :
    wpAny (model X.prog X.w) X.A (comprehension (.ListComp elt [⟨tg, iter, ifs, 0⟩] scope pos) scope X.env pos2 (newList []) false (eval iter X.env) use) Post X.xe s := by
  obtain ⟨cl, hcl, cl1, cl2⟩ := closure_of (scope := scope) (env := X.env) (fun x hx => I.ok.has x (S.has x hx))
  refine wpAny_comprehension_free (use := use) rfl hs hcl S.kind S.own (thn (hi pins s σ H _ I h) fun v s1 h1 => thn h1 fun itv s2 h2 => ?_)
  obtain ⟨it, fp, tn, J, H2, rfl, I2, T, st2, f2, W, ⟨m0, w0⟩, turn⟩ := h2
  refine wpAny_newObj_type (new_around fun h3 hns hsb cok => ?_)
  dsimp only at hns hsb cok ⊢
  generalize hHd : s2.heap.push { cls := .type "list", dict := none, data := .seq ([] : List Value).toArray } = Hd at hns hsb cok ⊢
  have hCs : Hd.objs.size = s2.heap.objs.size + 1 := by rw [← hHd, Heap.size_push]
  have hDC : s2.heap.objs.size ≠ Hd.objs.size := by rw [hCs]; exact Nat.ne_of_lt (Nat.lt_succ_self _)
  have below : ∀ b, b < s2.heap.objs.size → b ≠ Hd.objs.size ∧ b ≠ s2.heap.objs.size := fun b hb => ⟨by rw [hCs]; exact Nat.ne_of_lt (Nat.lt_succ_of_lt hb), Nat.ne_of_lt hb⟩
  have old : ∀ b o, s2.heap.get? b = some o → h3.get? b = some o := fun b o e => hsb b o (hHd ▸ Heap.get?_push_of_some _ e)
  have hacc : h3.get? s2.heap.objs.size = some { cls := .type "list", dict := none, data := .seq ([] : List Value).toArray } := hsb _ _ (hHd ▸ Heap.get?_push_size _ rfl)
  have fpObj := T.obj 0 _ st2
  have fpLt : ∀ b ∈ fp, b < s2.heap.objs.size := fun b hb => by
    obtain ⟨o, e, _⟩ := fpObj b hb
    exact Heap.lt_size e
  generalize hown : cellsFrom (Hd.objs.size + 1) scope.names [] = own at cok ⊢
  have ownC : ∀ x c, (x, c) ∈ own → scope.names.lookup x = some .cell := fun x c hm => by
    rw [← hown] at hm
    rcases cellsFrom_mem _ _ _ _ _ hm with z | z
    · exact nomatch z
    · exact S.cells _ z rfl
  have two : ∀ x c, (own ++ cl).lookup x = some c → (cl.lookup x = some c ∧ c < s2.heap.objs.size) ∨ ((x, c) ∈ own ∧ h3.IsCell c none ∧ Hd.objs.size < c) := fun x c e => by
    rw [List.lookup_append] at e
    cases ho : own.lookup x with
    | none =>
      rw [ho, Option.none_or] at e
      obtain ⟨v, q⟩ := I2.cell x c (cl1 x c e)
      exact .inl ⟨e, q.lt⟩
    | some c' =>
      rw [ho, Option.some_or] at e
      cases e
      have hm := mem_of_lookup ho
      exact .inr ⟨hm, (cok.empty x c hm).1, (cok.empty x c hm).2⟩
  have cellNe : ∀ x c, (own ++ cl).lookup x = some c → c ≠ s2.heap.objs.size ∧ ∀ b ∈ fp, c ≠ b := fun x c e => by
    rcases two x c e with ⟨e, lt⟩ | ⟨_, _, lt⟩
    · exact ⟨Nat.ne_of_lt lt, fun b hb => (f2 b hb).2.2.2.2.1 x c (cl1 x c e)⟩
    · rw [hCs] at lt
      exact ⟨Nat.ne_of_gt (Nat.lt_trans (Nat.lt_succ_self _) lt), fun b hb => Nat.ne_of_gt (Nat.lt_trans (fpLt b hb) (Nat.lt_trans (Nat.lt_succ_self _) lt))⟩
  have fresh : ∀ a, s2.heap.objs.size ≤ a → s2.heap.get? a = none := fun a ha => by
    cases e : s2.heap.get? a with
    | none => rfl
    | some o' => exact absurd (Heap.lt_size e) (Nat.not_lt.mpr ha)
  -- the context
  have okY : (cxC X s2 H2 scope (own ++ cl) Hd.objs.size N fp).Ok := by
    refine ⟨I2.ok.mod, S.kind, I2.ok.glob, I2.ok.blt, ?_, ?_, ?_, ?_, fun hcc => I2.ok.hd hcc, I2.ok.frames, .inl rfl, fun b hb => ⟨(below b (fpLt b hb)).1, fun x c e => (cellNe x c e).2 b hb⟩,
      I2.bs, Nat.le_trans I2.ok.bsz I2.sz, fun b o e hb => ?_, fun b hb z => (List.mem_cons.mp (I2.stkSub b z)).elim (f2 b hb).2.1 (f2 b hb).2.2.1, I2.stack, I2.stkFree⟩
    · show s2.heap.objs.size ≤ Hd.objs.size
      rw [hCs]; exact Nat.le_succ _
    · intro x y c e1 e2
      rcases two x c e1 with ⟨e1, l1⟩ | ⟨m1, _, l1⟩ <;> rcases two y c e2 with ⟨e2, l2⟩ | ⟨m2, _, l2⟩
      · exact I2.ok.inj x y c (cl1 x c e1) (cl1 y c e2)
      · rw [hCs] at l2; exact absurd (Nat.lt_trans l1 (Nat.lt_trans (Nat.lt_succ_self _) l2)) (Nat.lt_irrefl _)
      · rw [hCs] at l1; exact absurd (Nat.lt_trans l2 (Nat.lt_trans (Nat.lt_succ_self _) l1)) (Nat.lt_irrefl _)
      · exact name_of_addr cok.apart m1 m2
    · intro x hx
      show ∃ c, (own ++ cl).lookup x = some c
      rw [List.lookup_append]
      cases ho : own.lookup x with
      | some c => exact ⟨c, rfl⟩
      | none =>
        rw [Option.none_or]
        rcases relabel_cell hx with z | z
        · exact cl2 x z
        · have := PySem.W.cellsFrom_some scope.names (Hd.objs.size + 1) [] (.inl (S.cells _ z rfl))
          rw [hown, ho] at this
          cases this
    · intro x c hf e
      have hf' : scope.names.lookup x = some .cell := by simpa [cxC] using hf
      have := PySem.W.cellsFrom_some scope.names (Hd.objs.size + 1) [] (.inl hf')
      rw [hown] at this
      obtain ⟨c', ho⟩ := Option.isSome_iff_exists.mp this
      have e' : (own ++ cl).lookup x = some c := e
      rw [List.lookup_append, ho, Option.some_or] at e'
      cases e'
      have := (cok.empty x c (mem_of_lookup ho)).2
      show s2.heap.objs.size ≤ c
      rw [hCs] at this
      omega
    · rcases (f2 b hb).2.2.2.1 with z | z
      · exact I2.ok.noex b o e z
      · exact absurd (Nat.lt_of_lt_of_le (Heap.lt_size e) (Nat.le_trans I2.ok.bsz z)) (Nat.lt_irrefl _)
  have IY : Inv (cxC X s2 H2 scope (own ++ cl) Hd.objs.size N fp) [] (seen σ src) H2 { s2 with heap := h3 } := by
    refine ⟨okY, rfl, I2.bare, Un.kept old, ⟨_, hns, fun i x v e1 e2 _ => ?_⟩, fun x c e => ?_, I2.hok.fresh (by show s2.heap.objs.size ≤ Hd.objs.size; rw [hCs]; exact Nat.le_succ _), ?_, fun p hp => (nomatch hp), I2.hok.kept old, ?_⟩
    · unfold seen at e2
      rw [List.getElem?_map] at e2
      cases hsr : src[i]? with
      | none => rw [hsr] at e2; cases e2
      | some oj =>
        rw [hsr] at e2
        cases oj with
        | none => cases e2
        | some j =>
          obtain ⟨hN, hfr, hlk⟩ := S.src i j x hsr e1
          have e3 : σ[j]? = some (some v) := by
            have : (σ[j]?).join = some v := Option.some.inj e2
            cases hj : σ[j]? with
            | none => rw [hj] at this; cases this
            | some o => rw [hj] at this; cases this; rfl
          have hk := S.has x hfr
          have vis : Vis X.env.scope x := by
            rcases hk with z | z
            · exact .inr (.inl z)
            · exact .inr (.inr z)
          obtain ⟨m, hnm, hl⟩ := I2.loc
          obtain ⟨u, r, l⟩ := hl j x v hN e3 vis
          refine ⟨u, r, .inr ⟨lookup_relabel_free hlk, ?_⟩⟩
          rcases l with ⟨l1, _⟩ | ⟨_, c, ec, ic⟩
          · rcases hk with z | z <;> (rw [l1] at z; cases z)
          · obtain ⟨c', ec'⟩ := cl2 x hfr
            have := cl1 x c' ec'
            rw [ec] at this
            cases this
            obtain ⟨o, ho, hd⟩ := ic
            have hno : own.lookup x = none := by
              cases ho : own.lookup x with
              | none => rfl
              | some c2 =>
                have := ownC x c2 (mem_of_lookup ho)
                rw [hlk] at this
                cases this
            exact ⟨c, by show (own ++ cl).lookup x = some c; rw [List.lookup_append, hno, Option.none_or]; exact ec', o, old _ _ ho, hd⟩
    · rcases two x c e with ⟨e, _⟩ | ⟨_, q, _⟩
      · obtain ⟨v, o, ho, hd⟩ := I2.cell x c (cl1 x c e)
        exact ⟨v, o, old _ _ ho, hd⟩
      · exact ⟨none, q⟩
    · intro x c e
      rcases two x c e with ⟨e, _⟩ | ⟨_, _, lt⟩
      · exact I2.freeC x c (cl1 x c e)
      · exact I2.hok.fresh (by rw [hCs] at lt; omega)
    · show (seen σ src).length = N.length
      unfold seen
      rw [List.length_map, S.len]
  have dFs : s2.heap.objs.size ∉ frs X.stack := fun z => by
    obtain ⟨_, o, ho, _⟩ := I2.stack.mem z
    exact absurd (Heap.lt_size ho) (Nat.lt_irrefl _)
  have cFs : Hd.objs.size ∉ frs X.stack := fun z => by
    obtain ⟨_, o, ho, _⟩ := I2.stack.mem z
    have z2 := Heap.lt_size ho
    rw [hCs] at z2
    exact absurd z2 (Nat.not_lt.mpr (Nat.le_succ _))
  have stat : ∀ {H' : Hp} {pn : List (Addr × Obj)}, (∀ b ∈ fp, H' b = none) → (∀ p ∈ pn, p.1 = s2.heap.objs.size) → ∀ b ∈ fp, FpOk (cxC X s2 H2 scope (own ++ cl) Hd.objs.size N fp) pn H' b := fun hn hp b hb =>
    ⟨hn b hb, (below b (fpLt b hb)).1, okY.exfs b hb, .inl hb, fun x c e => (cellNe x c e).2 b hb, fun p q z => (below b (fpLt b hb)).2 (z ▸ hp p q)⟩
  have neC : ∀ b o, s2.heap.get? b = some o → b ≠ Hd.objs.size := fun b o e => (below b (Heap.lt_size e)).1
  have key : ∀ σ' H' s', Inv (cxC X s2 H2 scope (own ++ cl) Hd.objs.size N fp) [] σ' H' s' → ∀ h', Heap.SameBut Hd.objs.size s'.heap h' → Inv X pins σ H' { s' with heap := h' } := fun σ' H' s4 I6 h' hsb' => by
    have kp : ∀ b o, b ≠ Hd.objs.size → s4.heap.get? b = some o → h'.get? b = some o := fun b o hb e => (hsb'.2 b hb).trans e
    have un : Un (frs X.stack) fp H2 H' s2.heap h' := by
      have u0 : Un (frs X.stack) fp H2 H' s2.heap s4.heap := I6.base
      refine ⟨fun b o e n' hb hx => kp b o (neC b o e) (u0.keep b o e n' hb hx), fun b o e n' hb hx => ?_, u0.free, fun b o e hx => ?_, u0.tups, u0.frzs, u0.tbls⟩
      · obtain ⟨sl, e1⟩ := u0.slot b o e n' hb hx
        exact ⟨sl, kp b _ (neC b o e) e1⟩
      · obtain ⟨o', e1⟩ := u0.there b o e hx
        exact ⟨o', kp b o' (neC b o e) e1⟩
    have nC : H' Hd.objs.size = none := I6.free
    have hok : HOk X.prog X.w H' h' := fun a o e => (I6.hok a o e).stay (fun b u hb q' => kp b u (fun z => by
      rcases hb with rfl | hb
      · rw [z, nC] at e; cases e
      · rw [z, nC] at hb; cases hb) q') (fun _ q' => q') fun _ _ q' => q'
    exact I2.call' (s' := { s4 with heap := h' }) I6.os un hok I6.bare (fun b hb => ⟨(f2 b hb).2.2.2.1, (f2 b hb).2.1, (f2 b hb).2.2.2.2.1, (f2 b hb).2.2.2.2.2⟩)
  have olds : X.ex = [] → ∀ b o, X.s₀.heap.get? b = some o → b ∉ fp ∧ ∃ o', s2.heap.get? b = some o' := fun hex b o e => by
    refine ⟨fun hb => ?_, I2.base.there b o e (by rw [hex]; simp)⟩
    rcases (f2 b hb).2.2.2.1 with z | z
    · rw [hex] at z
      cases z
    · exact absurd (Heap.lt_size e) (Nat.not_lt.mpr z)
  have loop : ∀ sA : Shared, sA = { s2 with heap := h3 } →
      codeAny (model X.prog X.w) X.A (.compLoop (.ListComp elt [⟨tg, iter, ifs, 0⟩] scope pos) 0 (.ref it) (.ref s2.heap.objs.size) (compEnvC scope (own ++ cl) Hd.objs.size X.env))
        (compPost (model X.prog X.w) X.A X.xe use Post (.ref s2.heap.objs.size) Hd.objs.size) sA := by
    rintro sA rfl
    refine compLoop_anyX (fun n s' => ∃ (i : Nat) (ys : List V) (its : List Value) (k : Nat) (σ3 : St) (H3 : Hp), Inv (cxC X s2 H2 scope (own ++ cl) Hd.objs.size N fp) [] σ3 H3 s' ∧ Weak (seen σ src) σ3 ∧ tn i s'.heap ∧ (∀ b ∈ fp, H3 b = none) ∧ W i n ys H3 ∧
        s'.heap.get? s2.heap.objs.size = some { cls := .type "list", data := .seq its.toArray k } ∧ Vals ys its ∧ H3 s2.heap.objs.size = none) ?_ m0
      ⟨0, [], [], 0, _, H2, IY, Weak.refl _, T.keep 0 _ _ st2 (fun b hb o e => old b o e), fun b hb => (f2 b hb).1, w0, hacc, .nil, I2.fresh⟩
    rintro n s3 ⟨i, ys, its, k, σ3, H3, I3, wk, st3, fr3, w3, hD, rv, nD⟩
    have I4 : Inv (cxC X s2 H2 scope (own ++ cl) Hd.objs.size N fp) [] (seen σ src) H3 s3 := I3.weak wk.1.symm wk.2
    have I5 : Inv (cxC X s2 H2 scope (own ++ cl) Hd.objs.size N fp) [(s2.heap.objs.size, { cls := .type "list", data := .seq its.toArray k })] (seen σ src) H3 s3 := I4.pins_of fun p hp => by
      cases List.mem_singleton.mp hp
      exact ⟨hD, nD, hDC, dFs, fun v z => nomatch z⟩
    have one : ∀ p ∈ [((s2.heap.objs.size, { cls := .type "list", data := .seq its.toArray k }) : Addr × Obj)], p.1 = s2.heap.objs.size := fun p hp => by
      cases List.mem_singleton.mp hp
      rfl
    rcases turn i n ys H3 w3 with ⟨stop, hlen, q⟩ | ⟨go, step⟩
    · refine thn (T.done (cxC X s2 H2 scope (own ++ cl) Hd.objs.size N fp) rfl rfl rfl hc i _ s3 _ H3 _ I5 (stat fr3 one) st3 stop) fun r s4 ⟨hr, I6⟩ => ?_
      subst hr
      have hD4 := (I6.pin _ (List.mem_append_right _ (List.mem_singleton.mpr rfl))).1
      obtain ⟨m, hn4, _⟩ := I6.loc
      refine fin Hd.objs.size s2.heap.objs.size (upd H3 s2.heap.objs.size (.lst ys)) s4 (fun h' hsb' => ?_) (I2.fpOk (by rw [hCs]; exact Nat.le_succ _) (by rw [upd_ne (Ne.symm hDC)]; exact I6.free)) ⟨m, hn4⟩ (q _ nD)
      have kp : ∀ b o, b ≠ Hd.objs.size → s4.heap.get? b = some o → h'.get? b = some o := fun b o hb e => (hsb'.2 b hb).trans e
      have I7 : Inv X pins σ H3 { s4 with heap := h' } := key _ _ s4 I6.nopins h' hsb'
      have e0 : X.s₀.heap.get? s2.heap.objs.size = none := by
        cases e : X.s₀.heap.get? s2.heap.objs.size with
        | none => rfl
        | some o => exact absurd (Nat.lt_of_lt_of_le (Heap.lt_size e) I2.sz) (Nat.lt_irrefl _)
      have I8 : Inv X pins σ (upd H3 s2.heap.objs.size (.lst ys)) { s4 with heap := h' } := I7.track nD e0 (fun z => Nat.lt_irrefl _ (z ▸ I2.lt)) (fun x c e z => by
        obtain ⟨v, q'⟩ := I2.cell x c e
        exact Nat.lt_irrefl _ (z ▸ q'.lt)) (fun p hp z => Nat.lt_irrefl _ (z ▸ Heap.lt_size (I2.pin p hp).1)) ⟨hlen, its, k, rv, kp _ _ hDC hD4⟩
      exact I8
    · refine thn (T.item (cxC X s2 H2 scope (own ++ cl) Hd.objs.size N fp) rfl rfl rfl hc i _ s3 _ H3 _ I5 (stat fr3 one) st3 go) fun r s4 ⟨u, hr, h4⟩ => ?_
      subst hr
      refine thn h4 fun _ s5 ⟨x, H5, I6, r5, y5, st5, fr5⟩ => ?_
      have I6' := I6.pinned (stat fr5 one) (T.obj _ _ st5)
      refine thn (hg _ _ _ _ _ _ s5 _ H5 x u _ I6' r5 (step x H5 y5)) fun _ s6 ⟨σ6, H6, I7, wk6, q6⟩ => ?_
      refine thn (hf _ _ _ _ _ _ s6 σ6 H6 _ I7 q6) fun ok s7 ⟨H7, I8, q7⟩ => ?_
      have back : ∀ {σ' : St} {H' : Hp} {s' : Shared}, Inv (cxC X s2 H2 scope (own ++ cl) Hd.objs.size N fp) ([(s2.heap.objs.size, { cls := .type "list", data := .seq its.toArray k })] ++ pinsAt fp s5.heap) σ' H' s' →
          tn (i + 1) s'.heap ∧ (∀ b ∈ fp, H' b = none) ∧ s'.heap.get? s2.heap.objs.size = some { cls := .type "list", data := .seq its.toArray k } ∧ H' s2.heap.objs.size = none := fun {σ' H' s'} J => by
        have jD := J.pin (s2.heap.objs.size, { cls := .type "list", data := .seq its.toArray k }) (by simp)
        refine ⟨T.keep _ _ _ st5 fun b hb o e => (J.pin (b, o) (List.mem_append_right _ (List.mem_append_right _ (mem_pinsAt hb e)))).1, fun b hb => ?_, jD.1, jD.2.1⟩
        obtain ⟨o, e, d⟩ := T.obj _ _ st5 b hb
        exact (J.pin (b, o) (List.mem_append_right _ (List.mem_append_right _ (mem_pinsAt hb e)))).2.1
      cases ok with
      | false =>
        rw [if_neg Bool.false_ne_true] at q7
        rw [if_neg Bool.false_ne_true]
        obtain ⟨m', hm, w'⟩ := q7
        obtain ⟨b1, b2, b3, b4⟩ := back I8
        exact ⟨m', hm, i + 1, ys, its, k, σ6, H7, I8.nopins, wk6, b1, b2, w', b3, rv, b4⟩
      | true =>
        rw [if_pos rfl] at q7
        rw [if_pos rfl]
        refine wpAny_mono (he _ _ _ _ _ olds _ s7 σ6 H7 _ (I8.wish _) q7) (fun u2 s8 ⟨y, H8, I9', r9, hlt, m', hm, w'⟩ => ?_) fun e s8 z => bad _ _ _ _ _ _ e s8 key olds z
        have I9 := I9'.unwish
        obtain ⟨b1, b2, b3, b4⟩ := back I9
        have hl := rv.length
        refine call_meets F.slot_list_append ⟨_, b3, rfl⟩ F.entry_list_append (F.args_list_append_2 _ _) (PySem.list_append s2.heap.objs.size its.toArray k u2 (by rw [List.size_toArray]; omega)) ⟨b3, ?_⟩
        have qu := PySem.IsL.update b3 (·.push u2)
        rw [show its.toArray.push u2 = (its ++ [u2]).toArray by simp] at qu
        refine ⟨m', hm, i + 1, ys ++ [y], its ++ [u2], _, σ6, H8, ?_, wk6, ?_, b2, w', qu, rv.append (.cons r9 .nil), b4⟩
        · exact I9.nopins.turned (it := s2.heap.objs.size) (fun b o hb e => (Heap.get?_update_other s8.heap (Obj.mapSeq _) (Ne.symm hb)).trans e) b4 hDC (.inr (Nat.le_refl _)) (fun x c e z => (cellNe x c e).1 z) (fun p hp => nomatch hp)
        · exact T.keep _ _ _ b1 fun b hb o e => (Heap.get?_update_other s8.heap (Obj.mapSeq _) ((below b (fpLt b hb)).2.symm)).trans e
  exact codeAny_compStart_list (loop _ rfl) (T.self _ 0 _ _ _ (T.keep 0 _ _ st2 (fun b hb o e => old b o e)) (loop _ rfl))
/-- a comprehension, whatever is done with its list -/
theorem comp_core {X : Cx} {elt tg iter : Expr} {ifs : List Expr} {scope : Scope} {pos pos2 : Pos} {N : List Str} {src : List (Option Nat)} {wi : TI} {g : TG} {tc : TT} {te : TE} {use : Option (Value → Sem Unit)} {Post : Value → Shared → Prop} {pins : List (Addr × Obj)} {s : Shared} {σ : St} {H : Hp} {Q : VK}
    (hc : X.calm = true) (S : CompScope X scope N src) (hi : PI X tg iter wi)
    (hg : ∀ s H cl C fp, PG (cxC X s H scope cl C N fp) tg g) (hf : ∀ s H cl C fp, PIf (cxC X s H scope cl C N fp) ifs tc) (he : ∀ s H cl C fp, PE (cxC X s H scope cl C N fp) elt te)
    (hs : ∀ x, foldedSetIterable iter X.env x = pure x) (I : Inv X pins σ H s) (h : tComp src wi g tc te σ H Q)
    (fin : ∀ (C a : Addr) (H1 : Hp) (s' : Shared), (∀ h', Heap.SameBut C s'.heap h' → Inv X pins σ H1 { s' with heap := h' }) → FpOk X pins H1 C → (∃ m, s'.heap.Ns C m) → Q (.ref a) H1 → compPost (model X.prog X.w) X.A X.xe use Post (.ref a) C (.ok .next) s') :
    wpAny (model X.prog X.w) X.A (comprehension (.ListComp elt [⟨tg, iter, ifs, 0⟩] scope pos) scope X.env pos2 (newList []) false (eval iter X.env) use) Post X.xe s :=
  comp_coreX hc S hi hg hf (fun _ _ _ => False) (fun s H cl C fp _ => he s H cl C fp) hs I h fin fun _ _ _ _ _ _ _ _ _ _ z => z.elim
theorem pe_comp {X : Cx} {elt tg iter : Expr} {ifs : List Expr} {scope : Scope} {pos : Pos} {N : List Str} {src : List (Option Nat)} {wi : TI} {g : TG} {tc : TT} {te : TE} (hc : X.calm = true) (S : CompScope X scope N src) (hi : PI X tg iter wi)
    (hg : ∀ s H cl C fp, PG (cxC X s H scope cl C N fp) tg g) (hf : ∀ s H cl C fp, PIf (cxC X s H scope cl C N fp) ifs tc) (he : ∀ s H cl C fp, PE (cxC X s H scope cl C N fp) elt te)
    (hs : ∀ x, foldedSetIterable iter X.env x = pure x := by intro _; rfl) : PE X (.ListComp elt [⟨tg, iter, ifs, 0⟩] scope pos) (tComp src wi g tc te) := by
  intro pins s σ H Q I h
  rw [eval_ListComp]
  refine comp_core (use := none) hc S hi hg hf he hs I h fun C a H1 s' key _ ⟨m, hn⟩ q => ⟨m, hn, fun h' sb => ⟨.ref a, H1, key h' sb, rfl, q⟩⟩
/-- x = [.. for ..], x a local name on the same row: stored before the block's names are let go -/
theorem ps_setComp {X : Cx} {elt tg iter : Expr} {ifs : List Expr} {scope : Scope} {pos spos pos' : Pos} {x : Str} {i : Nat} {N : List Str} {src : List (Option Nat)} {wi : TI} {g : TG} {tc : TT} {te : TE} (hc : X.calm = true) (S : CompScope X scope N src) (hi : PI X tg iter wi)
    (hg : ∀ s H cl C fp, PG (cxC X s H scope cl C N fp) tg g) (hf : ∀ s H cl C fp, PIf (cxC X s H scope cl C N fp) ifs tc) (he : ∀ s H cl C fp, PE (cxC X s H scope cl C N fp) elt te) (ht : PG X (.Name x pos') (gName i))
    (hsw : swapsWith (.ListComp elt [⟨tg, iter, ifs, 0⟩] scope pos) (some (.Name x pos')) spos.line X.env = pure true := by rfl)
    (hs : ∀ x, foldedSetIterable iter X.env x = pure x := by intro _; rfl) : PS X (.Assign [.Name x pos'] (.ListComp elt [⟨tg, iter, ifs, 0⟩] scope pos) spos) (tAsg (tComp src wi g tc te) (gName i)) := by
  intro pins s σ H D I h
  rw [exec_Assign_Name_used _ _ _ _ hsw]
  refine wpAny_bind (wpAny_standAt (wpAny_bind ?_))
  rw [arm_evalThenUse_ListComp]
  refine wpAny_bind ?_
  refine comp_core (use := some (assign (.Name x pos') X.env)) hc S hi hg hf he hs I h fun C a H1 s' key fp ⟨m, o, es, ep, ho, hd, hk⟩ q => ?_
  have I1 : Inv X pins σ H1 s' := key s'.heap (Heap.SameBut.refl _ _)
  have I2 := I1.pinned (fp := [C]) (fun b hb => by rw [List.mem_singleton.mp hb]; exact fp) (fun b hb => by rw [List.mem_singleton.mp hb]; exact ⟨o, ho, fun v z => by rw [hd] at z; cases z⟩)
  refine thn (ht _ s' σ H1 (.ref a) (.ref a) _ I2 rfl q) fun _ s5 ⟨σ5, H5, I5, q5⟩ => ?_
  have pC := I5.pin (C, o) (List.mem_append_right _ (List.mem_append_right _ (mem_pinsAt (List.mem_singleton.mpr rfl) ho)))
  obtain ⟨f0, f1, f2, f3, f4, f5⟩ := fp
  refine ⟨m, ⟨o, es, ep, pC.1, hd, hk⟩, fun h' sb => ?_⟩
  exact wpAny_pure (wpAny_pure ⟨σ5, H5, I5.unpinned.turned (it := C) (t' := s5.toks) (fun b o' hb e => (sb.2 b hb).trans e) pC.2.1 f1 f3 f4 f5, q5⟩)
/-! ### a scope that is written -/
def compOkB (osc sc : Scope) (oN N : List Str) (src : List (Option Nat)) : Bool :=
  sc.names.all (fun y => decide (y.2 ≠ .cell) || decide (sc.names.lookup y.1 = some .cell)) && sc.names.all (fun y => decide (y.2 ≠ .local) || decide (sc.names.lookup y.1 = some .local)) &&
  sc.names.all (fun y => decide (y.2 ≠ .free) || decide (osc.names.lookup y.1 = some .cell) || decide (osc.names.lookup y.1 = some .free)) && decide (src.length = N.length) &&
  (List.range src.length).all (fun i => match src[i]?, N[i]? with | some (some j), some x => decide (oN[j]? = some x) && decide ((x, NameKind.free) ∈ sc.names) && decide (sc.names.lookup x = some .free) | _, _ => true)
theorem comp_scope {X : Cx} {scope : Scope} {N : List Str} {src : List (Option Nat)} (osc : Scope) (oN : List Str) (e1 : X.env.scope = osc) (e2 : X.N = oN) (c : compOkB osc scope oN N src = true) (k : scope.kind = .function) : CompScope X scope N src := by
  unfold compOkB at c
  simp only [Bool.and_eq_true, List.all_eq_true, decide_eq_true_eq, Bool.or_eq_true] at c
  obtain ⟨⟨⟨⟨c1, c2⟩, c3⟩, c4⟩, c5⟩ := c
  refine ⟨k, fun y hy e => (c1 y hy).resolve_left fun z => z e, fun y hy e => ?_, fun x hx => ?_, c4, fun i j x h1 h2 => ?_⟩
  · rcases c2 y hy with z | z
    · exact absurd e z
    · exact z
  · show X.env.scope.names.lookup x = _ ∨ X.env.scope.names.lookup x = _
    rw [e1]
    rcases c3 (x, .free) hx with (z | z) | z
    · exact absurd rfl z
    · exact .inl z
    · exact .inr z
  · have hi : i < src.length := (List.getElem?_eq_some_iff.mp h1).1
    have z := c5 i (List.mem_range.mpr hi)
    rw [h1, h2] at z
    simp only [Bool.and_eq_true, decide_eq_true_eq] at z
    rw [e2]
    exact ⟨z.1.1, z.1.2, z.2⟩
/-- the same inside another comprehension, whose scope is no closed text -/
theorem comp_scopeX {X : Cx} {scope : Scope} {N : List Str} {src : List (Option Nat)} (oN : List Str) (e2 : X.N = oN) (c : compOkB X.env.scope scope oN N src = true) (k : scope.kind = .function) : CompScope X scope N src := comp_scope X.env.scope oN rfl e2 c k
end L2
/-! EvMore: data read off the abstract heap and compared, any, all; promises of defs in bundles. Behind EvComp. -/
namespace L2
open PySem PySem.Spec PyProof.Rows
/-! ### data -/
mutual
def IsD (K : PySem.W.Frag) (H : Hp) : PyData → V → Prop
  | .none, v => v = .non
  | .bool b, v => v = .bl b
  | .int i, v => v = .int i
  | .str x, v => v = .str x
  | .list ds, v => ∃ a xs, v = .ref a ∧ SqL K H a xs ∧ IsDs K H ds xs
  | .tuple ds, v => ∃ a xs, v = .ref a ∧ SqT K H a xs ∧ IsDs K H ds xs
  | .dict _, _ => False
def IsDs (K : PySem.W.Frag) (H : Hp) : List PyData → List V → Prop
  | [], xs => xs = []
  | d :: ds, xs => ∃ x r, xs = x :: r ∧ IsD K H d x ∧ IsDs K H ds r
end
theorem isTup_reads {h : Heap} {a : Addr} {its : Array Value} (t : IsTup h a its) : ∃ o n, h.get? a = some o ∧ o.cls = .type "tuple" ∧ o.data = .seq its n := by
  obtain ⟨o, ho, hc, n, hd⟩ := t
  exact ⟨o, n, ho, hc, hd⟩
section
variable {X : Cx} {pins : List (Addr × Obj)} {σ : St} {H : Hp} {s : Shared}
mutual
theorem IsD.reads (I : Inv X pins σ H s) : ∀ (d : PyData) {v : V} {u : Value}, IsD X.K H d v → RelV v u → ∃ as, Reads s.heap u d as
  | .none, v, u, h, r => by
    simp only [IsD] at h; subst h
    cases (show u = .none from r); exact ⟨_, .none⟩
  | .bool b, v, u, h, r => by
    simp only [IsD] at h; subst h
    cases (show u = .bool b from r); exact ⟨_, .bool b⟩
  | .int i, v, u, h, r => by
    simp only [IsD] at h; subst h
    obtain ⟨t, rfl⟩ := r; exact ⟨_, .int i t⟩
  | .str x, v, u, h, r => by
    simp only [IsD] at h; subst h
    obtain ⟨t, rfl⟩ := r; exact ⟨_, .str x t⟩
  | .list ds, v, u, h, r => by
    simp only [IsD] at h
    obtain ⟨a, xs, rfl, hs, hd⟩ := h
    cases (show u = .ref a from r)
    obtain ⟨its, rv, p, _⟩ := I.list hs
    obtain ⟨o, ho, hc, n, hdd⟩ := p.isList
    obtain ⟨as, ra⟩ := IsDs.reads I ds hd rv
    exact ⟨_, .list ho hc hdd (by simpa using ra)⟩
  | .tuple ds, v, u, h, r => by
    simp only [IsD] at h
    obtain ⟨a, xs, rfl, hs, hd⟩ := h
    cases (show u = .ref a from r)
    obtain ⟨its, rv, p, _⟩ := I.tuple hs
    obtain ⟨o, n, ho, hc, hdd⟩ := isTup_reads p
    obtain ⟨as, ra⟩ := IsDs.reads I ds hd rv
    exact ⟨_, .tuple ho hc hdd (by simpa using ra)⟩
  | .dict _, v, u, h, r => by
    simp only [IsD] at h
theorem IsDs.reads (I : Inv X pins σ H s) : ∀ (ds : List PyData) {vs : List V} {us : List Value}, IsDs X.K H ds vs → Vals vs us → ∃ as, ReadsAll s.heap us ds as
  | [], vs, us, h, r => by
    simp only [IsDs] at h; subst h
    cases r; exact ⟨_, .nil⟩
  | d :: ds, vs, us, h, r => by
    simp only [IsDs] at h
    obtain ⟨x, rr, rfl, hx, hr⟩ := h
    cases r with
    | cons r1 r2 =>
      obtain ⟨as, ra⟩ := IsD.reads I d hx r1
      obtain ⟨bs, rb⟩ := IsDs.reads I ds hr r2
      exact ⟨_, .cons ra rb⟩
end
end
mutual
theorem IsD.imp {K : PySem.W.Frag} {H H' : Hp} (sl : ∀ a xs, SqL K H a xs → SqL K H' a xs) (st : ∀ a xs, SqT K H a xs → SqT K H' a xs) : ∀ (d : PyData) {v : V}, IsD K H d v → IsD K H' d v
  | .none, v, h => by simp only [IsD] at h ⊢; exact h
  | .bool b, v, h => by simp only [IsD] at h ⊢; exact h
  | .int i, v, h => by simp only [IsD] at h ⊢; exact h
  | .str x, v, h => by simp only [IsD] at h ⊢; exact h
  | .list ds, v, h => by
    simp only [IsD] at h ⊢
    obtain ⟨a, xs, e, hs, hd⟩ := h
    exact ⟨a, xs, e, sl a xs hs, IsDs.imp sl st ds hd⟩
  | .tuple ds, v, h => by
    simp only [IsD] at h ⊢
    obtain ⟨a, xs, e, hs, hd⟩ := h
    exact ⟨a, xs, e, st a xs hs, IsDs.imp sl st ds hd⟩
  | .dict _, v, h => by simp only [IsD] at h
theorem IsDs.imp {K : PySem.W.Frag} {H H' : Hp} (sl : ∀ a xs, SqL K H a xs → SqL K H' a xs) (st : ∀ a xs, SqT K H a xs → SqT K H' a xs) : ∀ (ds : List PyData) {vs : List V}, IsDs K H ds vs → IsDs K H' ds vs
  | [], vs, h => by simp only [IsDs] at h ⊢; exact h
  | d :: ds, vs, h => by
    simp only [IsDs] at h ⊢
    obtain ⟨x, r, e, hx, hr⟩ := h
    exact ⟨x, r, e, IsD.imp sl st d hx, IsDs.imp sl st ds hr⟩
end
/-! ### == and != of data -/
def rEqD (K : PySem.W.Frag) (neg : Bool) : R2 := fun x y H Q => ∃ da db, IsD K H da x ∧ IsD K H db y ∧ PySem.SeqAt.shaped da = true ∧ PySem.SeqAt.shaped db = true ∧ Q (.bl (if neg then !PyData.eqv da db else PyData.eqv da db)) H
theorem op_eqD {X : Cx} (hu : X.A.units + 64 < cLine) : OpR X (compareOp .Eq) (rEqD X.K false) := by
  intro pins s σ H x y v u Q I rx ry h
  obtain ⟨da, db, ha, hb, sa, sb, q⟩ := h
  obtain ⟨as, ra⟩ := IsD.reads I da ha rx
  obtain ⟨bs, rb⟩ := IsD.reads I db hb ry
  exact PySem.SeqAt.compareEq_shaped ra rb sa sb hu ⟨.bl _, H, I, rfl, q⟩
theorem op_neD {X : Cx} (hu : X.A.units + 64 < cLine) : OpR X (compareOp .NotEq) (rEqD X.K true) := by
  intro pins s σ H x y v u Q I rx ry h
  obtain ⟨da, db, ha, hb, sa, sb, q⟩ := h
  obtain ⟨as, ra⟩ := IsD.reads I da ha rx
  obtain ⟨bs, rb⟩ := IsD.reads I db hb ry
  exact PySem.SeqAt.compareNe_shaped ra rb sa sb hu ⟨.bl _, H, I, rfl, q⟩
/-! ### any, all -/
theorem bools_of : ∀ {bs : List Bool} {us : List Value}, Vals (bs.map V.bl) us → LSm.BoolsAre us bs
  | [], _, .nil => .nil
  | b :: bs, _, .cons h t => by
    cases (show _ = Value.bool b from h)
    exact .cons b (bools_of t)
theorem call_all {X : Cx} (hc : X.calm = true) : CallR X (.builtin "all") (fun xs H Q => ∃ (a : Addr) (bs : List Bool), xs = [.ref a] ∧ SqL X.K H a (bs.map V.bl) ∧ Q (.bl (bs.all id)) H) := by
  intro pins s σ H xs us Q I r h
  obtain ⟨a, bs, rfl, hS, q⟩ := h
  obtain ⟨u, rfl, ru⟩ := r.one
  cases (show u = Value.ref a from ru)
  obtain ⟨its, rv, p, _⟩ := I.list hS
  have hl := p.isList
  have hb := bools_of rv
  have hlt : a < s.heap.objs.size := by obtain ⟨_, e, _⟩ := hl; exact Heap.lt_size e
  refine call_all_walk (wpAny_pyIter_list hl ?_)
  refine ⟨s.heap.objs.size, [s.heap.objs.size, a], [s.heap.objs.size], its.toArray.size, _, _, fun i => (bs[i]?).getD true, rfl, Walks.list (A := X.A.in1) (I.ok.hd hc) _ a (Nat.ne_of_lt hlt) its.toArray,
    ⟨⟨_, Heap.get?_push_size _ rfl, rfl, rfl⟩, hl.push _⟩, fun i v s' Q' E' hP hQ => ?_, fun h' tk hk => ?_⟩
  · obtain ⟨b, e, rfl⟩ := hb.get i v (by simpa using hP)
    simp only [e, Option.getD_some] at hQ
    exact wpAny_truthy_bool hQ
  · have e : ((List.range its.toArray.size).all fun i => (bs[i]?).getD true) = bs.all id := by
      rw [List.size_toArray, hb.length]; exact LSm.range_all bs
    rw [e]
    exact ⟨.bl _, H, I.kept (LSm.kept_iter hk), rfl, q⟩
/-! ### a def with its promise, in one -/
def Pm (P : Program) (w : World) (K : PySem.W.Frag) (mg : Str → Option Value) (base : Heap) (CX : CXT) (k : Nat) (x : Str) (ps : List Str) (sp : Sp) : Prop :=
  ∃ (f : Addr) (fd : FuncData), mg x = some (.ref f) ∧ PySem.W.keepIn K (.ref f) = true ∧ Binds K fd ps [] ∧ FnOk P w K mg base CX k f fd ps sp
theorem pe_callP {X : Cx} {CX : CXT} {k : Nat} {x : Str} {ps : List Str} {sp : Sp} {E : XK} {p pos : Pos} {e : Expr} {es : List Expr} {t : TA} (h : Pm X.prog X.w X.K X.mg X.base CX k x ps sp) (hr : Room k X.A) (hg : Gl X x) (hx : Passes CX X E) (ha : PA X (e :: es) t)
    (hdb : (x == ("__debug__" : Str)) = false := by decide) (he : starEach (e :: es) X.env = (false, eval e X.env) :: starEach es X.env := by rfl) (hpl : (backTo pos (starEach es X.env)).any (·.1) = false := by rfl) :
    PE X (.Call (.Name x p) (e :: es) [] pos) (tCall sp [] E t) := by
  obtain ⟨f, fd, hm, hk, hb, F⟩ := h
  exact pe_call F hr hg hm hk hb .nil hx ha hdb he hpl
end L2
/-! EvQ: made by mkq.py. The rules over structures. -/
namespace L2
open PySem PySem.Spec PyProof.Rows
set_option autoImplicit true
set_option relaxedAutoImplicit true
structure QE (X : Cx) (e : Expr) (t : TE) : Prop where
  h : PE X e t
structure QT (X : Cx) (e : Expr) (t : TT) : Prop where
  h : PT X e t
structure QW (X : Cx) (e : Expr) (t : TT) : Prop where
  h : PW X e t
structure QA (X : Cx) (e : List Expr) (t : TA) : Prop where
  h : PA X e t
structure QS (X : Cx) (e : Stmt) (t : TS) : Prop where
  h : PS X e t
structure QSs (X : Cx) (e : List Stmt) (t : TS) : Prop where
  h : PSs X e t
structure QGs (X : Cx) (e : List Expr) (t : TGs) : Prop where
  h : PGs X e t
structure QG (X : Cx) (e : Expr) (t : TG) : Prop where
  h : PG X e t
structure QIf (X : Cx) (e : List Expr) (t : TT) : Prop where
  h : PIf X e t
structure QO (X : Cx) (e : Option Expr) (t : TO) : Prop where
  h : PO X e t
structure QI (X : Cx) (tg iter : Expr) (t : TI) : Prop where
  h : PI X tg iter t
theorem QW.pt {X : Cx} {e : Expr} {t : TT} (k : QW X e t) : QT X e t := ⟨k.h.pt⟩
theorem qe_int {i j pos} : QE X (.Constant (.int i) j pos) (tC (.int i)) := ⟨pe_int ⟩
theorem qe_bl {b j pos} : QE X (.Constant (.bool b) j pos) (tC (.bl b)) := ⟨pe_bl ⟩
theorem qe_str {x j pos} : QE X (.Constant (.str x) j pos) (tC (.str x)) := ⟨pe_str ⟩
theorem qe_bltn {x : Str} {v : V} {u : Value} {pos : Pos} (hg : Gl X x) (hm : X.mg x = none) (hv : bootBuiltins x = some u) (r : RelV v u) (hn : x ≠ "__name__" := by decide) (hd : (x == ("__debug__" : Str)) = false := by decide) : QE X (.Name x pos) (tC v) := ⟨pe_bltn (hg) (hm) (hv) (r) (hn) (hd)⟩
theorem qt_val {e : Expr} {t : TE} (h : QE X e t) (he : ∀ whole, isTrue e X.env whole = (do let v ← whole; standAt e.pos; holding [v] (truthy v)) := by intro _; rfl) : QT X e (tB t) := ⟨pt_val h.h (he)⟩
theorem qw_and1 (ha : QT X a tA) : QW X (.BoolOp .And [a] pos) tA := ⟨pw_and1 ha.h⟩
theorem qw_or1 (ha : QT X a tA) : QW X (.BoolOp .Or [a] pos) tA := ⟨pw_or1 ha.h⟩
theorem qw_and (ha : QT X a tA) (hb : QW X (.BoolOp .And (b :: restq) pos) tB') : QW X (.BoolOp .And (a :: b :: restq) pos) (tAnd tA tB') := ⟨pw_and ha.h hb.h⟩
theorem qw_or (ha : QT X a tA) (hb : QW X (.BoolOp .Or (b :: restq) pos) tB') : QW X (.BoolOp .Or (a :: b :: restq) pos) (tOr tA tB') := ⟨pw_or ha.h hb.h⟩
theorem qt_not (ha : QT X a tA) : QT X (.UnaryOp .Not a pos) (tNot tA) := ⟨pt_not ha.h⟩
theorem qe_one {op} {t : TE} (h : QE X a t) : QE X (.BoolOp op [a] pos) t := ⟨pe_one h.h⟩
theorem qe_and (ha : QE X a ta) (hb : QE X (.BoolOp .And (b :: restq) pos) tb) : QE X (.BoolOp .And (a :: b :: restq) pos) (tAndV ta tb) := ⟨pe_and ha.h hb.h⟩
theorem qe_not (ha : QE X a ta) : QE X (.UnaryOp .Not a pos) (tNotV ta) := ⟨pe_not ha.h⟩
theorem qss_nil  : QSs X [] tNext := ⟨pss_nil ⟩
theorem qss_cons (h1 : QS X stq t) (h2 : QSs X restq u) : QSs X (stq :: restq) (tSeq t u) := ⟨pss_cons h1.h h2.h⟩
theorem qss_one (h1 : QS X stq t) : QSs X [stq] t := ⟨pss_one h1.h⟩
theorem qs_expr (he : QE X e te) (hs : swapsWith e none pos.line X.env = pure false := by rfl) : QS X (.Expr e pos) (tDrop te) := ⟨ps_expr he.h (hs)⟩
theorem qs_ret (he : QE X e te) : QS X (.Return (some e) pos) (tRet te) := ⟨ps_ret he.h⟩
theorem qs_if {c : Expr} {a b : List Stmt} {tc : TT} (hc : QT X c tc) (ha : QSs X a t) (hb : QSs X b u) : QS X (.If c a b pos) (tIfS tc t u) := ⟨ps_if hc.h ha.h hb.h⟩
theorem qg_name {i : Nat} {x : Str} (hN : X.N.Nodup) (hiq : X.N[i]? = some x) (hx : Loc X.env.scope x) (hf : X.fn x = true ∨ X.env.scope.names.lookup x = some .local := by first | exact .inl rfl | exact .inr rfl | assumption) : QG X (.Name x pos) (gName i) := ⟨pg_name (hN) (hiq) (hx) (hf)⟩
theorem qgs_nil  : QGs X [] gNil := ⟨pgs_nil ⟩
theorem qgs_cons {e : Expr} {es : List Expr} {t : TG} {u : TGs} (h1 : QG X e t) (h2 : QGs X es u) (hs : (assignEach (e :: es) X.env).map (·.2) = assign e X.env :: (assignEach es X.env).map (·.2) := by rfl) : QGs X (e :: es) (gCons t u) := ⟨pgs_cons h1.h h2.h (hs)⟩
theorem qg_tup {es : List Expr} {k : Nat} {t : TGs} {n : Nat} (hc : X.calm = true) (h : QGs X es t) (hn : (assignEach es X.env).length = n := by rfl) (hst : (assignEach es X.env).findIdx? (·.1) = none := by rfl) : QG X (.Tuple es k pos) (gTup X.K n t) := ⟨pg_tup (hc) h.h (hn) (hst)⟩
theorem qg_sub {o i : Expr} {to ti : TE} {t : TSet} (ho : QE X o to) (hiq : QE X i ti) (hs : PSet X t) (ha : ∀ v, assign (.Subscript o i pos) X.env v = (do
      let ov ← holding [v] (eval o X.env)
      let iv ← holding [v, ov] (eval i X.env)
      standAt pos
      holding [v, ov, iv] (setItem ov iv v)
      release [v, ov, iv] []) := by intro _; rfl) : QG X (.Subscript o i pos) (gSub to ti t) := ⟨pg_sub ho.h hiq.h (hs) (ha)⟩
theorem qs_asg {tg e : Expr} {te : TE} {g : TG} (he : QE X e te) (hg : QG X tg g) (hs : swapsWithSole [tg] e pos.line X.env = pure false := by rfl) (hw : swappedStores [tg] e X.env = pure none := by rfl) (h1 : (assignEach [tg] X.env).map (·.2) = [assign tg X.env] := by rfl) : QS X (.Assign [tg] e pos) (tAsg te g) := ⟨ps_asg he.h hg.h (hs) (hw) (h1)⟩
theorem qs_set {i : Nat} {x : Str} {e : Expr} {te : TE} {pos' : Pos} (hN : X.N.Nodup) (hiq : X.N[i]? = some x) (hx : Loc X.env.scope x) (he : QE X e te) (hs : swapsWith e (some (.Name x pos')) pos.line X.env = pure false := by rfl) (hf : X.fn x = true ∨ X.env.scope.names.lookup x = some .local := by first | exact .inl rfl | exact .inr rfl | assumption) : QS X (.Assign [.Name x pos'] e pos) (tAsg te (gName i)) := ⟨ps_set (hN) (hiq) (hx) he.h (hs) (hf)⟩
theorem qs_while {c : Expr} {body : List Stmt} {tc : TT} {tb : TS} (hp : PassesOwn (model X.prog X.w) X.A X.env X.xe) (hc : QT X c tc) (hb : QSs X body tb) : QS X (.While c body [] pos) (tWhile tc tb) := ⟨ps_while (hp) hc.h hb.h⟩
theorem qi_list {l : Expr} {tl : TE} (hl : QE X l tl) : QI X tg l (iList X.K tl) := ⟨pi_list hl.h⟩
theorem qi_tup {l : Expr} {tl : TE} (hl : QE X l tl) : QI X tg l (iTup X.K tl) := ⟨pi_tup hl.h⟩
theorem qi_range1 {a : Expr} {ta : TA} {p pos : Pos} (hg : Gl X "range") (hm : X.mg "range" = none) (ha : QA X [a] ta) (hs : starEach [a] X.env = [(false, eval a X.env)] := by rfl) : QI X tg (.Call (.Name "range" p) [a] [] pos) (iRng1 ta) := ⟨pi_range1 (hg) (hm) ha.h (hs)⟩
theorem qi_range2 {a b : Expr} {ta : TA} {p pos : Pos} (hg : Gl X "range") (hm : X.mg "range" = none) (ha : QA X [a, b] ta) (hs : starEach [a, b] X.env = [(false, eval a X.env), (false, eval b X.env)] := by rfl) (hs2 : starEach [b] X.env = [(false, eval b X.env)] := by rfl) : QI X tg (.Call (.Name "range" p) [a, b] [] pos) (iRng2 ta) := ⟨pi_range2 (hg) (hm) ha.h (hs) (hs2)⟩
theorem qs_for {iter : Expr} {body : List Stmt} {wi : TI} {g : TG} {tb : TS} {pos : Pos} (hp : PassesOwn (model X.prog X.w) X.A X.env X.xe) (hc : X.calm = true) (hiq : QI X tg iter wi) (hg : QG X tg g) (hb : QSs X body tb) (hs : ∀ x, foldedSetIterable iter X.env x = pure x := by intro _; rfl) : QS X (.For tg iter body [] pos) (tFor wi g tb) := ⟨ps_for (hp) (hc) hiq.h hg.h hb.h (hs)⟩
theorem qe_op {op : Operator} {r : R2} (ho : OpR X (binaryOp op) r) (ha : QE X a ta) (hb : QE X b tb) : QE X (.BinOp a op b pos) (tOp r ta tb) := ⟨pe_op (ho) ha.h hb.h⟩
theorem qe_cmpR {op : CmpOp} {r : R2} (ho : OpR X (compareOp op) r) (ha : QE X a ta) (hb : QE X b tb) (hm : behindInMarks op b = false) : QE X (.Compare a [op] [b] pos) (tOp r ta tb) := ⟨pe_cmpR (ho) ha.h hb.h (hm)⟩
theorem qt_cmpR {op : CmpOp} {r : R2} (ho : OpR X (compareOp op) r) (ha : QE X a ta) (hb : QE X b tb) (hm : behindInMarks op b = false) : QT X (.Compare a [op] [b] pos) (tTest (tOp r ta tb)) := ⟨pt_cmpR (ho) ha.h hb.h (hm)⟩
theorem qa_nil  : QA X [] tNil := ⟨pa_nil ⟩
theorem qe_tup {x1} (h : QA X es t) : QE X (.Tuple es x1 pos) (tTup t) := ⟨pe_tup h.h⟩
theorem qe_lst (h : QA X es t) : QE X (.List es pos) (tLst t) := ⟨pe_lst h.h⟩
theorem qe_callB (hc : CallR X (.builtin idq) r) (hg : Gl X x) (hm : X.mg x = none) (hv : bootBuiltins x = some (.builtin idq)) (ha : QA X (e :: es) t) (hn : x ≠ "__name__" := by decide) (hdb : (x == ("__debug__" : Str)) = false := by decide) (he : starEach (e :: es) X.env = (false, eval e X.env) :: starEach es X.env := by rfl) (hpl : (backTo pos (starEach es X.env)).any (·.1) = false := by rfl) : QE X (.Call (.Name x p) (e :: es) [] pos) (tCB r t) := ⟨pe_callB (hc) (hg) (hm) (hv) ha.h (hn) (hdb) (he) (hpl)⟩
theorem qe_callTy (hc : CallR X (.type T) r) (hg : Gl X x) (hm : X.mg x = none) (hv : bootBuiltins x = some (.type T)) (ha : QA X (e :: es) t) (hn : x ≠ "__name__" := by decide) (hdb : (x == ("__debug__" : Str)) = false := by decide) (he : starEach (e :: es) X.env = (false, eval e X.env) :: starEach es X.env := by rfl) (hpl : (backTo pos (starEach es X.env)).any (·.1) = false := by rfl) : QE X (.Call (.Name x p) (e :: es) [] pos) (tCB r t) := ⟨pe_callTy (hc) (hg) (hm) (hv) ha.h (hn) (hdb) (he) (hpl)⟩
theorem qo_none  : QO X none tNoPart := ⟨po_none ⟩
theorem qo_some (h : QE X e te) : QO X (some e) (tPart te) := ⟨po_some h.h⟩
theorem qe_slice {r : V → Option Int → Option Int → Hp → VK → Prop} (hr : SlR X r) (he : QE X e te) (hl : QO X loq tl) (hu : QO X hiq th) : QE X (.Subscript e (.Slice loq hiq none p2) pos) (tSl r te tl th) := ⟨pe_slice (hr) he.h hl.h hu.h⟩
theorem qe_ix {r : R2} (hr : IxR X r) (ha : QE X a ta) (hb : QE X b tb) (hs : PlainIx b) : QE X (.Subscript a b pos) (tOp r ta tb) := ⟨pe_ix (hr) ha.h hb.h (hs)⟩
theorem qe_bm (pa : PlainAttrs T) (slot : Slot T nameq idq) (hty : typeOf (.builtin idq) = pure (.type "method_descriptor")) (hm : MtR X idq r) (ho : QE X o to) (ha : QA X (e :: es) t) (hbase : attributeBase o nameq X.env (eval o X.env) = eval o X.env := by rfl) (hfew : ((backTo cpos (starEach (e :: es) X.env)).all (fun x => !x.1) && (backToKw cpos (keywordEach [] X.env)).all (fun x => x.1.isSome)
      && decide ((e :: es).length + ([] : List Keyword).length + (if ([] : List Keyword).isEmpty then 0 else 1) < 30)) = true := by rfl) (hline : (apos.endLine == cpos.line) = true := by rfl) (hs : starEach (e :: es) X.env = (false, eval e X.env) :: starEach es X.env := by rfl) (hplain : (backTo cpos (starEach es X.env)).any (·.1) = false := by rfl) : QE X (.Call (.Attribute o nameq apos) (e :: es) [] cpos) (tBM X.K T r to t) := ⟨pe_bm (pa) (slot) (hty) (hm) ho.h ha.h (hbase) (hfew) (hline) (hs) (hplain)⟩
theorem qv (i : Nat) {x : Str} {pos : Pos} (hN : X.N[i]? = some x := by rfl) (hv : Vis X.env.scope x := by first | exact Or.inl rfl | exact Or.inr (Or.inl rfl) | exact Or.inr (Or.inr rfl)) (hd : (x == ("__debug__" : Str)) = false := by decide) (hcd : (x == ("__classdict__" : Str)) = false := by decide) : QE X (.Name x pos) (tVar i) := ⟨pv (i) (hN) (hv) (hd) (hcd)⟩
theorem qif_nil {X : Cx} : QIf X [] tYes := ⟨pif_nil ⟩
theorem qif_one {X : Cx} {c : Expr} {t : TT} (h : QT X c t) : QIf X [c] t := ⟨pif_one h.h⟩
theorem qe_callP {X : Cx} {CX : CXT} {k : Nat} {x : Str} {ps : List Str} {sp : Sp} {E : XK} {p pos : Pos} {e : Expr} {es : List Expr} {t : TA} (h : Pm X.prog X.w X.K X.mg X.base CX k x ps sp) (hr : Room k X.A) (hg : Gl X x) (hx : Passes CX X E) (ha : QA X (e :: es) t) (hdb : (x == ("__debug__" : Str)) = false := by decide) (he : starEach (e :: es) X.env = (false, eval e X.env) :: starEach es X.env := by rfl) (hpl : (backTo pos (starEach es X.env)).any (·.1) = false := by rfl) : QE X (.Call (.Name x p) (e :: es) [] pos) (tCall sp [] E t) := ⟨pe_callP (h) (hr) (hg) (hx) ha.h (hdb) (he) (hpl)⟩
/-- an argument, by a test that is small -/
def notStar : Expr → Bool
  | .Starred .. => false
  | _ => true
theorem starEach_cons {e : Expr} {es : List Expr} {env : Env} (h : notStar e = true) : starEach (e :: es) env = (false, eval e env) :: starEach es env := by
  cases e <;> first | rfl | cases h
theorem qac {X : Cx} {e : Expr} {es : List Expr} {te : TE} {t : TA} (ha : QE X e te) (hr : QA X es t) (hs : notStar e = true := by rfl) : QA X (e :: es) (tCons te t) := ⟨pa_cons ha.h hr.h (starEach_cons hs)⟩
theorem qe_comp {X : Cx} {elt tg iter : Expr} {ifs : List Expr} {scope : Scope} {pos : Pos} {N : List Str} {src : List (Option Nat)} {wi : TI} {g : TG} {tc : TT} {te : TE} (hc : X.calm = true) (S : CompScope X scope N src) (hi : QI X tg iter wi)
    (hg : ∀ s H cl C fp, QG (cxC X s H scope cl C N fp) tg g) (hf : ∀ s H cl C fp, QIf (cxC X s H scope cl C N fp) ifs tc) (he : ∀ s H cl C fp, QE (cxC X s H scope cl C N fp) elt te)
    (hs : ∀ x, foldedSetIterable iter X.env x = pure x := by intro _; rfl) : QE X (.ListComp elt [⟨tg, iter, ifs, 0⟩] scope pos) (tComp src wi g tc te) :=
  ⟨pe_comp hc S hi.h (fun s H cl C fp => (hg s H cl C fp).h) (fun s H cl C fp => (hf s H cl C fp).h) (fun s H cl C fp => (he s H cl C fp).h) hs⟩
theorem qs_setComp {X : Cx} {elt tg iter : Expr} {ifs : List Expr} {scope : Scope} {pos spos pos' : Pos} {x : Str} {i : Nat} {N : List Str} {src : List (Option Nat)} {wi : TI} {g : TG} {tc : TT} {te : TE} (hc : X.calm = true) (S : CompScope X scope N src) (hi : QI X tg iter wi)
    (hg : ∀ s H cl C fp, QG (cxC X s H scope cl C N fp) tg g) (hf : ∀ s H cl C fp, QIf (cxC X s H scope cl C N fp) ifs tc) (he : ∀ s H cl C fp, QE (cxC X s H scope cl C N fp) elt te) (ht : QG X (.Name x pos') (gName i))
    (hsw : swapsWith (.ListComp elt [⟨tg, iter, ifs, 0⟩] scope pos) (some (.Name x pos')) spos.line X.env = pure true := by rfl)
    (hs : ∀ x, foldedSetIterable iter X.env x = pure x := by intro _; rfl) : QS X (.Assign [.Name x pos'] (.ListComp elt [⟨tg, iter, ifs, 0⟩] scope pos) spos) (tAsg (tComp src wi g tc te) (gName i)) :=
  ⟨ps_setComp hc S hi.h (fun s H cl C fp => (hg s H cl C fp).h) (fun s H cl C fp => (hf s H cl C fp).h) (fun s H cl C fp => (he s H cl C fp).h) ht.h hsw hs⟩
/-! ### defs -/
section
variable {P : Program} {w : World} {K : PySem.W.Frag} {mg : Str → Option Value} {base : Heap} {x qual : Str} {st : Stmt} {f : Addr} {fd : FuncData} {N ps : List Str} {k : Nat} {sp : Sp}
theorem Fun.okQ (F : Fun K x qual st f fd) (S : FnScope N ps (defScope st)) (len : ∀ vs H Q E, sp vs H Q E → vs.length = ps.length)
    (hbody : ∀ (cdv : Value) (A : Around) (outer : List Env) (s : Shared) (H : Hp) (vs : List V) (Q : VK) (E : XK), Room k (A.deeper (envOfC qual (defScope st) s.heap.objs.size f cdv)) → sp vs H Q E →
      ∃ t, QSs (cxOf CX0 P w K mg base N qual (defScope st) f cdv A outer s H E).nox (defBody st) t ∧ t { nx := fun _ H' => Q .non H', rt := Q } (start N vs) H) : FnOk P w K mg base CX0 (k + 1) f fd ps sp :=
  F.ok S len fun cdv A outer s H vs Q E hr h => let ⟨t, a, b⟩ := hbody cdv A outer s H vs Q E hr h; ⟨t, a.h, b⟩
end

end L2
/-! EvRange: range with a step. Behind EvQ. -/
namespace L2
open PySem PySem.Spec PyProof.Rows
/-- lo, lo + c, .. (n of them) -/
def Its (lo c : Int) (n : Nat) : It := ⟨fun i _ => i < n, fun i H x H' => H' = H ∧ x = .int (lo + (i : Nat) * c), fun i _ => n ≤ i⟩
theorem turn_rangeS {P : Program} {w : World} {K : PySem.W.Frag} {tg : Expr} (it : Addr) (lo c : Int) (n : Nat) : Turn P w K tg (Its lo c n) [it] it (fun i h => IsRangeIter h it (lo + (i : Nat) * c) ((n : Int) - (i : Nat)) c) where
  mem := by simp
  obj := fun i h st b hb => by
    have e : b = it := by simpa using hb
    subst e
    exact ⟨_, st, fun v z => by
      have z' : Data.fields _ = Data.cell v := z
      cases z'⟩
  keep := fun i h h' st k => k it (by simp) _ st
  item := by
    intro X hP hw hK hc i pins s σ H E I hf st hg
    subst hP hw hK
    obtain ⟨f0, f1, f2, f3, f4, f5⟩ := hf it (by simp)
    have W := Walks.range (prog := X.prog) (w := X.w) (I.ok.hd hc) it lo c n
    refine W.item i s _ _ hg st fun v h' tk hv st' kk => ?_
    obtain ⟨t, rfl⟩ := hv
    have I1 : Inv X pins σ H { s with heap := h', toks := tk } := I.turned (fun b o hb e => kk b o (by simpa using hb) e) f0 f1 f3 f4 f5
    exact ⟨_, rfl, go_of (s := { s with heap := h', toks := tk }) (n := "range_iterator") st' rfl rfl (by decide) ⟨.int (lo + (i : Nat) * c), H, I1, ⟨t, rfl⟩, ⟨rfl, rfl⟩, st', fun b hb => (hf b hb).1⟩⟩
  done := by
    intro X hP hw hK hc i pins s σ H E I hf st hg
    subst hP hw hK
    obtain ⟨f0, f1, f2, f3, f4, f5⟩ := hf it (by simp)
    exact wpAny_pyNext_range_end (I.ok.hd hc) st (by have : n ≤ i := hg; omega) fun h' eb => ⟨rfl, I.turned (t' := s.toks) (fun b o hb e => eb b o hb e) f0 f1 f3 f4 f5⟩
  self := fun _ _ _ _ _ st h => wpAny_pyIter_rangeiter st h
section
variable {X : Cx} {tg : Expr}
theorem range_itS {pins : List (Addr × Obj)} {σ : St} {H : Hp} {s : Shared} {R : It → Hp → Prop} {E : Value → Shared → Prop} {lo hi c : Int} {n : Nat} {t u v : Tok} {tk : Nat} (I : Inv X pins σ H s) (hsm : Builtin.Range.small lo hi c = true) (hn : Builtin.Range.rangeSize lo hi c = (n : Int))
    (q : R (Its lo c n) H) : wpAny (model X.prog X.w) X.A (pyIter (.ref s.heap.objs.size)) (PIE X pins σ tg R) E { s with heap := s.heap.push { cls := .type "range", data := .fields #[.int lo t, .int hi u, .int c v] }, toks := tk } := by
  refine wpAny_pyIter_range (IsRange.new ..) hsm ?_
  have I1 : Inv X pins σ H { s with heap := s.heap.push { cls := .type "range", data := .fields #[.int lo t, .int hi u, .int c v] }, toks := tk } := I.kept fun b o e => Heap.get?_push_of_some _ e
  refine ⟨(s.heap.push { cls := .type "range", data := .fields #[.int lo t, .int hi u, .int c v] }).objs.size, [(s.heap.push { cls := .type "range", data := .fields #[.int lo t, .int hi u, .int c v] }).objs.size], _, _, H, rfl,
    I1.kept (t' := tk) fun b o e => Heap.get?_push_of_some _ e, turn_rangeS _ lo c n, ?_, fun b hb => ?_, q⟩
  · have e1 : lo + ((0 : Nat) : Int) * c = lo := by simp
    have e2 : ((n : Nat) : Int) - ((0 : Nat) : Int) = Builtin.Range.rangeSize lo hi c := by rw [hn]; simp
    show IsRangeIter _ _ (lo + ((0 : Nat) : Int) * c) (((n : Nat) : Int) - ((0 : Nat) : Int)) c
    rw [e1, e2]
    exact Heap.get?_push_size _ rfl
  · have e : b = (s.heap.push { cls := .type "range", data := .fields #[.int lo t, .int hi u, .int c v] }).objs.size := by simpa using hb
    subst e
    exact I1.fpOk (Nat.le_refl _) (I1.hok.fresh (Nat.le_refl _))
def iRng3 (ta : TA) : TI := fun σ H R => ta σ H fun vs H1 => ∃ (i j k : Int) (n : Nat), vs = [.int i, .int j, .int k] ∧ k ≠ 0 ∧ k.natAbs < 1073741824 ∧ Builtin.Range.small i j k = true ∧ Builtin.Range.rangeSize i j k = (n : Int) ∧ R (Its i k n) H1
theorem pi_range3 {a b c : Expr} {ta : TA} {p pos : Pos} (hg : Gl X "range") (hm : X.mg "range" = none) (ha : PA X [a, b, c] ta) (hs : starEach [a, b, c] X.env = [(false, eval a X.env), (false, eval b X.env), (false, eval c X.env)] := by rfl) (hs2 : starEach [b, c] X.env = [(false, eval b X.env), (false, eval c X.env)] := by rfl) :
    PI X tg (.Call (.Name "range" p) [a, b, c] [] pos) (iRng3 ta) := by
  intro pins s σ H R I h
  refine Call_ (ld_blt I hg hm boot_range (PyProof.Rows.callWith_type1 (thn (ha pos pins s σ H _ I h) fun us s1 ⟨vs, H1, I1, r1, q1⟩ => ?_) (by rw [hs, hs2]) (by rw [hs2]; rfl)))
  obtain ⟨i, j, k, n, e, k0, kb, q1, q2, q⟩ := q1
  subst e
  cases r1 with
  | cons r rr =>
    cases rr with
    | cons r' rr =>
      cases rr with
      | cons r'' rr =>
        cases rr
        obtain ⟨t, rfl⟩ := r
        obtain ⟨t', rfl⟩ := r'
        obtain ⟨t'', rfl⟩ := r''
        exact call_range_3 k0 (range_itS I1 q1 q2 q) (.inl (PyProof.noPylong_small kb))
theorem qi_range3 {a b c : Expr} {ta : TA} {p pos : Pos} (hg : Gl X "range") (hm : X.mg "range" = none) (ha : QA X [a, b, c] ta) (hs : starEach [a, b, c] X.env = [(false, eval a X.env), (false, eval b X.env), (false, eval c X.env)] := by rfl) (hs2 : starEach [b, c] X.env = [(false, eval b X.env), (false, eval c X.env)] := by rfl) :
    QI X tg (.Call (.Name "range" p) [a, b, c] [] pos) (iRng3 ta) := ⟨pi_range3 hg hm ha.h hs hs2⟩
end
theorem comp_rng {lo : Int} {n : Nat} {g : TG} {tc : TT} {te : TE} {σ' : St} {H : Hp} {G : Addr → Hp → List V → Prop} (Pv : Nat → List V → Hp → Prop) (h0 : Pv 0 [] H)
    (hs : ∀ i ys H (N : List V → Hp → Prop), i < n → Pv i ys H → (∀ ys' H', Pv (i + 1) ys' H' → N ys' H') → g (.int (lo + i)) σ' H fun σ2 H4 => Weak σ' σ2 ∧ tc σ2 H4 fun b H5 => if b = true then te σ2 H5 fun y H6 => ys.length < sizeLine ∧ N (ys ++ [y]) H6 else N ys H5)
    (hd : ∀ ys H, Pv n ys H → ys.length ≤ sizeLine ∧ ∀ p, H p = none → G p H ys) :
    ∃ W : Nat → Nat → List V → Hp → Prop, (∃ m, W 0 m [] H) ∧ ∀ i m ys H2, W i m ys H2 →
      ((Itr lo n).stop i H2 ∧ ys.length ≤ sizeLine ∧ ∀ p, H2 p = none → G p H2 ys) ∨
      ((Itr lo n).go i H2 ∧ ∀ x H3, (Itr lo n).yld i H2 x H3 → g x σ' H3 fun σ2 H4 => Weak σ' σ2 ∧ tc σ2 H4 fun b H5 =>
        if b = true then te σ2 H5 fun y H6 => ys.length < sizeLine ∧ ∃ m', m' < m ∧ W (i + 1) m' (ys ++ [y]) H6 else ∃ m', m' < m ∧ W (i + 1) m' ys H5) := by
  refine ⟨fun i m ys H => m = n - i ∧ i ≤ n ∧ Pv i ys H, ⟨n, rfl, Nat.zero_le _, h0⟩, ?_⟩
  rintro i m ys H2 ⟨rfl, hi, p⟩
  by_cases hlt : i < n
  · refine .inr ⟨hlt, fun x H' y => ?_⟩
    obtain ⟨e, rfl⟩ := y
    subst e
    exact hs i ys _ (fun ys' H'' => ∃ m', m' < n - i ∧ m' = n - (i + 1) ∧ i + 1 ≤ n ∧ Pv (i + 1) ys' H'') hlt p (fun ys' H'' p' => ⟨_, by omega, rfl, hlt, p'⟩)
  · have e : i = n := by omega
    subst e
    exact .inl ⟨Nat.le_refl _, hd ys H2 p⟩
end L2
/-! EvMath: the mathematics of primes, by naturals; core alone. -/
namespace EM
/-! ### lists of primes with how often -/
/-! ### plain parts -/
/-! ### roots -/
end EM
/-! EvEuler: Fermat and Euler for a prime, by naturals and ints; core alone. Behind EvMath. -/
namespace EM
/-! ### lists without repeats -/
/-! ### roots of a sum of powers, the highest one once -/
/-! ### Euler -/
/-! ### rests of squares -/
/-! ### powers by squaring -/
/-! ### small primes by looking -/
/-! ### plain parts are told in one way -/
/-! ### what shuts a form -/
/-! ### the plain part by looking -/
/-! ### odd primes by looking -/
end EM
/-! EvBase: what every row of stage 1 shares; no row is named here. Behind EvTry, EvMath. -/
namespace E1
open PySem L2
/-! ### whole numbers by their kinds -/
section
variable (K : PySem.W.Frag)
theorem kit_int_int : PySem.W.kitOne K (.type "int") (.type "int") = some true := by kernel_rfl
theorem kit_int_bool : PySem.W.kitOne K (.type "int") (.type "bool") = some false := by kernel_rfl
end
theorem rel_ty {n : String} {K : PySem.W.Frag} {t : Value} {b : Bool} (h : PySem.W.kitOne K t (.type n) = some b) : ∀ u, RelV (.ty n) u → PySem.W.kitOne K t u = some b := fun u r => by
  cases (show u = Value.type n from r)
  exact h
/-! ### the promises -/
theorem same_new {q : Addr} {H : Hp} {o : HO} (n : H q = none) : Same H (upd H q o) := fun b u h => by rw [upd_ne (ne_of_none h n)]; exact h
theorem abs_nn (i : Int) : 0 ≤ (if i < 0 then -i else i) := by split <;> omega
theorem cut_ints {ns : List Int} {lo hi : Option Int} : ∀ x ∈ cutV (ns.map V.int) lo hi, ∃ z, x = V.int z := fun x hx => by
  unfold cutV at hx
  obtain ⟨z, _, e⟩ := List.mem_map.mp (List.mem_of_mem_drop (List.mem_of_mem_take hx))
  exact ⟨z, e.symm⟩
/-! ### primes as tuples in a list -/
theorem same_upd {H H' : Hp} {l : Addr} {o : HO} (s : Same H H') (hl : H l = none) : Same H (upd H' l o) := fun b u e => by
  rw [upd_ne (ne_of_none e hl)]
  exact s _ _ e
/-! ### primes as data -/
/-! ### forms -/
theorem kit_tup_tup (K : PySem.W.Frag) : PySem.W.kitOne K (.type "tuple") (.type "tuple") = some true := by kernel_rfl

/-! ### a law's loop over its cells -/
theorem fn_mk {K : PySem.W.Frag} {x : Str} {st : Stmt} {f : Addr} {oc : Value} {od an : Option Addr} {osl : Array (Option Value)} {kV doc pm cdv ct : Value}
    (a : PySem.W.nsIn K mainGlobals x = some (some (.ref f)))
    (l : K.lookup f = some ⟨oc, od, .func (PySem.W.fnOf x x (defArgs st) (defBody st) (defScope st) .none kV doc pm an cdv ct), osl⟩)
    (c : PySem.W.codeIn K cdv x = true) (k : PySem.W.keepIn K (.ref f) = true) :
    ∃ (f : Addr) (fd : FuncData), PySem.W.nsIn K mainGlobals x = some (some (.ref f)) ∧ Fun K x x st f fd := ⟨f, _, a, fun_mk l c k⟩
def spLaw (K : PySem.W.Frag) : Sp := fun vs H Q _ => ∃ (a : Addr) (ns : List Int), vs = [.ref a] ∧ SqL K H a (ns.map V.int) ∧ ns.length ≤ 63 ∧ ∀ H', Q (.bl true) H'
theorem walk {l : PySem.W.OpenLaw} {q : Program} {loose : List Str} {XP : (Str → Option Value) → Heap → Prop} {YP : World → Heap → Prop} {d : DefRec} {K : Params → PySem.W.Frag} {k : Nat} (hr : Room k PySem.callerA) (hn : l.most = some 63) (hdf : d.params.defaults = [])
    (hY : ∀ (w : World) (h : Heap), YP w h → (K w.params).In h)
    (F : ∀ (w : World) (mg : Str → Option Value) (fa : Addr) (h : Heap), (K w.params).In h → h.Ns mainGlobals mg → mg d.name = some (.ref fa) →
      ∃ fd : FuncData, (∀ (s : Shared) (u : Value), BindsTo s fd ⟨[u], []⟩ [("_law_script", u)]) ∧ ∀ base : Heap, (K w.params).In base → base.Ns mainGlobals mg → FnOk l.prog w (K w.params) mg base CX0 k fa fd ["_law_script"] (spLaw (K w.params))) :
    PySem.W.WalkO q loose XP YP l.row.toRowW d [] (fun f vs => PySem.call f vs) :=
  L2.walk_of (n := 63) (k := k) (x := "_law_script") (CX := fun _ => CX0) (sp := fun w => spLaw (K w.params)) hn (by decide) hdf hr hY F (fun _ _ a ns hl _ hS => ⟨a, ns, rfl, hS, hl, fun _ => rfl⟩) fun _ _ _ _ _ z => z
abbrev At (K : PySem.W.Frag) (x : Str) (st : Stmt) : Prop := ∃ (f : Addr) (fd : FuncData), PySem.W.nsIn K mainGlobals x = some (some (.ref f)) ∧ Fun K x x st f fd

end E1
/-! EvLay: rules for sorted numbers, sets of numbers, lists taken so often, turned about, made of a range. Behind EvRange. -/
namespace L2
open PySem PySem.Spec PyProof.Rows
theorem ints_of_vals {ns : List Int} {us : List Value} (r : Vals (ns.map V.int) us) : IntsAre us ns := intsAre_of r
theorem vals_of_ints : ∀ {ns : List Int} {us : List Value}, IntsAre us ns → Vals (ns.map V.int) us
  | _, _, .nil => .nil
  | _, _, .cons n tk t => .cons ⟨tk, rfl⟩ (vals_of_ints t)
/-- sorted(list of numbers) -/
def rSortI (K : PySem.W.Frag) : List V → Hp → VK → Prop := fun xs H Q => ∃ (a : Addr) (ns : List Int), xs = [.ref a] ∧ SqL K H a (ns.map V.int) ∧ ns.length < 64 ∧ ∀ (l : Addr) (ns' : List Int), H l = none → ns'.Perm ns → ns'.Pairwise (· ≤ ·) → Q (.ref l) (upd H l (.lst (ns'.map V.int)))
theorem call_sortI {X : Cx} : CallR X (.builtin "sorted") (rSortI X.K) := by
  intro pins s σ H xs us Q I r h
  obtain ⟨a, ns, rfl, hq, h64, q⟩ := h
  obtain ⟨u, rfl, rx⟩ := vals1 r
  cases rx
  obtain ⟨its, r', pl, hz⟩ := I.list hq
  have hlen := r'.length
  rw [List.length_map] at hlen
  refine sorted_ints pl.isList (ints_of_vals r') (by omega) fun out ns' a1 a2 a3 => ?_
  obtain ⟨e, he⟩ := sortedAll_at s.heap its out
  have hl2 := a2.length_eq
  refine ⟨.ref (s.heap.objs.size + 1), _, I.laid (t' := s.toks) (o := .lst (ns'.map V.int)) (fun b o => sortedAll_old) (Nat.le_succ _) ?_, rfl, q _ _ (I.hok.fresh (Nat.le_succ _)) a2 a3⟩
  refine ⟨by rw [List.length_map, hl2]; exact Nat.le_trans (Nat.le_of_lt h64) (by decide), out.toList, e, vals_of_ints a1, ?_⟩
  rw [Array.toArray_toList]
  exact he
theorem call_len_setI {X : Cx} : CallR X (.builtin "len") (fun xs H Q => ∃ (p : Addr) (S : Int → Bool) (n : Nat), xs = [.ref p] ∧ H p = some (.set S n) ∧ Q (.int n) H) := by
  intro pins s σ H xs us Q I r h
  obtain ⟨p, S, n, rfl, hp, q⟩ := h
  obtain ⟨u, rfl, rx⟩ := vals1 r
  cases rx
  obtain ⟨o, es, ep, t, ho, hex, hd, _, _, hb, hf, rfl⟩ := (show s.heap.SetOf (intKind X.prog X.w) p S n from I.hok p _ hp)
  refine call_len_set ho hex hd hf ?_ ⟨.int es.size, H, I.tok _, ⟨_, rfl⟩, q⟩
  have : es.size < 4096 := hb
  omega
/-- list * number -/
def rMulL (K : PySem.W.Frag) : R2 := fun x y H Q => ∃ (a : Addr) (xs : List V) (n : Int), x = .ref a ∧ y = .int n ∧ SqL K H a xs ∧ n < 2 ^ 63 ∧ 0 ≤ n ∧ xs.length * n.toNat ≤ 65536 ∧ ∀ l, H l = none → Q (.ref l) (upd H l (.lst (List.replicate n.toNat xs).flatten))
theorem vals_flat {xs : List V} {us : List Value} (r : Vals xs us) : ∀ n, Vals (List.replicate n xs).flatten (List.replicate n us).flatten
  | 0 => .nil
  | n + 1 => by
    rw [List.replicate_succ, List.replicate_succ, List.flatten_cons, List.flatten_cons]
    exact r.append (vals_flat r n)
theorem op_mulL {X : Cx} : OpR X (binaryOp .Mult) (rMulL X.K) := by
  intro pins s σ H x y v u Q I rx ry h
  obtain ⟨a, xs, n, rfl, rfl, hx, hn, h0, hsz, q⟩ := h
  cases rx
  obtain ⟨tk, rfl⟩ := ry
  obtain ⟨its, r, pl, hz⟩ := I.list hx
  have hlen := r.length
  obtain ⟨⟨oc, od, odt, osl⟩, k, hl, e1, e2, e3⟩ := pl
  dsimp only at e1 e2 e3
  subst e1 e2 e3
  refine wpAny_binaryOp_repeat_ref (T := "list") (U := "int") (by decide) ⟨_, hl, rfl⟩ (fun s' => typeIs_int s' n tk) noFill_list_mul F.fills_int_mul F.slot_int_rmul repeat_list F.slot_int_index.lookup
    (call_meets F.slot_int_rmul (typeIs_int s n tk) F.entry_int_rmul (F.args_int_rmul_2 _ _) (lm_int_rmul_list_any n tk a its.toArray k _ _)
      ⟨hl, rfl, ⟨_, hl, rfl⟩, call_meets F.slot_list_mul ⟨_, hl, rfl⟩ F.entry_list_mul (F.args_list_mul_2 _ _)
        (lm_list_mul_any a its.toArray k _ _ n tk (by simp [Builtin.List.listFitsIndex]; omega) (by rw [List.size_toArray, ← hlen]; omega) (by rw [List.size_toArray, ← hlen]; simp [Builtin.List.listTooLong, sizeLine]; omega))
        ⟨hl, ?_⟩⟩)
  rw [listMul_foldl_if, List.toList_toArray]
  refine ⟨.ref s.heap.objs.size, _, I.laid (t' := s.toks) (o := .lst (List.replicate n.toNat xs).flatten) (fun b ob q => Heap.get?_push_of_some _ q) (Nat.le_refl _) ?_, rfl, q _ (I.hok.fresh (Nat.le_refl _))⟩
  refine ⟨?_, (List.replicate n.toNat its).flatten, 0, vals_flat r _, Heap.get?_push_size _ rfl⟩
  rw [List.length_flatten, List.map_replicate, List.sum_replicate_nat, Nat.mul_comm]
  exact Nat.le_trans hsz (by decide)
/-! ### enumerate(list) -/
theorem Inv.turnedL {X : Cx} {pins : List (Addr × Obj)} {σ : St} {H : Hp} {s : Shared} {h' : Heap} {t' : Nat} {wr : List Addr} (I : Inv X pins σ H s) (k : ∀ b o, b ∉ wr → s.heap.get? b = some o → h'.get? b = some o) (hf : ∀ b ∈ wr, FpOk X pins H b) : Inv X pins σ H { s with heap := h', toks := t' } := by
  have nit : ∀ b u, H b = some u → b ∉ wr := fun b u e z => by rw [(hf b z).1] at e; cases e
  refine I.step (g' := s.gens) (d' := s.drawn) (ch := wr) (fun b hb => ?_) (fun b o _ _ hc e _ => k b o hc e) (fun b o _ _ hc e _ => ⟨o.slots, k b o hc e⟩) (fun _ _ _ _ n => n) (fun b o hc e => ⟨o, k b o hc e⟩) (fun _ _ e => e) (fun _ _ _ e => e) (fun b ps e => ⟨#[], by rw [e]; simp⟩) (fun m hm => ?_) (fun b u e => ?_) I.bare
  · obtain ⟨_, f1, _, f3, f4, f5⟩ := hf b hb
    exact ⟨f3, f1, f4, f5⟩
  · obtain ⟨o, es, ep, ho, r⟩ := hm
    exact ⟨o, es, ep, k _ o (fun z => (hf _ z).2.1 rfl) ho, r⟩
  · refine (I.hok b u e).stay (fun c v hc q => k c v ?_ q) (fun _ q => q) fun _ _ q => q
    rcases hc with z | z
    · exact z ▸ nit b u e
    · exact nit c _ z
theorem Inv.tracked {X : Cx} {pins : List (Addr × Obj)} {σ : St} {H : Hp} {s s' : Shared} {T : Addr} {o : HO} (I0 : Inv X pins σ H s) (I : Inv X pins σ H s') (hT : s.heap.objs.size ≤ T) (new : ObjOk X.prog X.w (upd H T o) s'.heap T o) : Inv X pins σ (upd H T o) s' := by
  obtain ⟨f0, f1, f2, f3, f4, f5⟩ := I0.fpOk (H' := H) hT (I0.hok.fresh hT)
  refine I.track f0 ?_ f1 f4 f5 new
  cases e : X.s₀.heap.get? T with
  | none => rfl
  | some ob => exact absurd (Nat.lt_of_lt_of_le (Heap.lt_size e) (Nat.le_trans I0.sz hT)) (Nat.lt_irrefl _)
section
variable {X : Cx} {elts : List Expr} {k : Nat} {tp : Pos}
end
/-- range(n) as a thing -/
theorem call_rng1 {X : Cx} : CallR X (.type "range") (fun xs H Q => ∃ n : Int, xs = [.int n] ∧ ∀ r, H r = none → Q (.ref r) (upd H r (.rng 0 n))) := by
  intro pins s σ H xs us Q I r h
  obtain ⟨n, rfl, q⟩ := h
  obtain ⟨u, rfl, rx⟩ := vals1 r
  obtain ⟨t, rfl⟩ := rx
  exact call_range_1 ⟨.ref s.heap.objs.size, _, I.laid (t' := s.toks + 1 + 1) (o := .rng 0 n) (fun b o e => Heap.get?_push_of_some _ e) (Nat.le_refl _) ⟨_, _, _, Heap.get?_push_size _ rfl⟩, rfl, q _ (I.hok.fresh (Nat.le_refl _))⟩
theorem items_nats {acc : Array Value} {n : Nat} (h : ItemsOf (fun i v => ∃ t, v = .int (0 + (i : Nat) * 1) t) acc n) : Vals ((List.range n).map fun p => V.int ((p : Nat) : Int)) acc.toList := by
  obtain ⟨hs, hv⟩ := h
  have key : ∀ (k : Nat) (l : List Value), (∀ (j : Nat) (v : Value), l[j]? = some v → ∃ t, v = Value.int ((k : Int) + (j : Int)) t) → Vals ((List.range' k l.length).map fun p => V.int ((p : Nat) : Int)) l := by
    intro k l
    induction l generalizing k with
    | nil => intro _; exact .nil
    | cons x l ih =>
      intro h
      rw [List.length_cons, List.range'_succ, List.map_cons]
      refine .cons ?_ (ih (k + 1) fun j v e => ?_)
      · obtain ⟨t, e⟩ := h 0 x rfl
        exact ⟨t, by rw [e]; simp⟩
      · obtain ⟨t, e'⟩ := h (j + 1) v e
        exact ⟨t, by rw [e']; congr 1; omega⟩
  have := key 0 acc.toList fun j v e => by
    obtain ⟨t, e'⟩ := hv j v (by simpa using e)
    exact ⟨t, by rw [e']; congr 1; omega⟩
  rw [Array.length_toList, hs] at this
  rw [List.range_eq_range']
  exact this
/-- list(range(n)) -/
theorem call_list_rng {X : Cx} (hc : X.calm = true) : CallR X (.type "list") (fun xs H Q => ∃ (r : Addr) (n : Nat), xs = [.ref r] ∧ H r = some (.rng 0 (n : Nat)) ∧ n ≤ 100000 ∧ ∀ l, H l = none → Q (.ref l) (upd H l (.lst ((List.range n).map fun p => V.int ((p : Nat) : Int))))) := by
  intro pins s σ H xs us Q I r h
  obtain ⟨a, n, rfl, ha, hn, q⟩ := h
  obtain ⟨u, rfl, rx⟩ := vals1 r
  cases rx
  obtain ⟨t, u, v, ho⟩ := (show ∃ t u v, s.heap.get? a = some { cls := .type "range", data := .fields #[.int 0 t, .int (n : Nat) u, .int 1 v] } from I.hok a _ ha)
  refine call_list_range (n := n) (I.ok.hd hc) ho (small_one (by decide) (by decide) (by omega) (by omega)) (by rw [rangeSize_one]; split <;> omega) (Nat.le_trans hn (by decide)) fun h' tk acc c kp hg hit => ?_
  refine ⟨.ref s.heap.objs.size, _, I.laid (t' := tk) kp (Nat.le_refl _) (show ObjOk X.prog X.w _ h' _ (.lst _) from ⟨by rw [List.length_map, List.length_range]; exact Nat.le_trans hn (by decide), acc.toList, c, items_nats hit, by rw [Array.toArray_toList]; exact hg⟩), rfl, q _ (I.hok.fresh (Nat.le_refl _))⟩
theorem iteV {c : Bool} {t1 t2 : TS} {D : Ends} {σ : St} {H : Hp} (J : St → Hp → Prop) (hJ : ∀ σ' H', J σ' H' → D.nx σ' H') (h1 : c = true → (∀ σ' H', J σ' H' → D.nx σ' H') → t1 D σ H) (h2 : ¬ c = true → (∀ σ' H', J σ' H' → D.nx σ' H') → t2 D σ H) : if c = true then t1 D σ H else t2 D σ H := by
  by_cases h : c = true
  · rw [if_pos h]; exact h1 h hJ
  · rw [if_neg h]; exact h2 h hJ
/-- names of builtins that the text does not give -/
structure TxtB (mg : Str → Option Value) : Prop where
  isi : mg "isinstance" = none
  int : mg "int" = none
  bool : mg "bool" = none
  abs : mg "abs" = none
  len : mg "len" = none
  range : mg "range" = none
  tup : mg "tuple" = none
  lst : mg "list" = none
  sor : mg "sorted" = none
  all : mg "all" = none
  set : mg "set" = none
  zip : mg "zip" = none
  enu : mg "enumerate" = none
  any : mg "any" = none
  max : mg "max" = none
  min : mg "min" = none
  str : mg "str" = none
  sum : mg "sum" = none
/-- a block: a list of numbers -/
def nats (L : List Nat) : List V := L.map fun p => V.int ((p : Nat) : Int)
theorem nats_ints (L : List Nat) : nats L = (L.map fun p => ((p : Nat) : Int)).map V.int := by simp [nats]
theorem nats_snoc (L : List Nat) (j : Nat) : nats (L ++ [j]) = nats L ++ [V.int (j : Int)] := by unfold nats; rw [List.map_append]; rfl
theorem nats_len (L : List Nat) : (nats L).length = L.length := by unfold nats; rw [List.length_map]
/-- lists of blocks -/
def BlAt (H : Hp) : List V → List (List Nat) → Prop
  | [], [] => True
  | v :: vs, b :: bs => (∃ a, v = .ref a ∧ H a = some (.lst (nats b))) ∧ BlAt H vs bs
  | _, _ => False
/-- tuples of blocks, rising -/
def TpAt (H : Hp) : List V → List (List Nat) → Prop
  | [], [] => True
  | v :: vs, b :: bs => (∃ a, v = .ref a ∧ H a = some (.tup (nats b))) ∧ TpAt H vs bs
  | _, _ => False
theorem TpAt.len {H : Hp} : ∀ {vs : List V} {bs : List (List Nat)}, TpAt H vs bs → vs.length = bs.length
  | [], [], _ => rfl
  | _ :: _, _ :: _, h => by rw [List.length_cons, List.length_cons, TpAt.len h.2]
theorem TpAt.same {H H' : Hp} (s : ∀ a xs, H a = some (.tup xs) → H' a = some (.tup xs)) : ∀ {vs : List V} {bs : List (List Nat)}, TpAt H vs bs → TpAt H' vs bs
  | [], [], _ => trivial
  | v :: vs, b :: bs, ⟨⟨a, e, q⟩, r⟩ => ⟨⟨a, e, s _ _ q⟩, r.same s⟩
theorem TpAt.snoc {H : Hp} {a : Addr} {b : List Nat} (e : H a = some (.tup (nats b))) : ∀ {vs : List V} {bs : List (List Nat)}, TpAt H vs bs → TpAt H (vs ++ [.ref a]) (bs ++ [b])
  | [], [], _ => ⟨⟨a, rfl, e⟩, trivial⟩
  | _ :: _, _ :: _, h => ⟨h.1, h.2.snoc e⟩
theorem TpAt.get {H : Hp} : ∀ {vs : List V} {bs : List (List Nat)} {i : Nat} {v : V}, TpAt H vs bs → vs[i]? = some v → ∃ a b, v = .ref a ∧ bs[i]? = some b ∧ H a = some (.tup (nats b))
  | v :: vs, b :: bs, 0, _, h, e => by
    cases e
    obtain ⟨a, e, q⟩ := h.1
    exact ⟨a, b, e, rfl, q⟩
  | _ :: vs, _ :: bs, i + 1, v, h, e => TpAt.get (i := i) h.2 e
/-- a block below p -/
structure Blk (p : Nat) (b : List Nat) : Prop where
  nd : b.Nodup
  lt : ∀ x ∈ b, x < p
theorem nodup_le : ∀ (n : Nat) (b : List Nat), b.Nodup → (∀ x ∈ b, x < n) → b.length ≤ n
  | 0, [], _, _ => Nat.le_refl _
  | 0, x :: b, _, h => absurd (h x (List.mem_cons_self ..)) (Nat.not_lt_zero _)
  | n + 1, b, hn, hl => by
    have h1 := nodup_le n (b.filter (fun x => decide (x ≠ n))) (hn.filter _) (fun x hx => by
      have := List.mem_filter.mp hx
      have h2 := hl x this.1
      have h3 : x ≠ n := of_decide_eq_true this.2
      omega)
    by_cases hm : n ∈ b
    · have e : b.length = (b.filter (fun x => decide (x ≠ n))).length + 1 := by
        clear h1 hl
        induction b with
        | nil => cases hm
        | cons y b ih =>
          rw [List.nodup_cons] at hn
          by_cases hy : y = n
          · subst hy
            rw [List.filter_cons_of_neg (by simp)]
            have : b.filter (fun x => decide (x ≠ y)) = b := List.filter_eq_self.mpr fun x hx => decide_eq_true fun z => hn.1 (z ▸ hx)
            rw [this]; rfl
          · rw [List.filter_cons_of_pos (by simpa using hy)]
            have hm' : n ∈ b := (List.mem_cons.mp hm).resolve_left (fun z => hy z.symm)
            simp only [List.length_cons]
            rw [ih hn.2 hm']
      omega
    · have : b.filter (fun x => decide (x ≠ n)) = b := List.filter_eq_self.mpr fun x hx => decide_eq_true fun z => hm (z ▸ hx)
      rw [this] at h1
      omega
theorem Blk.len {p : Nat} {b : List Nat} (h : Blk p b) : b.length ≤ p := nodup_le p b h.nd h.lt
theorem Blk.perm {p : Nat} {b c : List Nat} (h : Blk p b) (e : c.Perm b) : Blk p c := ⟨e.nodup_iff.mpr h.nd, fun x hx => h.lt x (e.mem_iff.mp hx)⟩
theorem Blk.snoc {i : Nat} {b : List Nat} (hb : Blk i b) : Blk (i + 1) (b ++ [i]) := by
  refine ⟨?_, fun x hx => ?_⟩
  · rw [List.nodup_append]
    exact ⟨hb.nd, by simp, fun x hx y hy e => by
      have := hb.lt x hx
      rw [List.mem_singleton.mp hy] at e
      omega⟩
  · rcases List.mem_append.mp hx with z | z
    · exact Nat.lt_succ_of_lt (hb.lt x z)
    · rw [List.mem_singleton.mp z]
      exact Nat.lt_succ_self i
theorem Blk.up {i : Nat} {b : List Nat} (hb : Blk i b) : Blk (i + 1) b := ⟨hb.nd, fun x hx => Nat.lt_succ_of_lt (hb.lt x hx)⟩
/-! ### a list or a tuple, gone through -/
def iSeq (K : PySem.W.Frag) (tl : TE) : TI := fun σ H R => tl σ H fun x H1 => ∃ a, x = .ref a ∧ (((∃ xs, SqL K H1 a xs) ∧ R (Itl K a) H1) ∨ ((∃ xs, SqT K H1 a xs) ∧ R (Itt K a) H1))
theorem pi_seq {X : Cx} {tg l : Expr} {tl : TE} (hl : PE X l tl) : PI X tg l (iSeq X.K tl) := by
  intro pins s σ H R I h
  refine thn (hl pins s σ H _ I h) fun v s1 ⟨x, H1, I1, r1, q1⟩ => ?_
  obtain ⟨a, e, q⟩ := q1
  subst e
  cases r1
  have fp : ∀ b ∈ [s1.heap.objs.size], FpOk X pins H1 b := fun b hb => by
    have e : b = s1.heap.objs.size := by simpa using hb
    subst e
    exact I1.fpOk (Nat.le_refl _) (I1.hok.fresh (Nat.le_refl _))
  rcases q with ⟨⟨xs, hq⟩, q⟩ | ⟨⟨xs, hq⟩, q⟩
  · obtain ⟨its, rv, p, hz⟩ := I1.list hq
    exact wpAny_pyIter_list p.isList ⟨s1.heap.objs.size, [s1.heap.objs.size], _, _, H1, rfl, I1.kept (t' := s1.toks) fun b o e => Heap.get?_push_of_some _ e, turn_list a _, ⟨_, Heap.get?_push_size _ rfl, rfl, rfl⟩, fp, q⟩
  · obtain ⟨its, rv, p, hz⟩ := I1.tuple hq
    exact wpAny_pyIter_tuple (show s1.heap.IsTuple a its.toArray from p) ⟨s1.heap.objs.size, [s1.heap.objs.size], _, _, H1, rfl, I1.kept (t' := s1.toks) fun b o e => Heap.get?_push_of_some _ e, turn_tuple a _, ⟨_, Heap.get?_push_size _ rfl, rfl, rfl⟩, fp, q⟩
theorem qi_seq {X : Cx} {tg l : Expr} {tl : TE} (hl : QE X l tl) : QI X tg l (iSeq X.K tl) := ⟨pi_seq hl.h⟩
theorem Blk.erase {m : Nat} {b : List Nat} (h : Blk m b) (k : Nat) : Blk m (b.eraseIdx k) := ⟨h.nd.sublist (List.eraseIdx_sublist ..), fun x hx => h.lt x ((List.eraseIdx_sublist ..).subset hx)⟩
theorem map_erase {α β : Type} (f : α → β) : ∀ (b : List α) (k : Nat), (b.map f).eraseIdx k = (b.eraseIdx k).map f
  | [], _ => rfl
  | _ :: _, 0 => rfl
  | x :: b, k + 1 => congrArg (f x :: ·) (map_erase f b k)
theorem nats_erase (b : List Nat) (k : Nat) : (nats b).eraseIdx k = nats (b.eraseIdx k) := map_erase _ b k
/-! ### rules that name K, for comprehensions -/
def rLenQ (K : PySem.W.Frag) : List V → Hp → VK → Prop := fun xs H Q => ∃ p ys, xs = [.ref p] ∧ (SqL K H p ys ∨ SqT K H p ys) ∧ Q (.int ys.length) H
theorem call_lenQ {X : Cx} : CallR X (.builtin "len") (rLenQ X.K) := call_len_seq
def rTupQ (K : PySem.W.Frag) : List V → Hp → VK → Prop := fun xs H Q => ∃ p ys, xs = [.ref p] ∧ ((SqL K H p ys ∧ ∀ l, H l = none → Q (.ref l) (upd H l (.tup ys))) ∨ (SqT K H p ys ∧ Q (.ref p) H))
theorem call_tupQ {X : Cx} : CallR X (.type "tuple") (rTupQ X.K) := call_tuple_of
theorem TpAt.sm {H H' : Hp} (s : Same H H') {vs : List V} {bs : List (List Nat)} (h : TpAt H vs bs) : TpAt H' vs bs := h.same fun a xs q => s _ _ q
theorem all_snoc {m : Nat} {bs : List (List Nat)} {b : List Nat} (h : ∀ b ∈ bs, Blk m b) (hb : Blk m b) : ∀ b' ∈ bs ++ [b], Blk m b' := fun b' hb' => by
  rcases List.mem_append.mp hb' with z | z
  · exact h b' z
  · rw [List.mem_singleton.mp z]
    exact hb
theorem back_nats {b : List Nat} {ns : List Int} (hp : ns.Perm (b.map fun p => ((p : Nat) : Int))) (hs : ns.Pairwise (· ≤ ·)) : ∃ b' : List Nat, ns.map V.int = nats b' ∧ b'.Perm b ∧ b'.Pairwise (· ≤ ·) := by
  have hnn : ∀ x ∈ ns, 0 ≤ x := fun x hx => by
    obtain ⟨p, _, rfl⟩ := List.mem_map.mp (hp.mem_iff.mp hx)
    omega
  have e : ns = (ns.map Int.toNat).map fun p => ((p : Nat) : Int) := by
    rw [List.map_map]
    conv => lhs; rw [← List.map_id ns]
    exact List.map_congr_left fun x hx => by
      have := hnn x hx
      show x = ((x.toNat : Nat) : Int)
      omega
  refine ⟨ns.map Int.toNat, ?_, ?_, ?_⟩
  · rw [nats_ints, ← e]
  · have := hp.map Int.toNat
    rw [List.map_map] at this
    have e2 : (b.map (Int.toNat ∘ fun p => ((p : Nat) : Int))) = b := by
      conv => rhs; rw [← List.map_id b]
      exact List.map_congr_left fun x _ => by simp
    rwa [e2] at this
  · rw [List.pairwise_map]
    exact hs.imp fun h => by omega
theorem nats_get {b : List Nat} {j : Nat} {x : V} (h : (nats b)[j]? = some x) : ∃ p : Nat, b[j]? = some p ∧ x = V.int ((p : Nat) : Int) := by
  unfold nats at h
  rw [List.getElem?_map] at h
  cases e : b[j]? with
  | none => rw [e] at h; cases h
  | some p => rw [e] at h; cases h; exact ⟨p, rfl, rfl⟩
theorem TpAt.app {H : Hp} : ∀ {vs ws : List V} {bs cs : List (List Nat)}, TpAt H vs bs → TpAt H ws cs → TpAt H (vs ++ ws) (bs ++ cs)
  | [], _, [], _, _, h => h
  | _ :: _, _, _ :: _, _, h, h' => ⟨h.1, h.2.app h'⟩
theorem Blk.mono {p q : Nat} {b : List Nat} (h : Blk p b) (l : p ≤ q) : Blk q b := ⟨h.nd, fun x hx => Nat.lt_of_lt_of_le (h.lt x hx) l⟩
theorem Blk.snocLt {p q e : Nat} {b : List Nat} (h : Blk p b) (h1 : p ≤ e) (h2 : e < q) : Blk q (b ++ [e]) := ((h.mono h1).snoc).mono h2
theorem ints_isD' {K : PySem.W.Frag} {H : Hp} : ∀ L : List Nat, IsDs K H (L.map fun p => PyData.int ((p : Nat) : Int)) (nats L)
  | [] => by simp [nats, IsDs]
  | p :: L => by
    simp only [nats, List.map_cons, IsDs]
    exact ⟨_, _, rfl, by simp [IsD], ints_isD' L⟩
theorem lay_ints' : ∀ L : List Nat, PyData.canLayAll0 (L.map fun p => PyData.int ((p : Nat) : Int)) = true
  | [] => by simp [PyData.canLayAll0]
  | x :: L => by simp [PyData.canLayAll0, PyData.canLay0, lay_ints' L]
theorem depth_ints' : ∀ L : List Nat, PyData.depthAll (L.map fun p => PyData.int ((p : Nat) : Int)) ≤ 1
  | [] => by simp [PyData.depthAll]
  | x :: L => by
    have := depth_ints' L
    simp [PyData.depthAll, PyData.depth]
    omega
theorem cut_from {xs : List V} {k : Nat} (hk : k ≤ xs.length) : cutV xs (some (k : Int)) none = xs.drop k := by
  unfold cutV
  have h1 : HT.sIx xs.length 0 (some (k : Int)) = k := by rw [HT.sIx_nat]; omega
  have h2 : HT.sIx xs.length xs.length none = xs.length := by simp [HT.sIx]
  rw [h1, h2, List.take_of_length_le (by rw [List.length_drop]; exact Nat.le_refl _)]
theorem cut_to {xs : List V} {k : Nat} (hk : k ≤ xs.length) : cutV xs none (some (k : Int)) = xs.take k := by
  unfold cutV
  have h1 : HT.sIx xs.length 0 none = 0 := by simp [HT.sIx]
  have h2 : HT.sIx xs.length xs.length (some (k : Int)) = k := by rw [HT.sIx_nat]; omega
  rw [h1, h2, List.drop_zero, Nat.sub_zero]
theorem seqVia {t rest : TS} {D : Ends} {σ : St} {H : Hp} (J : St → Hp → Prop) (hJ : ∀ σ' H', J σ' H' → rest D σ' H') (h : ∀ D' : Ends, (∀ σ' H', J σ' H' → D'.nx σ' H') → t D' σ H) : tSeq t rest D σ H := h { D with nx := rest D } hJ
def dTup (L : List Nat) : PyData := .tuple (L.map fun p => PyData.int ((p : Nat) : Int))
theorem tps_isD {K : PySem.W.Frag} {H : Hp} : ∀ {vs : List V} {bs : List (List Nat)}, TpAt H vs bs → IsDs K H (bs.map dTup) vs
  | [], [], _ => by simp [IsDs]
  | v :: vs, b :: bs, ⟨⟨a, e, q⟩, r⟩ => by
    simp only [List.map_cons, IsDs]
    refine ⟨v, vs, rfl, ?_, tps_isD r⟩
    simp only [dTup, IsD]
    exact ⟨a, _, e, SqT.of q, ints_isD' b⟩
theorem lay_tps : ∀ bs : List (List Nat), PyData.canLayAll0 (bs.map dTup) = true
  | [] => by simp [PyData.canLayAll0]
  | b :: bs => by
    have h1 := lay_ints' b
    simp only [List.map_cons, PyData.canLayAll0, dTup, PyData.canLay0, h1, lay_tps bs, Bool.and_self, Bool.true_and]
theorem depth_tps : ∀ bs : List (List Nat), PyData.depthAll (bs.map dTup) ≤ 2
  | [] => by simp [PyData.depthAll]
  | b :: bs => by
    have h1 := depth_ints' b
    have h2 := depth_tps bs
    simp only [List.map_cons, PyData.depthAll, dTup, PyData.depth]
    omega
def dTps (bs : List (List Nat)) : PyData := .list (bs.map dTup)
theorem shaped_tps (bs : List (List Nat)) : PySem.SeqAt.shaped (dTps bs) = true := by
  unfold PySem.SeqAt.shaped dTps
  rw [Bool.and_eq_true]
  refine ⟨by simp only [PyData.canLay0]; exact lay_tps bs, decide_eq_true ?_⟩
  have := depth_tps bs
  simp only [PyData.depth]
  omega
theorem ints_get {L : List Int} {j : Nat} {x : V} (h : (L.map V.int)[j]? = some x) : ∃ z : Int, z ∈ L ∧ x = V.int z := by
  rw [List.getElem?_map] at h
  cases e : L[j]? with
  | none => rw [e] at h; cases h
  | some p => rw [e] at h; cases h; exact ⟨p, List.mem_of_getElem? e, rfl⟩
theorem TpAt.take {H : Hp} : ∀ {vs : List V} {bs : List (List Nat)} (n : Nat), TpAt H vs bs → TpAt H (vs.take n) (bs.take n)
  | [], [], _, _ => by simp [TpAt]
  | _ :: _, _ :: _, 0, _ => trivial
  | _ :: _, _ :: _, n + 1, h => ⟨h.1, h.2.take n⟩
theorem TpAt.set {H : Hp} {a : Addr} {b : List Nat} (e : H a = some (.tup (nats b))) : ∀ {vs : List V} {bs : List (List Nat)} (n : Nat), TpAt H vs bs → TpAt H (vs.set n (.ref a)) (bs.set n b)
  | [], [], _, _ => trivial
  | _ :: _, _ :: _, 0, h => ⟨⟨a, rfl, e⟩, h.2⟩
  | _ :: _, _ :: _, n + 1, h => ⟨h.1, h.2.set e n⟩
theorem cut_le {xs : List V} {k : Nat} : cutV xs none (some (k : Int)) = xs.take k := by
  by_cases hk : k ≤ xs.length
  · exact cut_to hk
  · unfold cutV
    have h1 : HT.sIx xs.length 0 none = 0 := by simp [HT.sIx]
    have h2 : HT.sIx xs.length xs.length (some (k : Int)) = xs.length := by rw [HT.sIx_nat]; omega
    rw [h1, h2, List.drop_zero, Nat.sub_zero, List.take_length, List.take_of_length_le (by omega)]
/-! ### a[i] += .. -/
end L2
/-! EvSort: sorted of a list of pairs of numbers: the same pairs in some order. Behind EvLay. -/
namespace L2
open PySem PySem.Spec PyProof.Rows PySem.W
/-- all ends of a tree of questions, the questions below n -/
def KAll {α : Type} (n : Nat) (R : α → Prop) : KasT α → Prop
  | .ret a => R a
  | .ask i j k => i < n ∧ j < n ∧ ∀ b, KAll n R (k b)
theorem KAll.bind {α β : Type} {n : Nat} {R : α → Prop} {S : β → Prop} {f : α → KasT β} : ∀ {t : KasT α}, KAll n R t → (∀ a, R a → KAll n S (f a)) → KAll n S (t.bind f)
  | .ret a, h, hf => hf a h
  | .ask i j k, h, hf => ⟨h.1, h.2.1, fun b => KAll.bind (h.2.2 b) hf⟩
theorem KAll.wp {α : Type} {n : Nat} {R : α → Prop} {cmp : Nat → Nat → (Bool → Shared → Prop) → Shared → Prop} {Q : α → Shared → Prop} {s : Shared} (hc : ∀ i j C, i < n → j < n → (∀ b, C b s) → cmp i j C s) (hq : ∀ a, R a → Q a s) : ∀ {t : KasT α}, KAll n R t → t.kasWp cmp Q s
  | .ret a, h => hq a h
  | .ask i j k, h => hc i j _ h.1 h.2.1 fun b => KAll.wp hc hq (h.2.2 b)
/-- an order of the first n numbers -/
def Ord (n : Nat) (p : Array Nat) : Prop := p.toList.Perm (List.range n)
theorem Ord.lt {n : Nat} {p : Array Nat} (h : Ord n p) (hn : 0 < n) (k : Nat) : p.getD k 0 < n := by
  by_cases hk : k < p.size
  · have : p.getD k 0 ∈ p.toList := by
      have e : p.getD k 0 = p[k] := by simp [hk]
      rw [e]
      exact Array.mem_toList_iff.mpr (Array.getElem_mem hk)
    exact List.mem_range.mp (h.mem_iff.mp this)
  · have : p.getD k 0 = 0 := by simp [hk]
    omega
theorem Ord.rev {n : Nat} {p : Array Nat} (h : Ord n p) (i j : Nat) : Ord n (kas_rev p i j) := ((mirror_perm p i j _).toList).trans h
theorem Ord.bub {n : Nat} {p : Array Nat} (h : Ord n p) (k d : Nat) : Ord n (bubble p k d) := ((bubble_perm p k d).toList).trans h
section
variable {n : Nat} (hn : 0 < n)
include hn
theorem all_asc {p : Array Nat} (h : Ord n p) : ∀ f k, KAll n (fun _ => True) (kas_asc p f k)
  | 0, _ => trivial
  | f + 1, k => ⟨h.lt hn _, h.lt hn _, fun b => by
    cases b
    · exact all_asc h f (k + 1)
    · exact trivial⟩
theorem all_desc : ∀ f {p : Array Nat} (k q : Nat), Ord n p → KAll n (fun r => Ord n r.1) (kas_desc f p k q)
  | 0, _, _, _, h => h
  | f + 1, p, k, q, h => ⟨h.lt hn _, h.lt hn _, fun b => by
    cases b
    · exact ⟨h.lt hn _, h.lt hn _, fun c => by
        cases c
        · exact all_desc f _ _ h
        · exact h⟩
    · show KAll n _ (if q > 0 then kas_desc f (kas_rev p (k - (q + 1)) k) (k + 1) 0 else kas_desc f p (k + 1) 0)
      split
      · exact all_desc f _ _ (h.rev _ _)
      · exact all_desc f _ _ h⟩
theorem all_tail3 {p : Array Nat} (h : Ord n p) (k m : Nat) : KAll n (fun r => Ord n r.2) (kas_tail3 k m p) := (all_asc hn (h.rev 0 k) _ _).bind fun _ _ => h.rev 0 k
theorem all_descPart {p : Array Nat} (h : Ord n p) (k m : Nat) : KAll n (fun r => Ord n r.2) (kas_descPart k m p) := (all_desc hn _ _ _ h).bind fun r hr => by
  split
  · exact all_tail3 hn (hr.rev _ _) _ _
  · exact all_tail3 hn hr _ _
theorem all_count {p : Array Nat} (h : Ord n p) (m : Nat) : KAll n (fun r => Ord n r.2) (kas_count m p) := (all_asc hn h _ _).bind fun k _ => by
  split
  · exact h
  · split
    · exact ⟨h.lt hn _, h.lt hn _, fun b => by
        cases b
        · exact all_descPart hn (h.rev _ _) _ _
        · exact h⟩
    · exact all_descPart hn h _ _
theorem all_place {p : Array Nat} (h : Ord n p) (k : Nat) : ∀ f l r, KAll n (fun _ => True) (kas_place p k f l r)
  | 0, _, _ => trivial
  | f + 1, l, r => by
    unfold kas_place
    split
    · trivial
    · exact ⟨h.lt hn _, h.lt hn _, fun b => by
        cases b
        · exact all_place h k f _ _
        · exact all_place h k f _ _⟩
theorem all_bin : ∀ f {p : Array Nat} (k : Nat), Ord n p → KAll n (Ord n) (kas_bin f p k)
  | 0, _, _, h => h
  | f + 1, p, k, h => (all_place hn h k _ _ _).bind fun l _ => all_bin f (k + 1) (h.bub _ _)
theorem all_sort : KAll n (Ord n) (kas_sort n) := (all_count hn (p := List.toArray (List.range n)) (by unfold Ord; simp) n).bind fun r hr => by
  split
  · exact all_bin hn _ _ hr
  · exact hr
end
/-- a pair of numbers, in the heap -/
def PrAt (h : Heap) (v : Value) : Prop := ∃ (x : Addr) (o : Obj) (k : Nat) (a b : Int) (t u : Tok), v = .ref x ∧ h.get? x = some o ∧ o.cls = .type "tuple" ∧ o.data = .seq #[.int a t, .int b u] k
theorem prs_tups {h : Heap} : ∀ {vs : List Value}, (∀ v ∈ vs, PrAt h v) → ∃ fs : List Value, KatTups h vs fs ∧ fs.length = vs.length ∧ ∀ f ∈ fs, ∃ (a : Int) (t : Tok), f = .int a t
  | [], _ => ⟨[], trivial, rfl, by simp⟩
  | v :: vs, hv => by
    obtain ⟨fs, h1, h2, h3⟩ := prs_tups (vs := vs) fun w hw => hv w (List.mem_cons_of_mem _ hw)
    obtain ⟨x, o, k, a, b, t, u, e, ho, hc, hd⟩ := hv v (List.mem_cons_self ..)
    refine ⟨.int a t :: fs, ⟨⟨x, o, _, k, e, ho, hc, hd, rfl⟩, h1⟩, by simp [h2], fun f hf => ?_⟩
    rcases List.mem_cons.mp hf with e | e
    · exact ⟨a, t, e⟩
    · exact h3 f e
section
variable {prog : Program} {w : World} {A : Around} {E : Value → Shared → Prop} {s : Shared}
theorem pr_lt {v v' : Value} {C : Bool → Shared → Prop} (hv : PrAt s.heap v) (hv' : PrAt s.heap v') (hC : ∀ b, C b s) : wpAny (model prog w) A (keyLt' (tuples' true) v v') C (fun _ _ => False) s := by
  obtain ⟨x, o, k, a, b, t, u, rfl, ho, hc, hd⟩ := hv
  obtain ⟨x', o', k', a', b', t', u', rfl, ho', hc', hd'⟩ := hv'
  refine kat_lt ho hd ho' hd' (kat_cons (wpAny_eqBool_int ?_))
  refine kat_go (fun _ => kat_yes ?_) (fun _ => kat_no ?_)
  · refine kat_cons (wpAny_eqBool_int (kat_go (fun _ => kat_yes (kat_nil (hC _))) (fun _ => kat_no ?_)))
    exact kat_one _ _ (lt_int (hC _))
  · exact kat_lt_int (hC _)
theorem map_getD (vs : List Value) : ((List.range vs.length).map fun i => vs.getD i Value.none) = vs := by
  apply List.ext_getElem
  · simp
  · intro i h1 h2
    simp [List.getElem_map, List.getElem_range, h2]
theorem list_sortP {a : Addr} {vs : List Value} {n : Nat} {Z : PySem.Fin → Shared → Prop} (ho : s.heap.get? a = some (seqObj "list" vs.toArray n)) (h64 : vs.length < 64) (hv : ∀ v ∈ vs, PrAt s.heap v)
    (h : ∀ out : List Value, out.Perm vs → Z (.done (.ret .none)) { s with heap := sortedHeap s.heap a vs out.toArray }) : wpAny (model prog w) A (Builtin.«list.sort» ⟨[.ref a], []⟩) Z E s := by
  have hlt : a < s.heap.objs.size := Heap.lt_size ho
  obtain ⟨c1, g1⟩ : ∃ c1, (s.heap.update a (Obj.mapSeq fun _ => #[])).get? a = some (seqObj "list" #[] c1) := ⟨_, get?_update_seq ho (fun _ => #[])⟩
  have up : ∀ b o, b ≠ a → s.heap.get? b = some o → (((s.heap.update a (Obj.mapSeq fun _ => #[])).push (seqObj "tuple" vs.toArray 0)).push (seqObj "list" #[] 0)).get? b = some o := fun b o nb q => by
    refine Heap.get?_push_of_some _ (Heap.get?_push_of_some _ ?_)
    rw [Heap.get?_update_ne _ _ _ _ nb]
    exact q
  have g6 : (((s.heap.update a (Obj.mapSeq fun _ => #[])).push (seqObj "tuple" vs.toArray 0)).push (seqObj "list" #[] 0)).get? a = some (seqObj "list" #[] c1) := Heap.get?_push_of_some _ (Heap.get?_push_of_some _ g1)
  rw [list_sort_plain]
  refine wpAny_bind (listItems_at ho rfl (wpAny_bind (listUpdate_at ho rfl ?_ (by rw [List.size_toArray, sizeLine_eq]; omega) (Nat.zero_le _))))
  refine wpAny_bind (seqEpoch_at g1 rfl (wpAny_bind (wpAny_newTuple ?_ (show vs.length ≤ sizeLine by rw [sizeLine_eq]; omega))))
  refine wpAny_bind (wpAny_newList (wpAny_holding ?_) (Nat.zero_le _))
  show wpAny (model prog w) A _ Z E { s with heap := ((s.heap.update a (Obj.mapSeq fun _ => #[])).push (seqObj "tuple" vs.toArray 0)).push (seqObj "list" #[] 0) }
  dsimp only
  by_cases h2 : vs.toArray.size < 2
  · rw [if_pos h2, if_pos h2]
    refine wpAny_bind (wpAny_pure ?_)
    rw [StateT.run_pure]
    refine wpAny_bind (wpAny_pure ?_)
    dsimp only
    refine wpAny_bind (seqEpoch_at g6 rfl (wpAny_bind (listUpdate_at g6 rfl ?_ (Nat.zero_le _) (by rw [Array.size_map]; show (pairsOf vs).size ≤ _; rw [pairsOf_size, sizeLine_eq]; omega))))
    simp only [bne_self_eq_false, Bool.false_eq_true, if_false]
    have e : (arrOf (SortSt.mk' general' (vs.toArray.zip vs.toArray) #[] 7 none)).map (·.2) = vs.toArray := by
      show (vs.toArray.zip vs.toArray).map (·.2) = vs.toArray
      apply Array.toList_inj.mp
      simp [List.map_snd_zip]
    have := h vs (List.Perm.refl _)
    refine wpAny_pure ?_
    rw [e]
    exact this
  · rw [if_neg h2, if_neg h2]
    rw [List.size_toArray] at h2
    obtain ⟨fs, hT, hfl, hfi⟩ := prs_tups (h := ((s.heap.update a (Obj.mapSeq fun _ => #[])).push (seqObj "tuple" vs.toArray 0)).push (seqObj "list" #[] 0)) (vs := vs) fun v hv' => by
      obtain ⟨x, o, k, p, q, t, u, e, hx, hc, hd⟩ := hv v hv'
      exact ⟨x, o, k, p, q, t, u, e, up _ _ (fun z => by rw [z, ho] at hx; cases hx; injection (show Value.type "list" = Value.type "tuple" from hc) with e'; exact absurd e' (by decide)) hx, hc, hd⟩
    refine wpAny_bind (kat_kind (T := .type "int") hT (by omega) (fun f hf => ?_) rfl ?_)
    · obtain ⟨p, t, rfl⟩ := hfi f hf
      exact Looks.now
    show wpAny (model prog w) A _ Z E _
    have run : (kas_sort vs.length).kasWp (kas_ask prog w A (tuples' true) vs) (fun p s' => Ord vs.length p ∧ s' = { s with heap := ((s.heap.update a (Obj.mapSeq fun _ => #[])).push (seqObj "tuple" vs.toArray 0)).push (seqObj "list" #[] 0) }) { s with heap := ((s.heap.update a (Obj.mapSeq fun _ => #[])).push (seqObj "tuple" vs.toArray 0)).push (seqObj "list" #[] 0) } :=
      KAll.wp (n := vs.length) (fun i j C hi hj hC => by
        have pr : ∀ k, k < vs.length → PrAt (((s.heap.update a (Obj.mapSeq fun _ => #[])).push (seqObj "tuple" vs.toArray 0)).push (seqObj "list" #[] 0)) (vs.getD k Value.none) := fun k hk => by
          have em : vs.getD k Value.none = vs[k] := by simp [hk]
          rw [em]
          obtain ⟨x, o, k', p, q, t, u, e, hx, hc, hd⟩ := hv _ (List.getElem_mem hk)
          exact ⟨x, o, k', p, q, t, u, e, up _ _ (fun z => by rw [z, ho] at hx; cases hx; injection (show Value.type "list" = Value.type "tuple" from hc) with e'; exact absurd e' (by decide)) hx, hc, hd⟩
        exact pr_lt (pr i hi) (pr j hj) hC) (fun p hp => ⟨hp, rfl⟩) (all_sort (by omega))
    refine wpAny_bind (wpAny_mono (kat_run (Q := fun st' s' => ∃ p : Array Nat, arrOf st' = p.map (kas_item (vs.toArray.zip vs.toArray)) ∧ failedOf st' = none ∧ Ord vs.length p ∧ s' = { s with heap := ((s.heap.update a (Obj.mapSeq fun _ => #[])).push (seqObj "tuple" vs.toArray 0)).push (seqObj "list" #[] 0) })
      rfl (by omega) h64 (fun p st' s' _ q2 q3 q4 => ⟨p, q2, q3, q4.1, q4.2⟩) run) ?_ fun _ _ e => e)
    rintro ⟨⟨⟩, st'⟩ s' ⟨p, har, hf, hp, rfl⟩
    dsimp only
    have eo := kat_snds rfl har
    have hpm : (p.toList.map fun i => vs.getD i Value.none).Perm vs := by
      have := hp.map fun i => vs.getD i Value.none
      rwa [map_getD] at this
    have fin := h _ hpm
    rw [eo]
    refine wpAny_bind (seqEpoch_at g6 rfl (wpAny_bind (listUpdate_at g6 rfl ?_ (Nat.zero_le _) (by rw [List.size_toArray, hpm.length_eq, sizeLine_eq]; omega))))
    rw [hf]
    simp only [bne_self_eq_false, Bool.false_eq_true, if_false]
    exact wpAny_pure fin
theorem sorted_prs {l : Addr} {vs : List Value} {Q : Value → Shared → Prop} (hl : s.heap.IsList l vs.toArray) (h64 : vs.length < 64) (hv : ∀ v ∈ vs, PrAt s.heap v)
    (h : ∀ out : List Value, out.Perm vs → Q (.ref (s.heap.objs.size + 1)) { s with heap := sortedAll s.heap vs out.toArray }) : wpAny (model prog w) A (call (.builtin "sorted") [.ref l]) Q E s := by
  refine Calls.call_function_entry kind_sorted plain_sorted entry_sorted (args_sorted1 _) ?_
  unfold Builtin.«sorted»
  refine wpAny_bind (m := checkCount "sorted" 1 1 _) (wpAny_pure (wpAny_bind (collect_list hl (wpAny_bind (wpAny_newList ?_ (by rw [sizeLine_eq]; omega))) (by rw [sizeLine_eq]; omega))))
  have n1 : ((s.heap.push (seqObj "list" #[] 0)).update s.heap.objs.size (Obj.mapSeq (· ++ vs.toArray))).objs.size = s.heap.objs.size + 1 := by rw [Heap.size_update, size_push']
  have up : ∀ b o, s.heap.get? b = some o → (((s.heap.push (seqObj "list" #[] 0)).update s.heap.objs.size (Obj.mapSeq (· ++ vs.toArray))).push (seqObj "list" vs.toArray 0)).get? b = some o := fun b o q => by
    refine Heap.get?_push_of_some _ ?_
    rw [Heap.get?_update_ne _ _ _ _ (Nat.ne_of_lt (Heap.lt_size q))]
    exact Heap.get?_push_of_some _ q
  have g2 : (((s.heap.push (seqObj "list" #[] 0)).update s.heap.objs.size (Obj.mapSeq (· ++ vs.toArray))).push (seqObj "list" vs.toArray 0)).get? (s.heap.objs.size + 1) = some (seqObj "list" vs.toArray 0) := by
    rw [← n1]; exact Heap.get?_push_size _ rfl
  show wpAny _ _ _ _ _ { s with heap := ((s.heap.push (seqObj "list" #[] 0)).update s.heap.objs.size (Obj.mapSeq (· ++ vs.toArray))).push (seqObj "list" vs.toArray 0) }
  rw [n1]
  refine wpAny_bind (wpAny_holding (wpAny_call_entry slot_list_sort ⟨_, g2, rfl⟩ entry_list_sort (list_sortP g2 h64 (fun v hv' => ?_) fun out hp => ⟨_, rfl, wpAny_pure ⟨_, rfl, h out hp⟩⟩) (args_list_sort _)))
  obtain ⟨x, o, k, p, q, t, u, e, hx, hc, hd⟩ := hv v hv'
  exact ⟨x, o, k, p, q, t, u, e, up _ _ hx, hc, hd⟩
end
/-- pairs of numbers, by values -/
def PrsAt (H : Hp) : List V → List (Int × Int) → Prop
  | [], [] => True
  | v :: vs, x :: xs => (∃ a, v = .ref a ∧ H a = some (.tup [.int x.1, .int x.2])) ∧ PrsAt H vs xs
  | _, _ => False
theorem PrsAt.val {X : Cx} {pins : List (Addr × Obj)} {σ : St} {H : Hp} {s : Shared} (I : Inv X pins σ H s) : ∀ {vs : List V} {xs : List (Int × Int)} {us : List Value}, PrsAt H vs xs → Vals vs us → (∀ u ∈ us, PrAt s.heap u) ∧ vs = us.map fun u => V.ref (match u with | .ref a => a | _ => 0)
  | [], [], _, _, r => by cases r; exact ⟨by simp, rfl⟩
  | v :: vs, x :: xs, _, ⟨⟨a, e, q⟩, hr⟩, r => by
    cases r with
    | cons h t =>
      subst e
      cases h
      obtain ⟨h1, h2⟩ := PrsAt.val I hr t
      obtain ⟨its, rv, ⟨o, ho, hc, n, hd⟩, _⟩ := I.tuple (SqT.of q)
      refine ⟨fun u hu => ?_, by rw [List.map_cons, ← h2]⟩
      rcases List.mem_cons.mp hu with e | e
      · cases rv with
        | cons r1 rr =>
          cases rr with
          | cons r2 rr =>
            cases rr
            obtain ⟨t1, rfl⟩ := r1
            obtain ⟨t2, rfl⟩ := r2
            exact ⟨a, o, n, _, _, _, _, e, ho, hc, hd⟩
      · exact h1 u e
/-- sorted(list of pairs): the same refs in some order -/
def rSortP (K : PySem.W.Frag) : List V → Hp → VK → Prop := fun xs H Q => ∃ (a : Addr) (vs : List V) (ps : List (Int × Int)), xs = [.ref a] ∧ SqL K H a vs ∧ PrsAt H vs ps ∧ vs.length < 64 ∧ ∀ (l : Addr) (vs' : List V), H l = none → vs'.Perm vs → Q (.ref l) (upd H l (.lst vs'))
theorem call_sortP {X : Cx} : CallR X (.builtin "sorted") (rSortP X.K) := by
  intro pins s σ H xs us Q I r h
  obtain ⟨a, vs, ps, rfl, hq, hP, h64, q⟩ := h
  obtain ⟨u, rfl, rx⟩ := vals1 r
  cases rx
  obtain ⟨its, r', pl, hz⟩ := I.list hq
  have hlen := r'.length
  obtain ⟨hpr, hvs⟩ := PrsAt.val I hP r'
  refine sorted_prs pl.isList (by omega) hpr fun out hp => ?_
  obtain ⟨e, he⟩ := sortedAll_at s.heap its out.toArray
  have hl2 := hp.length_eq
  have hpm : (out.map fun u => V.ref (match u with | .ref a => a | _ => 0)).Perm vs := by
    rw [hvs]
    exact hp.map _
  refine ⟨.ref (s.heap.objs.size + 1), _, I.laid (t' := s.toks) (o := .lst (out.map fun u => V.ref (match u with | .ref a => a | _ => 0))) (fun b o => sortedAll_old) (Nat.le_succ _) ?_, rfl, q _ _ (I.hok.fresh (Nat.le_succ _)) hpm⟩
  refine ⟨by rw [List.length_map]; exact Nat.le_trans (show out.length ≤ 64 by omega) (by decide), out, e, ?_, he⟩
  have hall : ∀ u ∈ out, ∃ x, u = .ref x := fun u hu => by
    obtain ⟨x, _, _, _, _, _, _, e, _⟩ := hpr u (hp.mem_iff.mp hu)
    exact ⟨x, e⟩
  clear he hpm hp hl2
  induction out with
  | nil => exact .nil
  | cons u out ih =>
    obtain ⟨x, rfl⟩ := hall u (List.mem_cons_self ..)
    exact .cons rfl (ih fun u hu => hall u (List.mem_cons_of_mem _ hu))
theorem PrsAt.same {H H' : Hp} (s : Same H H') : ∀ {vs : List V} {ps : List (Int × Int)}, PrsAt H vs ps → PrsAt H' vs ps
  | [], [], _ => trivial
  | _ :: _, _ :: _, ⟨⟨a, e, q⟩, r⟩ => ⟨⟨a, e, s _ _ q⟩, r.same s⟩
theorem PrsAt.snoc {H : Hp} {a : Addr} {p : Int × Int} (e : H a = some (.tup [.int p.1, .int p.2])) : ∀ {vs : List V} {ps : List (Int × Int)}, PrsAt H vs ps → PrsAt H (vs ++ [.ref a]) (ps ++ [p])
  | [], [], _ => ⟨⟨a, rfl, e⟩, trivial⟩
  | _ :: _, _ :: _, h => ⟨h.1, h.2.snoc e⟩
theorem PrsAt.len {H : Hp} : ∀ {vs : List V} {ps : List (Int × Int)}, PrsAt H vs ps → vs.length = ps.length
  | [], [], _ => rfl
  | _ :: _, _ :: _, h => by rw [List.length_cons, List.length_cons, PrsAt.len h.2]
theorem PrsAt.get {H : Hp} : ∀ {vs : List V} {ps : List (Int × Int)} {i : Nat} {v : V}, PrsAt H vs ps → vs[i]? = some v → ∃ a p, v = .ref a ∧ ps[i]? = some p ∧ H a = some (.tup [.int p.1, .int p.2])
  | v :: vs, p :: ps, 0, _, h, e => by
    cases e
    obtain ⟨a, e, q⟩ := h.1
    exact ⟨a, p, e, rfl, q⟩
  | _ :: vs, _ :: ps, i + 1, v, h, e => PrsAt.get (i := i) h.2 e
theorem PrsAt.perm {H : Hp} {vs vs' : List V} (hp : vs'.Perm vs) : ∀ {ps : List (Int × Int)}, PrsAt H vs ps → ∃ ps', PrsAt H vs' ps' ∧ ps'.Perm ps := by
  induction hp with
  | nil => intro ps h; exact ⟨ps, h, .refl _⟩
  | cons x _ ih =>
    intro ps h
    cases ps with
    | nil => exact h.elim
    | cons p ps =>
      obtain ⟨ps', h1, h2⟩ := ih h.2
      exact ⟨p :: ps', ⟨h.1, h1⟩, h2.cons p⟩
  | swap x y l =>
    intro ps h
    match ps, h with
    | [], h => exact h.elim
    | [_], h => exact h.2.elim
    | p :: q :: ps, h => exact ⟨q :: p :: ps, ⟨h.2.1, h.1, h.2.2⟩, .swap ..⟩
  | trans _ _ ih1 ih2 =>
    intro ps h
    obtain ⟨ps1, a1, a2⟩ := ih2 h
    obtain ⟨ps2, b1, b2⟩ := ih1 a1
    exact ⟨ps2, b1, b2.trans a2⟩
end L2
/-! EvMul: tuple * number. Behind EvLay. -/
namespace PySem
open Sem (wp)
open Builtin
end PySem
namespace L2
open PySem PySem.Spec PyProof.Rows
end L2
namespace HT2
open PySem PySem.Spec PyProof.Rows HT
variable {prog : Program} {w : World} {A : Around} {E : Value → Shared → Prop} {s : Shared}
end HT2
namespace L2
open PySem PySem.Spec PyProof.Rows
end L2
/-! EvTold: loops by steps, zip of two lists, a def that calls itself. Behind EvMul. -/
namespace L2
open PySem PySem.Spec PyProof.Rows
theorem for_its {lo c : Int} {n : Nat} {g : TG} {tb : TS} {D : Ends} {σ : St} {H : Hp} (Pv : Nat → St → Hp → Prop) (h0 : Pv 0 σ H)
    (hs : ∀ i σ H, i < n → Pv i σ H → g (.int (lo + (i : Nat) * c)) σ H fun σ2 H2 => tb { D with nx := Pv (i + 1), ct := Pv (i + 1), bk := D.nx } σ2 H2) (hd : ∀ σ H, Pv n σ H → D.nx σ H) :
    ∃ W : Nat → Nat → St → Hp → Prop, (∃ m, W 0 m σ H) ∧ ∀ i m σ H, W i m σ H →
      ((Its lo c n).stop i H ∧ D.nx σ H) ∨ ((Its lo c n).go i H ∧ ∃ N : St → Hp → Prop, (∀ σ' H', N σ' H' → ∃ m', m' < m ∧ W (i + 1) m' σ' H') ∧ ∀ x H', (Its lo c n).yld i H x H' → g x σ H' fun σ2 H2 => tb { D with nx := N, ct := N, bk := D.nx } σ2 H2) := by
  refine ⟨fun i m σ H => m = n - i ∧ i ≤ n ∧ Pv i σ H, ⟨n, by simp, Nat.zero_le _, h0⟩, ?_⟩
  rintro i m σ H ⟨rfl, hi, p⟩
  by_cases hlt : i < n
  · refine .inr ⟨hlt, Pv (i + 1), fun σ' H' p' => ⟨n - (i + 1), by omega, rfl, hlt, p'⟩, fun v H' hy => ?_⟩
    obtain ⟨e, rfl⟩ := hy
    subst e
    exact hs i σ _ hlt p
  · have e : i = n := by omega
    subst e
    exact .inl ⟨Nat.le_refl _, hd σ H p⟩
theorem FnOk.never {P : Program} {w : World} {K : PySem.W.Frag} {mg : Str → Option Value} {base : Heap} {CX : CXT} {k : Nat} {f : Addr} {fd : FuncData} {ps : List Str} : FnOk P w K mg base CX k f fd ps (fun _ _ _ _ => False) :=
  ⟨fun _ _ _ _ h => h.elim, fun _ _ _ _ _ _ _ _ _ _ _ _ _ h => h.elim⟩
/-- the pairs of two lists' items -/
def Itzl (K : PySem.W.Frag) (a b : Addr) : It :=
  ⟨fun i H => ∃ xs x ys y, SqL K H a xs ∧ xs[i]? = some x ∧ SqL K H b ys ∧ ys[i]? = some y, fun i H v H' => ∃ T x y, (∀ xs, SqL K H a xs → xs[i]? = some x) ∧ (∀ ys, SqL K H b ys → ys[i]? = some y) ∧ H T = none ∧ v = .ref T ∧ H' = upd H T (.tup [x, y]), fun i H => ∃ xs ys, SqL K H a xs ∧ SqL K H b ys ∧ xs.length ≤ i⟩
theorem turn_zipL {P : Program} {w : World} {K : PySem.W.Frag} {elts : List Expr} {k : Nat} {tp : Pos} (l1 l2 z TI TO i1 i2 : Addr) (D : ZipApart z TI TO i1 i2 l1 l2) : Turn P w K (.Tuple elts k tp) (Itzl K l1 l2) [z, TO, i1, i2, TI] z
    (fun i h => IsZip h z TI TO .none ∧ IsPair h TI (.ref i1) (.ref i2) ∧ (∃ a b, IsPair h TO a b) ∧ h.IsListIter i1 l1 i ∧ h.IsListIter i2 l2 i) where
  mem := by simp
  obj := fun i h st b hb => by
    obtain ⟨kz, kI, ⟨a, b', kO⟩, ⟨o1, g1, _, d1⟩, ⟨o2, g2, _, d2⟩⟩ := st
    simp only [List.mem_cons, List.not_mem_nil, or_false] at hb
    rcases hb with rfl | rfl | rfl | rfl | rfl
    · exact ⟨_, kz, fun v q => by cases q⟩
    · exact ⟨_, kO, fun v q => by cases q⟩
    · exact ⟨o1, g1, fun v q => by rw [d1] at q; cases q⟩
    · exact ⟨o2, g2, fun v q => by rw [d2] at q; cases q⟩
    · exact ⟨_, kI, fun v q => by cases q⟩
  keep := fun i h h' ⟨kz, kI, ⟨a, b', kO⟩, ⟨o1, g1, r1⟩, ⟨o2, g2, r2⟩⟩ kp => ⟨kp z (by simp) _ kz, kp TI (by simp) _ kI, ⟨a, b', kp TO (by simp) _ kO⟩, ⟨o1, kp i1 (by simp) _ g1, r1⟩, ⟨o2, kp i2 (by simp) _ g2, r2⟩⟩
  item := by
    intro X hP hw hK hc i pins s σ H E I hf st hg
    subst hP hw hK
    obtain ⟨xs, x, ys, y, hq, hx, hq', hy⟩ := hg
    obtain ⟨us, rv, p, hz⟩ := I.list hq
    obtain ⟨us', rv', p', hz'⟩ := I.list hq'
    obtain ⟨u, hu, ru⟩ := rv.get hx
    obtain ⟨u', hu', ru'⟩ := rv'.get hy
    obtain ⟨kz, kI, ⟨a, b', kO⟩, j1, j2⟩ := st
    have fr : H s.heap.objs.size = none := I.hok.fresh (Nat.le_refl _)
    have hlt : ∀ b ∈ [z, TO, i1, i2, TI], b ≠ s.heap.objs.size := fun b hb e => by
      simp only [List.mem_cons, List.not_mem_nil, or_false] at hb
      have lt : ∀ {c o}, s.heap.get? c = some o → c ≠ s.heap.objs.size := fun q => Nat.ne_of_lt (Heap.lt_size q)
      rcases hb with rfl | rfl | rfl | rfl | rfl
      · exact lt kz e
      · exact lt kO e
      · obtain ⟨_, g, _⟩ := j1; exact lt g e
      · obtain ⟨_, g, _⟩ := j2; exact lt g e
      · exact lt kI e
    refine wpAny_pyNext_zip_item D kz kI kO j1 j2 p.isList p'.isList (x := u) (y := u') (by simpa using hu) (by simpa using hu') fun h' kz' kO' j1' j2' kT hsz kp => ?_
    have I1 : Inv X pins σ H { s with heap := h', toks := s.toks } := I.turnedL (wr := [z, TO, i1, i2]) (fun b o hb q => kp b o (fun e => hb (by simp [e])) (fun e => hb (by simp [e])) (fun e => hb (by simp [e])) (fun e => hb (by simp [e])) q) (fun b hb => hf b (by
      simp only [List.mem_cons, List.not_mem_nil, or_false] at hb ⊢
      rcases hb with e | e | e | e <;> simp [e]))
    have I2 : Inv X pins σ (upd H s.heap.objs.size (.tup [x, y])) { s with heap := h', toks := s.toks } := I.tracked I1 (Nat.le_refl _) ⟨by show 2 ≤ sizeLine; decide, [u, u'], .cons ru (.cons ru' .nil), ⟨_, kT, rfl, _, rfl⟩⟩
    have hf2 : ∀ b ∈ [z, TO, i1, i2, TI], FpOk X pins (upd H s.heap.objs.size (.tup [x, y])) b := fun b hb => by
      obtain ⟨f0, f1, f2, f3, f4, f5⟩ := hf b hb
      exact ⟨by rw [upd_ne (hlt b hb)]; exact f0, f1, f2, f3, f4, f5⟩
    refine ⟨_, rfl, wpAny_letOwnedTupleGo_zip kz' fun h'' kz'' bs => ?_⟩
    have bk : ∀ b o, b ≠ z → h'.get? b = some o → h''.get? b = some o := fun b o n q => (bs.2 b n).trans q
    obtain ⟨o1, g1, r1⟩ := j1'
    obtain ⟨o2, g2, r2⟩ := j2'
    refine ⟨.ref s.heap.objs.size, _, I2.turnedL (wr := [z]) (t' := s.toks) (fun b o hb q => bk b o (fun e => hb (by simp [e])) q) (fun b hb => hf2 b (by rw [List.mem_singleton.mp hb]; simp)), rfl,
      ⟨_, x, y, fun zs hs => by rw [I.list_inj hs hq]; exact hx, fun zs hs => by rw [I.list_inj hs hq']; exact hy, fr, rfl, rfl⟩,
      ⟨kz'', bk _ _ D.TIz (kp _ _ D.TIz D.TITO D.TIi1 D.TIi2 kI), ⟨_, _, bk _ _ D.TOz kO'⟩, ⟨o1, bk _ _ D.i1z g1, r1⟩, ⟨o2, bk _ _ D.i2z g2, r2⟩⟩, fun b hb => (hf2 b hb).1⟩
  done := by
    intro X hP hw hK hc i pins s σ H E I hf st hg
    subst hP hw hK
    obtain ⟨xs, ys, hq, hq', hx⟩ := hg
    obtain ⟨us, rv, p, hz⟩ := I.list hq
    obtain ⟨us', rv', p', hz'⟩ := I.list hq'
    have hl := rv.length
    obtain ⟨kz, kI, ⟨a, b', kO⟩, j1, j2⟩ := st
    exact wpAny_pyNext_zip_end (I.ok.hd hc) D kz kI kO j1 j2 p.isList p'.isList (.inl (by simp; omega)) fun h' kp => ⟨rfl, I.turnedL (wr := [z, TO, i1, i2]) (t' := s.toks) (fun b o hb q => kp b o (fun e => hb (by simp [e])) (fun e => hb (by simp [e])) (fun e => hb (by simp [e])) (fun e => hb (by simp [e])) q) (fun b hb => hf b (by
      simp only [List.mem_cons, List.not_mem_nil, or_false] at hb ⊢
      rcases hb with e | e | e | e <;> simp [e]))⟩
  self := fun _ _ _ _ _ st h => wpAny_pyIter_zip st.1 h
section
variable {X : Cx} {elts : List Expr} {k : Nat} {tp : Pos}
def iZipL (K : PySem.W.Frag) (ta : TA) : TI := fun σ H R => ta σ H fun vs H1 => ∃ a b, vs = [.ref a, .ref b] ∧ (∃ xs, SqL K H1 a xs) ∧ (∃ ys, SqL K H1 b ys) ∧ R (Itzl K a b) H1
theorem pi_zipL {a b : Expr} {ta : TA} {p pos : Pos} (hg : Gl X "zip") (hm : X.mg "zip" = none) (ha : PA X [a, b] ta) (hs : starEach [a, b] X.env = [(false, eval a X.env), (false, eval b X.env)] := by rfl) (hs2 : starEach [b] X.env = [(false, eval b X.env)] := by rfl) : PI X (.Tuple elts k tp) (.Call (.Name "zip" p) [a, b] [] pos) (iZipL X.K ta) := by
  intro pins s σ H R I h
  refine Call_ (ld_blt I hg hm (show bootBuiltins "zip" = some (.type "zip") by decide +kernel) (PyProof.Rows.callWith_type1 (thn (ha pos pins s σ H _ I h) fun us s1 ⟨vs, H1, I1, r1, q1⟩ => ?_) (by rw [hs, hs2]) (by rw [hs2]; rfl)))
  obtain ⟨a, b, e, ⟨xs, hq⟩, ⟨ys, hq'⟩, q⟩ := q1
  subst e
  cases r1 with
  | cons ra rr =>
    cases rr with
    | cons rb rr =>
      cases rr
      cases ra
      cases rb
      obtain ⟨its, rv, pl, hz⟩ := I1.list hq
      obtain ⟨its', rv', pl', hz'⟩ := I1.list hq'
      have la : a < s1.heap.objs.size := by obtain ⟨_, g, _⟩ := pl.isList; exact Heap.lt_size g
      have lb : b < s1.heap.objs.size := by obtain ⟨_, g, _⟩ := pl'.isList; exact Heap.lt_size g
      refine call_zip_2 pl.isList pl'.isList fun h' kz kI kO j1 j2 hsz kp => ?_
      have I2 : Inv X pins σ H1 { s1 with heap := h' } := I1.kept (t' := s1.toks) kp
      refine wpAny_pyIter_zip kz ?_
      have D : ZipApart (s1.heap.objs.size + 4) (s1.heap.objs.size + 2) (s1.heap.objs.size + 3) s1.heap.objs.size (s1.heap.objs.size + 1) a b := PySem.W.ktu_apart _ _ _ la lb
      refine ⟨s1.heap.objs.size + 4, [s1.heap.objs.size + 4, s1.heap.objs.size + 3, s1.heap.objs.size, s1.heap.objs.size + 1, s1.heap.objs.size + 2], _, _, H1, rfl, I2, turn_zipL a b _ _ _ _ _ D, ⟨kz, kI, ⟨_, _, kO⟩, j1, j2⟩, fun c hc => ?_, q⟩
      have : s1.heap.objs.size ≤ c := by
        simp only [List.mem_cons, List.not_mem_nil, or_false] at hc
        rcases hc with rfl | rfl | rfl | rfl | rfl
        · exact Nat.le_add_right _ _
        · exact Nat.le_add_right _ _
        · exact Nat.le_refl _
        · exact Nat.le_add_right _ _
        · exact Nat.le_add_right _ _
      exact I1.fpOk this (I1.hok.fresh this)
theorem qi_zipL {a b : Expr} {ta : TA} {p pos : Pos} (hg : Gl X "zip") (hm : X.mg "zip" = none) (ha : QA X [a, b] ta) (hs : starEach [a, b] X.env = [(false, eval a X.env), (false, eval b X.env)] := by rfl) (hs2 : starEach [b] X.env = [(false, eval b X.env)] := by rfl) : QI X (.Tuple elts k tp) (.Call (.Name "zip" p) [a, b] [] pos) (iZipL X.K ta) := ⟨pi_zipL hg hm ha.h hs hs2⟩
end
theorem for_zipL {K : PySem.W.Frag} {a b : Addr} {xs ys : List V} {g : TG} {tb : TS} {D : Ends} {σ : St} {H : Hp} (hlen : xs.length = ys.length) (Pv : Nat → St → Hp → Prop) (h0 : Pv 0 σ H) (hl : ∀ i σ H, i ≤ xs.length → Pv i σ H → SqL K H a xs ∧ SqL K H b ys)
    (hs : ∀ i x y T σ H, xs[i]? = some x → ys[i]? = some y → Pv i σ H → H T = none → g (.ref T) σ (upd H T (.tup [x, y])) fun σ2 H2 => tb { D with nx := Pv (i + 1), ct := Pv (i + 1), bk := D.nx } σ2 H2) (hd : ∀ σ H, Pv xs.length σ H → D.nx σ H) :
    ∃ W : Nat → Nat → St → Hp → Prop, (∃ m, W 0 m σ H) ∧ ∀ i m σ H, W i m σ H →
      ((Itzl K a b).stop i H ∧ D.nx σ H) ∨ ((Itzl K a b).go i H ∧ ∃ N : St → Hp → Prop, (∀ σ' H', N σ' H' → ∃ m', m' < m ∧ W (i + 1) m' σ' H') ∧ ∀ x H', (Itzl K a b).yld i H x H' → g x σ H' fun σ2 H2 => tb { D with nx := N, ct := N, bk := D.nx } σ2 H2) := by
  refine ⟨fun i m σ H => m = xs.length - i ∧ i ≤ xs.length ∧ Pv i σ H, ⟨xs.length, by simp, Nat.zero_le _, h0⟩, ?_⟩
  rintro i m σ H ⟨rfl, hi, p⟩
  obtain ⟨q, q'⟩ := hl i σ H hi p
  by_cases hlt : i < xs.length
  · have hlt' : i < ys.length := hlen ▸ hlt
    refine .inr ⟨⟨xs, xs[i], ys, ys[i], q, by simp [hlt], q', by simp [hlt']⟩, Pv (i + 1), fun σ' H' p' => ⟨xs.length - (i + 1), by omega, rfl, hlt, p'⟩, fun v H' hy => ?_⟩
    obtain ⟨T, x, y, hx, hy, hT, rfl, rfl⟩ := hy
    exact hs i x y T σ _ (hx xs q) (hy ys q') p hT
  · have e : i = xs.length := by omega
    subst e
    exact .inl ⟨⟨xs, ys, q, q', Nat.le_refl _⟩, hd σ H p⟩
end L2
/-! EvZip: zip of a tuple and a list. Behind EvLay. -/
namespace L2
open PySem PySem.Spec PyProof.Rows
section
variable {prog : Program} {w : World} {A : Around} {E : Value → Shared → Prop} {s : Shared}
/-- the next of a tuple's iterator, asked by a builtin -/
theorem nextT_item {it t : Addr} {i : Nat} {its : Array Value} {x : Value} {Q : Value → Shared → Prop} (hi : s.heap.IsTupleIter it t i) (ht : s.heap.IsTuple t its) (hx : its[i]? = some x)
    (hQ : ∀ h', h'.IsTupleIter it t (i + 1) → Heap.SameBut it s.heap h' → Q x { s with heap := h' }) : wpAny (model prog w) A (Builtin.SmallTypes.nextOf (.ref it)) Q E s := by
  obtain ⟨oi, gi, ci, di⟩ := id hi
  obtain ⟨ot, gt, _, nt, dt⟩ := ht
  unfold Builtin.SmallTypes.nextOf
  refine wpAny_bind (wpAny_callSpecial?_slot (name := Str.ofString "__next__") hi.typeIs PySem.F.slot_tuple_iterator_next (wpAny_call_entry PySem.F.slot_tuple_iterator_next hi.typeIs PySem.F.entry_tuple_iterator_next ?_ (PySem.F.args_tuple_iterator_next_1 _)))
  show wpAny _ _ (field (.ref it) 0 >>= _) _ _ s; refine wpAny_bind (wpAny_field gi di (x := .ref t) rfl ?_)
  show wpAny _ _ (if (Value.ref t == Value.none) = true then _ else _) _ _ s; rw [if_neg (show ¬ ((Value.ref t == Value.none) = true) from Bool.false_ne_true)]
  show wpAny _ _ (field (.ref it) 1 >>= _) _ _ s; refine wpAny_bind (wpAny_field gi di (x := .int i 0) rfl ?_)
  show wpAny _ _ (seqItems? (.ref t) >>= _) _ _ s; refine wpAny_bind (wpAny_seqItems gt dt ?_)
  simp only [Int.toNat_natCast, hx]
  have hn : ∀ f, (s.heap.update it (Obj.mapFields f)).get? it = some (Obj.mapFields f oi) := fun f => Heap.get?_update_self _ gi (Obj.isFreed_of_fields (Obj.data_mapFields di _))
  refine wpAny_bind (wpAny_setField gi di (by simp) (wpAny_pure ⟨x, rfl, wpAny_pure (hQ _ ⟨_, hn _, (Obj.cls_mapFields ..).trans ci, ?_⟩ (Heap.SameBut.update ..))⟩))
  rw [Obj.data_mapFields di]; simp [rawInt]
theorem nextT_end {it t : Addr} {i : Nat} {its : Array Value} {Q : Value → Shared → Prop} (hh : A.handled = none) (hi : s.heap.IsTupleIter it t i) (ht : s.heap.IsTuple t its) (hx : its[i]? = none)
    (hE : ∀ h' e, Heap.ExtBut it s.heap h' → (∃ o, h'.get? e = some o ∧ o.cls = .type "StopIteration") → E (.ref e) { s with heap := h' }) : wpAny (model prog w) A (Builtin.SmallTypes.nextOf (.ref it)) Q E s := by
  obtain ⟨oi, gi, ci, di⟩ := id hi
  obtain ⟨ot, gt, _, nt, dt⟩ := ht
  unfold Builtin.SmallTypes.nextOf
  refine wpAny_bind (wpAny_callSpecial?_slot (name := Str.ofString "__next__") hi.typeIs PySem.F.slot_tuple_iterator_next (wpAny_call_entry PySem.F.slot_tuple_iterator_next hi.typeIs PySem.F.entry_tuple_iterator_next ?_ (PySem.F.args_tuple_iterator_next_1 _)))
  show wpAny _ _ (field (.ref it) 0 >>= _) _ _ s; refine wpAny_bind (wpAny_field gi di (x := .ref t) rfl ?_)
  show wpAny _ _ (if (Value.ref t == Value.none) = true then _ else _) _ _ s; rw [if_neg (show ¬ ((Value.ref t == Value.none) = true) from Bool.false_ne_true)]
  show wpAny _ _ (field (.ref it) 1 >>= _) _ _ s; refine wpAny_bind (wpAny_field gi di (x := .int i 0) rfl ?_)
  show wpAny _ _ (seqItems? (.ref t) >>= _) _ _ s; refine wpAny_bind (wpAny_seqItems gt dt ?_)
  simp only [Int.toNat_natCast, hx]
  refine wpAny_bind (wpAny_rule (wpAny_bind (wpAny_setField gi di (by simp) ?_)))
  show wpAny _ _ (newExc (.type "StopIteration") [] >>= _) _ _ _; refine wpAny_bind ?_
  simp only [newExc, newTuple]; refine wpAny_bind (wpAny_newObj_type ?_ (by size_fits))
  refine wpAny_bind (m := firstArgMember _ _) (wpAny_of_eq (a := Value.none) (by first | rfl | (simp only [firstArgMember]; rfl)) (wpAny_newObj_type ?_ (by size_fits)))
  simp only [raiseNew]; refine wpAny_bind (wpAny_handled ?_)
  first | rw [show A.in1.handled = none from hh] | rw [hh]
  exact wpAny_bind (wpAny_pure (wpAny_throw (hE _ _ (((Heap.SameBut.update ..).extBut.push _).push _) ⟨_, Heap.get?_push_size _ rfl, rfl⟩)))
end
section
variable {prog : Program} {w : World} {A : Around} {E : Value → Shared → Prop} {s : Shared}
end
section
variable {X : Cx} {elts : List Expr} {k : Nat} {tp : Pos}
end
end L2
/-! EvEnt: enumerate of a tuple, values of an `or`, a list taken apart. Behind EvTold and EvZip. -/
namespace L2
open PySem PySem.Spec PyProof.Rows
section
variable {prog : Program} {w : World} {A : Around} {E : Value → Shared → Prop} {s : Shared}
theorem tup_ne_it {h : Heap} {t it : Addr} {its : Array Value} {i : Nat} (p : h.IsTuple t its) (q : h.IsTupleIter it t i) : t ≠ it := fun z => by
  obtain ⟨o, ho, hc, _⟩ := q
  obtain ⟨o', ho', hc', _⟩ := p
  rw [z, ho] at ho'
  cases ho'
  rw [hc] at hc'
  exact absurd hc' (by decide)
theorem enum_ne_tup {h : Heap} {e it t : Addr} {its : Array Value} {i : Int} {old : Value} (q : IsEnum h e it i old) (p : h.IsTuple t its) : e ≠ t := fun z => by
  obtain ⟨o', ho', hc', _⟩ := p
  rw [← z, q] at ho'
  cases ho'
  exact absurd (show Value.type "enumerate" = Value.type "tuple" from hc') (by decide)
theorem drawsT (hh : A.handled = none) {it t : Addr} (hne : t ≠ it) (its : Array Value) : Draws prog w A it [it, t] its.size (fun i v => its[i]? = some v) (fun i h => h.IsTupleIter it t i ∧ h.IsTuple t its) where
  live := fun _ _ st => by
    obtain ⟨⟨o, ho, _⟩, _⟩ := st
    exact ⟨o, ho⟩
  frame := fun _ _ _ st hk => ⟨st.1.at fun o e => hk it (by simp) o e, st.2.at fun o e => hk t (by simp) o e⟩
  item := fun i s Q E hi st hQ => nextT_item st.1 st.2 (x := its[i]) (by simp [hi]) fun h' j sb => hQ _ h' s.toks (by simp [hi]) ⟨j, st.2.extBut sb.extBut hne⟩ sb
  done := fun s Q E st hE => nextT_end hh st.1 st.2 (by simp) hE
abbrev et1 (h : Heap) (t : Addr) : Heap := h.push { cls := .type "tuple_iterator", data := .fields #[.ref t, .int 0 0] }
abbrev et2 (h : Heap) (t : Addr) : Heap := (et1 h t).push { cls := .type "enumerate", data := .fields #[.none, .bool false, .ref h.objs.size, rawInt 0, .none, .none] }
theorem enumT_new (t : Addr) (its : Array Value) :
    Meets (Builtin.«enumerate.__new__» ⟨[.type "enumerate", .ref t], []⟩) (fun _ R s => s.heap.IsTuple t its ∧ R (.ok (.ret (.ref (et1 s.heap t).objs.size))) { s with heap := et2 s.heap t }) :=
  .of_wp fun prog w A R s h => by
    obtain ⟨hp, g, d, tk, os⟩ := s; obtain ⟨g1, h⟩ := h
    have hsub := sub_enumerate
    have a1 : Heap.IsTuple (Shared.heap ⟨hp, g, d, tk, os⟩) t its := g1
    obtain ⟨⟨oc, od, odt, osl⟩, hl, hc, n, hd⟩ := id g1
    replace hc : oc = .type "tuple" := hc
    replace hd : odt = .seq its n := hd
    subst hc hd
    wp_walk using AutoSeq1.wpAny_loadPart' hl
    refine wpAny_stack_any fun st => wpAny_pure ?_
    split
    · rename_i c _ _ _ _ _
      cases (c == Value.type "enumerate")
      · wp_walk using AutoSeq1.wpAny_loadPart' hl, wpAny_pyIter_tuple a1
        exact ⟨_, rfl, h⟩
      · wp_walk using AutoSeq1.wpAny_loadPart' hl, wpAny_pyIter_tuple a1
        exact ⟨_, rfl, h⟩
    · wp_walk using AutoSeq1.wpAny_loadPart' hl, wpAny_pyIter_tuple a1
      exact ⟨_, rfl, h⟩
theorem call_enumT {t : Addr} {its : Array Value} {Q : Value → Shared → Prop} (g1 : s.heap.IsTuple t its)
    (h : ∀ h', IsEnum h' (s.heap.objs.size + 1) s.heap.objs.size 0 .none → h'.IsTupleIter s.heap.objs.size t 0 → (∀ c o, s.heap.get? c = some o → h'.get? c = some o) → Q (.ref (s.heap.objs.size + 1)) { s with heap := h' }) :
    wpAny (model prog w) A (call (.type "enumerate") [.ref t]) Q E s := by
  refine callType_new PySem.F.called_enumerate (by decide) (PySem.F.typeCall_enumerate_1 _) (PySem.F.newCall_enumerate_1 _) (fun obj => PySem.F.args_object_init_2 obj _) PySem.F.entry_enumerate_new (enumT_new t its) ⟨g1, ?_⟩
  have n1 : (et1 s.heap t).objs.size = s.heap.objs.size + 1 := Heap.size_push ..
  have q2 : (et2 s.heap t).get? (et1 s.heap t).objs.size = some _ := Heap.get?_push_size _ rfl
  have q1 : (et2 s.heap t).get? s.heap.objs.size = some _ := Heap.get?_push_of_some _ (Heap.get?_push_size _ rfl)
  show _ ∧ _
  rw [n1] at q2
  rw [n1]
  exact ⟨⟨_, q2, rfl⟩, h _ q2 ⟨_, q1, rfl, rfl⟩ fun c o q => Heap.get?_push_of_some _ (Heap.get?_push_of_some _ q)⟩
end
/-- the pairs (number, item) of a tuple -/
def Itet (K : PySem.W.Frag) (a : Addr) : It :=
  ⟨fun i H => ∃ xs x, SqT K H a xs ∧ xs[i]? = some x, fun i H v H' => ∃ T x, (∀ xs, SqT K H a xs → xs[i]? = some x) ∧ H T = none ∧ v = .ref T ∧ H' = upd H T (.tup [.int (i : Nat), x]), fun i H => ∃ xs, SqT K H a xs ∧ xs.length = i⟩
theorem turn_enumT {P : Program} {w : World} {K : PySem.W.Frag} {elts : List Expr} {k : Nat} {tp : Pos} (l e it : Addr) (hei : e ≠ it) : Turn P w K (.Tuple elts k tp) (Itet K l) [e, it] e (fun i h => (∃ old, IsEnum h e it ((i : Nat) : Int) old) ∧ h.IsTupleIter it l i) where
  mem := by simp
  obj := fun i h st b hb => by
    obtain ⟨⟨old, he⟩, o, ho, hc, hd⟩ := st
    simp only [List.mem_cons, List.not_mem_nil, or_false] at hb
    rcases hb with rfl | rfl
    · exact ⟨_, he, fun v z => by cases z⟩
    · exact ⟨o, ho, fun v z => by rw [hd] at z; cases z⟩
  keep := fun i h h' st kp => ⟨⟨_, kp e (by simp) _ st.1.choose_spec⟩, st.2.at fun o q => kp it (by simp) o q⟩
  item := by
    intro X hP hw hK hc i pins s σ H E I hf st hg
    subst hP hw hK
    obtain ⟨xs, x, hq, hx⟩ := hg
    obtain ⟨its, rv, p, hz⟩ := I.tuple hq
    obtain ⟨u, hu, ru⟩ := rv.get hx
    obtain ⟨⟨old, he⟩, hit⟩ := st
    have hlt : ∀ b ∈ [e, it], b ≠ s.heap.objs.size := fun b hb z => by
      simp only [List.mem_cons, List.not_mem_nil, or_false] at hb
      rcases hb with rfl | rfl
      · exact absurd (z ▸ Heap.lt_size he) (Nat.lt_irrefl _)
      · obtain ⟨_, ho, _⟩ := hit
        exact absurd (z ▸ Heap.lt_size ho) (Nat.lt_irrefl _)
    have fr : H s.heap.objs.size = none := I.hok.fresh (Nat.le_refl _)
    have p' : s.heap.IsTuple l its.toArray := p
    have hlen := rv.length
    have hil := (List.getElem?_eq_some_iff.mp hx).1
    refine wpAny_pyNext_enum_itemD (drawsT (show X.A.in1.handled = none from I.ok.hd hc) (tup_ne_it p' hit) its.toArray) he ⟨hit, p'⟩ (by rw [List.size_toArray]; omega) hei (by
      simp only [List.mem_cons, List.not_mem_nil, or_false, not_or]
      exact ⟨hei, enum_ne_tup he p'⟩) fun y h' tk hy ho hit2 hT hsz hk => ?_
    have hit' := hit2.1
    have ey : y = u := by
      rw [List.getElem?_toArray, hu] at hy
      exact (Option.some.inj hy).symm
    subst ey
    have I1 : Inv X pins σ H { s with heap := h', toks := tk + 1 } := I.turnedL (wr := [e, it]) (fun b o hb q => hk b o (fun z => hb (by simp [z])) (fun z => hb (by simp [z])) q) hf
    have I2 : Inv X pins σ (upd H s.heap.objs.size (.tup [.int (i : Nat), x])) { s with heap := h', toks := tk + 1 } := I.tracked I1 (Nat.le_refl _) ⟨by show 2 ≤ sizeLine; decide, [.int i tk, y], .cons ⟨_, rfl⟩ (.cons ru .nil), ⟨_, hT, rfl, _, rfl⟩⟩
    have hf2 : ∀ b ∈ [e, it], FpOk X pins (upd H s.heap.objs.size (.tup [.int (i : Nat), x])) b := fun b hb => by
      obtain ⟨f0, f1, f2, f3, f4, f5⟩ := hf b hb
      exact ⟨by rw [upd_ne (hlt b hb)]; exact f0, f1, f2, f3, f4, f5⟩
    refine ⟨_, rfl, wpAny_letOwnedTupleGo_enum ho fun h'' he' hs' => ?_⟩
    refine ⟨.ref s.heap.objs.size, _, I2.turnedL (wr := [e]) (t' := tk + 1) (fun b o hb q => (hs'.2 b (fun z => hb (by simp [z]))).trans q) (fun b hb => hf2 b (by rw [List.mem_singleton.mp hb]; simp)), rfl, ⟨_, x, fun ys hy => by rw [I.tuple_inj hy hq]; exact hx, fr, rfl, rfl⟩, ⟨⟨_, by simpa using he'⟩, hit'.at fun o q => (hs'.2 it hei.symm).trans q⟩, fun b hb => (hf2 b hb).1⟩
  done := by
    intro X hP hw hK hc i pins s σ H E I hf st hg
    subst hP hw hK
    obtain ⟨xs, hq, hx⟩ := hg
    obtain ⟨its, rv, p, hz⟩ := I.tuple hq
    have hl := rv.length
    obtain ⟨⟨old, he⟩, hit⟩ := st
    have p' : s.heap.IsTuple l its.toArray := p
    have hsz : its.toArray.size = i := by rw [List.size_toArray]; omega
    have D := drawsT (prog := X.prog) (w := X.w) (show X.A.in1.handled = none from I.ok.hd hc) (tup_ne_it p' hit) its.toArray
    rw [hsz] at D
    exact wpAny_pyNext_enum_endD D he ⟨hit, p'⟩ fun h' eb => ⟨rfl, I.turnedL (wr := [it]) (t' := s.toks) (fun b o hb q => eb b o (fun z => hb (by simp [z])) q) (fun b hb => hf b (by rw [List.mem_singleton.mp hb]; simp))⟩
  self := fun _ _ _ _ _ st h => wpAny_pyIter_enum st.1.choose_spec h
section
variable {X : Cx} {elts : List Expr} {k : Nat} {tp : Pos}
def iEnumT (K : PySem.W.Frag) (ta : TA) : TI := fun σ H R => ta σ H fun vs H1 => ∃ a, vs = [.ref a] ∧ (∃ xs, SqT K H1 a xs) ∧ R (Itet K a) H1
theorem pi_enumT {a : Expr} {ta : TA} {p pos : Pos} (hg : Gl X "enumerate") (hm : X.mg "enumerate" = none) (ha : PA X [a] ta) (hs : starEach [a] X.env = [(false, eval a X.env)] := by rfl) : PI X (.Tuple elts k tp) (.Call (.Name "enumerate" p) [a] [] pos) (iEnumT X.K ta) := by
  intro pins s σ H R I h
  refine Call_ (ld_blt I hg hm (show bootBuiltins "enumerate" = some (.type "enumerate") by decide +kernel) (PyProof.Rows.callWith_type1 (thn (ha pos pins s σ H _ I h) fun us s1 ⟨vs, H1, I1, r1, q1⟩ => ?_) (by rw [hs]; rfl) (by rfl)))
  obtain ⟨a, e, ⟨xs, hq⟩, q⟩ := q1
  subst e
  obtain ⟨u, rfl, rx⟩ := vals1 r1
  cases rx
  obtain ⟨its, rv, pl, hz⟩ := I1.tuple hq
  refine call_enumT pl fun h' he hit kp => ?_
  have I2 : Inv X pins σ H1 { s1 with heap := h' } := I1.kept (t' := s1.toks) kp
  refine wpAny_pyIter_enum he ?_
  refine ⟨s1.heap.objs.size + 1, [s1.heap.objs.size + 1, s1.heap.objs.size], _, _, H1, rfl, I2, turn_enumT a _ _ (Nat.succ_ne_self _), ⟨⟨_, he⟩, hit⟩, fun b hb => ?_, q⟩
  simp only [List.mem_cons, List.not_mem_nil, or_false] at hb
  rcases hb with rfl | rfl
  · exact I1.fpOk (Nat.le_succ _) (I1.hok.fresh (Nat.le_succ _))
  · exact I1.fpOk (Nat.le_refl _) (I1.hok.fresh (Nat.le_refl _))
theorem qi_enumT {a : Expr} {ta : TA} {p pos : Pos} (hg : Gl X "enumerate") (hm : X.mg "enumerate" = none) (ha : QA X [a] ta) (hs : starEach [a] X.env = [(false, eval a X.env)] := by rfl) : QI X (.Tuple elts k tp) (.Call (.Name "enumerate" p) [a] [] pos) (iEnumT X.K ta) := ⟨pi_enumT hg hm ha.h hs⟩
end
theorem for_enumT {K : PySem.W.Frag} {a : Addr} {xs : List V} {g : TG} {tb : TS} {D : Ends} {σ : St} {H : Hp} (Pv : Nat → St → Hp → Prop) (h0 : Pv 0 σ H) (hl : ∀ i σ H, i ≤ xs.length → Pv i σ H → SqT K H a xs)
    (hs : ∀ i x T σ H, xs[i]? = some x → Pv i σ H → H T = none → g (.ref T) σ (upd H T (.tup [.int (i : Nat), x])) fun σ2 H2 => tb { D with nx := Pv (i + 1), ct := Pv (i + 1), bk := D.nx } σ2 H2) (hd : ∀ σ H, Pv xs.length σ H → D.nx σ H) :
    ∃ W : Nat → Nat → St → Hp → Prop, (∃ m, W 0 m σ H) ∧ ∀ i m σ H, W i m σ H →
      ((Itet K a).stop i H ∧ D.nx σ H) ∨ ((Itet K a).go i H ∧ ∃ N : St → Hp → Prop, (∀ σ' H', N σ' H' → ∃ m', m' < m ∧ W (i + 1) m' σ' H') ∧ ∀ x H', (Itet K a).yld i H x H' → g x σ H' fun σ2 H2 => tb { D with nx := N, ct := N, bk := D.nx } σ2 H2) := by
  refine ⟨fun i m σ H => m = xs.length - i ∧ i ≤ xs.length ∧ Pv i σ H, ⟨xs.length, by simp, Nat.zero_le _, h0⟩, ?_⟩
  rintro i m σ H ⟨rfl, hi, p⟩
  have q := hl i σ H hi p
  by_cases hlt : i < xs.length
  · refine .inr ⟨⟨xs, xs[i], q, by simp [hlt]⟩, Pv (i + 1), fun σ' H' p' => ⟨xs.length - (i + 1), by omega, rfl, hlt, p'⟩, fun v H' y => ?_⟩
    obtain ⟨T, x, hx, hT, rfl, rfl⟩ := y
    exact hs i x T σ _ (hx xs q) p hT
  · have e : i = xs.length := by omega
    subst e
    exact .inl ⟨⟨xs, q, rfl⟩, hd σ H p⟩
end L2
/-! EvNil: a list != [], whatever stands in it. Behind EvLay. -/
namespace L2
open PySem PySem.Spec PyProof.Rows
end L2
namespace L2
open PySem PySem.Spec PyProof.Rows
end L2
/-! EvExt: list.extend by a tuple. Behind EvLay. -/
namespace L2
open PySem PySem.Spec PyProof.Rows
theorem ext_tup (l : Addr) (items : Array Value) (n : Nat) (b : Addr) (od : Option Addr) (osl : Array (Option Value)) (items2 : Array Value) (n2 : Nat) (hs0 : ¬(!items.isEmpty && Builtin.List.listTooLong (items.size + items2.size)) = true) (hs1 : items.size ≤ sizeLine) (hs2 : items.size + items2.size ≤ sizeLine + 1) :
    Meets (Builtin.«list.extend» ⟨[.ref l, .ref b], []⟩) (fun _ R s => s.heap.get? l = some { cls := .type "list", dict := none, data := .seq items n, slots := #[] } ∧ s.heap.get? b = some { cls := .type "tuple", dict := od, data := .seq items2 n2, slots := osl } ∧ R (.ok (.ret Value.none)) { s with heap := s.heap.update l (Obj.mapSeq fun x => x ++ items2), toks := s.toks }) :=
  .of_wp fun prog w A R s h => by
    obtain ⟨hp, g, d, tk, os⟩ := s; obtain ⟨hl, hb, h⟩ := h; have f1 := AutoSeq1.idx_int; have f2 := AutoSeq1.sub_tuple_tuple; have f3 := AutoSeq1.sub_list_list; have f4 := AutoSeq1.sub_tuple_list; have f5 := AutoSeq1.sub_list_tuple;
    have hz' : (items ++ items2).size ≤ sizeLine + 1 := by rw [Array.size_append]; exact hs2
    wp_walk using (wpAny_updateSeq hl rfl (hz := hs1) (_hz' := hz')), AutoSeq1.wpAny_loadPart' hl, AutoSeq1.wpAny_loadPart' hb; exact ⟨_, rfl, h⟩
def rExtT : V → List V → Hp → VK → Prop := fun x vs H Q => ∃ l b xs zs, x = .ref l ∧ vs = [.ref b] ∧ H l = some (.lst xs) ∧ H b = some (.tup zs) ∧ xs.length + zs.length ≤ sizeLine ∧ Q .non (upd H l (.lst (xs ++ zs)))
theorem mt_extendT {X : Cx} : MtM X "list.extend" rExtT := by
  intro pins s σ H x vs v us Q I rx rv h
  obtain ⟨l, b, xs, zs, rfl, rfl, hH, hB, hz, q⟩ := h
  cases rx
  obtain ⟨u, rfl, ru⟩ := rv.one
  cases ru
  obtain ⟨z, its, n, r, hl, e⟩ := I.lstM hH
  obtain ⟨_, its2, r2, o, ho, hc, n2, hd⟩ := (show ObjOk X.prog X.w H s.heap b (.tup zs) from I.hok b _ hB)
  obtain ⟨oc, od, oda, osl⟩ := o
  dsimp only at hc hd
  subst hc hd
  have hl2 := r2.length
  have hsz : its.toArray.size + its2.toArray.size ≤ sizeLine := by rw [List.size_toArray, List.size_toArray]; omega
  have hlong : ¬ (!its.toArray.isEmpty && Builtin.List.listTooLong (its.toArray.size + its2.toArray.size)) = true := by
    rw [notLongL hsz, Bool.and_false]
    exact Bool.false_ne_true
  refine call_meets F.slot_list_extend ⟨_, e, rfl⟩ F.entry_list_extend (F.args_list_extend_2 _ _)
    (ext_tup l its.toArray n b od osl its2.toArray n2 hlong (by rw [List.size_toArray]; omega) (Nat.le_succ_of_le hsz)) ⟨e, ho, ?_⟩
  refine ⟨.non, _, I.lset (its' := its ++ its2) hH e (by simp) (r.append r2) ?_, rfl, q⟩
  rw [List.length_append]
  omega
end L2
namespace L2
open PySem PySem.Spec PyProof.Rows
/-! ### lists of pairs as tables -/
section
variable {κ : Type} [DecidableEq κ]
end


/-! ### a tracked dict, its keys ints and texts or tuples of these -/
section
variable {P : Program} {w : World} {H : Hp} {h : Heap} {a : Addr}
end

section
variable {X : Cx} {pins : List (Addr × Obj)} {σ : St} {H : Hp} {s : Shared} {a : Addr} {y v : V} {u r : Value} {o : Option V} {A : Around} {E : Value → Shared → Prop}


end

section
variable {X : Cx} {pins : List (Addr × Obj)} {σ : St} {H : Hp} {s : Shared} {a : Addr} {kvs : List (Key × V)} {k : Key} {u : Value} {A : Around} {E : Value → Shared → Prop}
end


/-! ### readings and rules -/
section
variable {X : Cx} {o i e value : Expr} {pos pos' tpos : Pos} {td ty tv : TE}
end
section
variable {X : Cx} {pos : Pos}
end
end L2
/-! EvSrt: sorted of pairs of numbers with unlike first numbers: by the first number. Behind EvSort. -/
namespace L2
open PySem PySem.Spec PyProof.Rows PySem.W
section
variable (key : Nat → Int)
variable {key}
end
section
variable {prog : Program} {w : World} {A : Around} {E : Value → Shared → Prop} {s : Shared}
end
end L2
/-! EvLex: sorted of tuples of numbers, like ones and empty ones among them: by the order of rows. Behind EvSrt. -/
namespace L2
open PySem PySem.Spec PyProof.Rows PySem.W
/-- rows of numbers, one ahead of the other -/
def lexB : List Int → List Int → Bool
  | _, [] => false
  | [], _ :: _ => true
  | x :: xs, y :: ys => if x = y then lexB xs ys else decide (x < y)
theorem lex_irr : ∀ a : List Int, lexB a a = false
  | [] => rfl
  | x :: a => by
    rw [lexB, if_pos rfl]
    exact lex_irr a
theorem lex_trans : ∀ {a b c : List Int}, lexB a b = true → lexB b c = true → lexB a c = true
  | _, _, [], _, h2 => by cases h2' : (‹List Int› : List Int) <;> simp_all [lexB]
  | [], _, _ :: _, _, _ => rfl
  | _ :: _, [], _ :: _, h1, _ => by simp [lexB] at h1
  | x :: a, y :: b, z :: c, h1, h2 => by
    rw [lexB] at h1 h2 ⊢
    by_cases e1 : x = y
    · rw [if_pos e1] at h1
      subst e1
      by_cases e2 : x = z
      · rw [if_pos e2] at h2 ⊢
        exact lex_trans h1 h2
      · rw [if_neg e2] at h2 ⊢
        exact h2
    · rw [if_neg e1] at h1
      have l1 := of_decide_eq_true h1
      by_cases e2 : y = z
      · subst e2
        rw [if_neg e1]
        exact h1
      · rw [if_neg e2] at h2
        have l2 := of_decide_eq_true h2
        rw [if_neg (by omega)]
        exact decide_eq_true (by omega)
theorem lex_tri : ∀ {a b : List Int}, lexB a b = false → lexB b a = false → a = b
  | [], [], _, _ => rfl
  | [], _ :: _, h, _ => by simp [lexB] at h
  | _ :: _, [], _, h => by simp [lexB] at h
  | x :: a, y :: b, h1, h2 => by
    rw [lexB] at h1 h2
    by_cases e : x = y
    · rw [if_pos e] at h1
      rw [if_pos e.symm] at h2
      rw [e, lex_tri h1 h2]
    · rw [if_neg e] at h1
      rw [if_neg (fun z => e z.symm)] at h2
      have l1 := of_decide_eq_false h1
      have l2 := of_decide_eq_false h2
      omega
theorem countP_lt {α : Type} {p q : α → Bool} : ∀ {l : List α}, (∀ x ∈ l, p x = true → q x = true) → ∀ {a : α}, a ∈ l → q a = true → p a = false → l.countP p < l.countP q
  | [], _, _, h, _, _ => nomatch h
  | x :: l, h, a, ha, hq, hp => by
    have hle := List.countP_mono_left (l := l) (p := p) (q := q) fun y hy => h y (List.mem_cons_of_mem _ hy)
    rw [List.countP_cons, List.countP_cons]
    rcases List.mem_cons.mp ha with e | e
    · subst e
      rw [hq, hp]
      simp
      omega
    · have := countP_lt (l := l) (fun y hy => h y (List.mem_cons_of_mem _ hy)) e hq hp
      have h1 := h x (List.mem_cons_self ..)
      cases hpx : p x
      · simp
        omega
      · rw [h1 hpx]
        simp
        omega
section
variable {key : Nat → Int}
end
/-- a tuple of numbers, in the heap -/
def TupI (h : Heap) (v : Value) (xs : List Int) : Prop := ∃ (a : Addr) (o : Obj) (its : Array Value) (k : Nat), v = .ref a ∧ h.get? a = some o ∧ o.cls = .type "tuple" ∧ o.data = .seq its k ∧ PyProof.Rows.IntsAre its.toList xs
section
variable {prog : Program} {w : World} {A : Around} {E : Value → Shared → Prop} {s : Shared}
theorem TupI.typeIs {v : Value} {xs : List Int} (h : TupI s.heap v xs) : s.TypeIs v "tuple" := by
  obtain ⟨a, o, its, k, rfl, ho, hc, _⟩ := h
  exact ⟨o, ho, hc⟩
theorem tuple_lt_tree {x y : List Int} {a b : Addr} {P : Fin → Shared → Prop} (hx : TupI s.heap (.ref a) x) (hy : TupI s.heap (.ref b) y) (h : P (.done (.ret (.bool (lexB x y)))) s) :
    wpAny (model prog w) A (Builtin.«tuple.__lt__» ⟨[.ref a, .ref b], []⟩) P E s := by
  have hTb := hy.typeIs
  obtain ⟨_, oa, xs, na, ea, hoa, _, hda, hia⟩ := hx
  obtain ⟨_, ob, ys, nb, eb, hob, _, hdb, hib⟩ := hy
  cases ea
  cases eb
  show wpAny _ _ (isInstance (.ref b) (.type "tuple") >>= _) _ _ s
  refine wpAny_bind (wpAny_isInstance hTb isSubtype_tuple_tuple ?_)
  simp only [Bool.not_true, Bool.false_eq_true, if_false]
  refine wpAny_bind (wpAny_tupleItemsOf hoa hda ?_)
  refine wpAny_bind (wpAny_tupleItemsOf hob hdb ?_)
  refine wpAny_bind ?_
  refine wpAny_forIn_list _
    (fun rest r s' => r.1 = none ∧ s' = s ∧ ∃ x' y' xs' ys', rest = List.zip xs' ys' ∧ PyProof.Rows.IntsAre xs' x' ∧ PyProof.Rows.IntsAre ys' y' ∧ lexB x' y' = lexB x y ∧ decide (xs'.length < ys'.length) = decide (xs.size < ys.size))
    _ ?_ ?_ _ _ ⟨rfl, rfl, x, y, xs.toList, ys.toList, rfl, hia, hib, rfl, by simp⟩
  · rintro ⟨u, v⟩ rest r s' ⟨hr, rfl, x', y', xs', ys', hz, hx', hy', hdec, hlen⟩
    cases hx' with
    | nil => simp at hz
    | cons k1 t1 hx'' =>
      cases hy' with
      | nil => simp at hz
      | cons k2 t2 hy'' =>
        simp only [List.zip_cons_cons, List.cons.injEq, Prod.mk.injEq] at hz
        obtain ⟨⟨rfl, rfl⟩, rfl⟩ := hz
        refine wpAny_bind (wpAny_eqBool_int ?_)
        rw [lexB] at hdec
        by_cases hk : k1 = k2
        · rw [if_pos hk] at hdec
          rw [show (k1 == k2) = true by simp [hk]]
          simp only [Bool.not_true, Bool.false_eq_true, if_false]
          exact wpAny_pure ⟨rfl, rfl, _, _, _, _, rfl, hx'', hy'', hdec, by rw [← hlen, List.length_cons, List.length_cons]; congr 1; simp⟩
        · rw [if_neg hk] at hdec
          rw [show (k1 == k2) = false by simp [hk]]
          simp only [Bool.not_false, if_true]
          rw [← hdec] at h
          refine wpAny_bind (wpAny_rule ?_)
          refine wpAny_bind ?_
          exact (show wpAny (model prog w) A (compareOp .Lt (.int k1 t1) (.int k2 t2)) _ E s' from lt_int (wpAny_bind (wpAny_pure (wpAny_pure (wpAny_pure h)))))
  · rintro ⟨r1, r2⟩ s' ⟨hr, rfl, x', y', xs', ys', hz, hx', hy', hdec, hlen⟩
    simp only at hr
    subst hr
    refine wpAny_pure ?_
    have hfin : decide (xs.size < ys.size) = lexB x y := by
      rw [← hdec, ← hlen]
      cases hx' with
      | nil =>
        cases hy' with
        | nil => rfl
        | cons _ _ _ => simp [lexB]
      | cons _ _ _ =>
        cases hy' with
        | nil => simp [lexB]
        | cons _ _ _ => simp at hz
    show P (.done (.ret (.bool (decide (xs.size < ys.size))))) s'
    rw [hfin]
    exact h
theorem call_tuple_lt {x y : List Int} {a b : Addr} {Q : Value → Shared → Prop} (hx : TupI s.heap (.ref a) x) (hy : TupI s.heap (.ref b) y) (h : Q (.bool (lexB x y)) s) : wpAny (model prog w) A (call (.builtin "tuple.__lt__") [.ref a, .ref b]) Q E s :=
  wpAny_call_entry F.slot_tuple_lt hx.typeIs F.entry_tuple_lt (tuple_lt_tree hx hy ⟨_, rfl, h⟩) (F.args_tuple_lt_2 _ _)
theorem collect_tup {l : Addr} {vs : List Value} {Q : List Value → Shared → Prop} (hl : s.heap.IsTuple l vs.toArray)
    (h : Q vs { s with heap := (s.heap.push (seqObj "list" #[] 0)).update s.heap.objs.size (Obj.mapSeq (· ++ vs.toArray)) }) (hsz : vs.length ≤ sizeLine) :
    wpAny (model prog w) A (collect (.ref l)) Q E s := by
  obtain ⟨o, ho, hc, n, hd⟩ := id hl
  unfold collect
  refine wpAny_bind (wpAny_runValue (codeAny_builtin entry_proto_collect' ?_))
  show wpAny _ _ (do again (.builtin "list.__iadd__" ⟨[← newList [], .ref l], []⟩)) _ _ s
  refine wpAny_bind (wpAny_newList (wpAny_pure ⟨Code.quiet_builtin _ (by decide +kernel), codeAny_builtin entry_list_iadd' ?_⟩))
  show wpAny _ _ (Builtin.List.listExtendWith (.ref s.heap.objs.size) (.ref l) (.ref s.heap.objs.size)) _ _ { s with heap := s.heap.push (seqObj "list" #[] 0) }
  unfold Builtin.List.listExtendWith
  have ho' : (s.heap.push (seqObj "list" #[] 0)).get? l = some o := Heap.get?_push_of_some _ ho
  refine wpAny_bind (wpAny_typeOf (T := "tuple") ⟨o, ho', hc⟩ ?_)
  have ht : (Value.type "tuple" == Value.type "tuple") = true := by rfl
  rw [if_pos (by rw [ht]; simp)]
  refine wpAny_bind (listItems_at ho' hd ?_)
  refine wpAny_bind (listItems_at (xs := #[]) (n := 0) (Heap.get?_push_size _ rfl) rfl ?_)
  rw [if_neg (by simp)]
  refine wpAny_bind (listUpdate_at (xs := #[]) (n := 0) (Heap.get?_push_size _ rfl) rfl ?_ (Nat.zero_le _) (by show (#[] ++ vs.toArray).size ≤ sizeLine + 1; simp only [Array.size_append, List.size_toArray, List.length_nil]; omega))
  refine wpAny_pure ?_
  show wpAny (model prog w) A (do
      let o ← load s.heap.objs.size
      match o.data with
      | .seq xs _ => pure xs.toList
      | _ => unsupported "internal:collect") Q E { s with heap := (s.heap.push (seqObj "list" #[] 0)).update s.heap.objs.size (Obj.mapSeq (· ++ vs.toArray)) }
  refine wpAny_bind (wpAny_load (get?_update_seq (Heap.get?_push_size _ rfl) _) ?_)
  show wpAny _ _ (pure ((#[] : Array Value) ++ vs.toArray).toList) Q E _
  rw [show ((#[] : Array Value) ++ vs.toArray).toList = vs by simp]
  exact wpAny_pure h
end
end L2
/-! EvTim: the model's whole sort (runs, galloping, merging) over any list: by keys. -/
namespace L2
open PySem PyProof.Rows
def gal : Bool → Keyed → Array Keyed → Nat → Nat → Nat → StateT SortSt Sem (Option Nat) := sortPriv% PySem.Builtin.gallop
def mLo : Array Keyed → Array Keyed → StateT SortSt Sem (Array Keyed) := sortPriv% PySem.Builtin.mergeLo
def mHi : Array Keyed → Array Keyed → StateT SortSt Sem (Array Keyed) := sortPriv% PySem.Builtin.mergeHi
/-- comparisons of the things of U go by their keys, and change nothing -/
def Cm (prog : Program) (w : World) (A : Around) (κ : SortKind) (key : Keyed → Int) (U : Keyed → Prop) (s : Shared) : Prop :=
  ∀ (x y : Keyed) (Q : Bool → Shared → Prop) (E' : Value → Shared → Prop), U x → U y → Q (decide (key x < key y)) s → wpAny (model prog w) A (keyLt' κ x.1 y.1) Q E' s
def bey (left : Bool) (k : Keyed) (arr : Array Keyed) (base i : Nat) : StateT SortSt Sem (Option Bool) := elem' arr (base + i) >>= fun x => if left = true then lt' x k else lt' k x >>= fun r => pure (r.map fun z => !z)
section
variable {prog : Program} {w : World} {A : Around} {E : Value → Shared → Prop} {s : Shared} {κ : SortKind} {key : Keyed → Int} {U : Keyed → Prop} {st : SortSt}
theorem wpS_el {arr : Array Keyed} {i : Nat} {x : Keyed} {Q : Keyed → SortSt → Prop} (e : arr[i]? = some x) (h : Q x st) : wpS (model prog w) A E s (elem' arr i) Q st := by
  rw [elem'_eq, e]
  exact wpS_pure h
theorem wpS_lt2 {x y : Keyed} {Q : Option Bool → SortSt → Prop} (hc : Cm prog w A κ key U s) (hk : kindOf st = κ) (hx : U x) (hy : U y) (h : Q (some (decide (key x < key y))) st) : wpS (model prog w) A E s (lt' x y) Q st := by
  rw [lt'_eq]
  refine wpS_bind (wpS_get ?_)
  rw [hk]
  refine wpS_bind (wpS_lift (wpAny_attempt (hc x y _ _ hx hy ⟨rfl, ?_⟩)))
  exact wpS_pure h
/-- what an item of the run is to the key -/
def Pb (key : Keyed → Int) (left : Bool) (k : Keyed) (arr : Array Keyed) (base i : Nat) : Bool := match arr[base + i]? with
  | some x => if left = true then decide (key x < key k) else !decide (key k < key x)
  | none => false
theorem wpS_bey {left : Bool} {k : Keyed} {arr : Array Keyed} {base i : Nat} {Q : Option Bool → SortSt → Prop} (hc : Cm prog w A κ key U s) (hk : kindOf st = κ) (hx : U k) (hi : base + i < arr.size) (hy : ∀ x, arr[base + i]? = some x → U x) (h : Q (some (Pb key left k arr base i)) st) : wpS (model prog w) A E s (bey left k arr base i) Q st := by
  have e : arr[base + i]? = some arr[base + i] := getElem?_pos arr (base + i) hi
  unfold bey
  refine wpS_bind (wpS_el e ?_)
  unfold Pb at h
  rw [e] at h
  dsimp only at h
  cases left with
  | true =>
    rw [if_pos rfl] at h ⊢
    exact wpS_lt2 hc hk (hy _ e) hx h
  | false =>
    rw [if_neg (by decide)] at h ⊢
    exact wpS_bind (wpS_lt2 hc hk hx (hy _ e) (wpS_pure h))
theorem wpS_gal {left : Bool} {k : Keyed} {arr : Array Keyed} {base n hint : Nat} {Q : Option Nat → SortSt → Prop} (hc : Cm prog w A κ key U s) (hk : kindOf st = κ) (hx : U k) (hn : base + n ≤ arr.size) (hy : ∀ i x, i < n → arr[base + i]? = some x → U x)
    (hm : ∀ i j, i ≤ j → j < n → Pb key left k arr base j = true → Pb key left k arr base i = true) (hh : hint < n)
    (h : ∀ m, m ≤ n → (∀ i, i < m → Pb key left k arr base i = true) → (∀ i, m ≤ i → i < n → Pb key left k arr base i = false) → Q (some m) st) : wpS (model prog w) A E s (gal left k arr base n hint) Q st := by
  have hB : ∀ i, i < n → ∀ Q' : Option Bool → SortSt → Prop, Q' (some (Pb key left k arr base i)) st → wpS (model prog w) A E s (bey left k arr base i) Q' st := fun i hi Q' q => wpS_bey hc hk hx (by omega) (fun x => hy i x hi) q
  have hF : ∀ i j, i ≤ j → j < n → Pb key left k arr base i = false → Pb key left k arr base j = false := fun i j hij hj e => by
    cases e2 : Pb key left k arr base j
    · rfl
    · rw [hm i j hij hj e2] at e
      cases e
  generalize Pb key left k arr base = P at *
  refine wpS_bind (hB hint hh _ ?_)
  dsimp -zeta only
  extract_lets jp
  have hj : ∀ u a b lo hi, lo ≤ hi → hi ≤ n → (∀ i, i < lo → P i = true) → (∀ i, hi ≤ i → i < n → P i = false) → wpS (model prog w) A E s (jp u a b lo hi) Q st := fun u a b lo hi h1 h2 h3 h4 => ?fin
  clear_value jp
  case fin =>
    refine wpS_bind (wpS_mono (wpS_forRange (I := fun x c st' => st' = st ∧ ∃ lo hi, c = (none, lo, hi) ∧ lo ≤ hi ∧ hi ≤ n ∧ hi - lo ≤ n - x ∧ (∀ i, i < lo → P i = true) ∧ (∀ i, hi ≤ i → i < n → P i = false))
      (Q := fun c st' => st' = st ∧ ∃ hi, c = (none, hi, hi) ∧ hi ≤ n ∧ (∀ i, i < hi → P i = true) ∧ (∀ i, hi ≤ i → i < n → P i = false)) ?_ ?_ ⟨rfl, lo, hi, rfl, h1, h2, by omega, h3, h4⟩) ?_)
    · rintro x c st' _ hxn ⟨rfl, lo, hi, rfl, q1, q2, q3, q4, q5⟩
      dsimp only
      by_cases e : lo ≥ hi
      · rw [if_pos e]
        have : lo = hi := by omega
        subst this
        exact wpS_pure ⟨rfl, lo, rfl, q2, q4, q5⟩
      · rw [if_neg e]
        refine wpS_bind (hB (lo + (hi - lo) / 2) (by omega) _ ?_)
        dsimp only
        cases e2 : P (lo + (hi - lo) / 2)
        · rw [if_neg (by decide)]
          exact wpS_pure ⟨rfl, lo, _, rfl, by omega, by omega, by omega, q4, fun i z1 z2 => hF _ i z1 z2 e2⟩
        · rw [if_pos rfl]
          exact wpS_pure ⟨rfl, _, hi, rfl, by omega, by omega, by omega, fun i z => hm i _ (Nat.le_of_lt_succ z) (by omega) e2, q5⟩
    · rintro c st' ⟨rfl, lo, hi, rfl, q1, q2, q3, q4, q5⟩
      have : lo = hi := by omega
      subst this
      exact ⟨rfl, lo, rfl, q2, q4, q5⟩
    · rintro c st' ⟨rfl, hi, rfl, q2, q4, q5⟩
      exact wpS_pure (h hi q2 q4 q5)
  cases e0 : P hint
  · rw [if_neg (by decide)]
    refine wpS_bind (wpS_mono (wpS_forRange (I := fun x c st' => st' = st ∧ ∃ l o, c = (none, l, o) ∧ l < o ∧ l ≤ hint ∧ x + 1 ≤ o ∧ P (hint - l) = false)
      (Q := fun c st' => st' = st ∧ ∃ l o, c = (none, l, o) ∧ l < o ∧ l ≤ hint ∧ P (hint - l) = false ∧ (o ≤ hint → P (hint - o) = true)) ?_ ?_ ⟨rfl, 0, 1, rfl, by omega, by omega, by omega, e0⟩) ?_)
    · rintro x c st' _ hxn ⟨rfl, l, o, rfl, q1, q2, q3, q4⟩
      dsimp only
      by_cases e : o ≥ hint + 1
      · rw [if_pos e]
        exact wpS_pure ⟨rfl, l, o, rfl, q1, q2, q4, fun z => by omega⟩
      · rw [if_neg e]
        refine wpS_bind (hB (hint - o) (by omega) _ ?_)
        dsimp only
        cases e2 : P (hint - o)
        · rw [if_neg (by decide)]
          exact wpS_pure ⟨rfl, o, _, rfl, by omega, by omega, by omega, e2⟩
        · rw [if_pos rfl]
          exact wpS_pure ⟨rfl, l, o, rfl, q1, q2, q4, fun _ => e2⟩
    · rintro c st' ⟨rfl, l, o, rfl, q1, q2, q3, q4⟩
      exact ⟨rfl, l, o, rfl, q1, q2, q4, fun z => by omega⟩
    · rintro c st' ⟨rfl, l, o, rfl, q1, q2, q3, q4⟩
      refine hj () l o (hint + 1 - min o (hint + 1)) (hint - l) (by omega) (by omega) (fun i hi => ?_) (fun i z1 z2 => hF _ i z1 z2 q3)
      exact hm i (hint - o) (by omega) (by omega) (q4 (by omega))
  · rw [if_pos rfl]
    refine wpS_bind (wpS_mono (wpS_forRange (I := fun x c st' => st' = st ∧ ∃ l o, c = (none, l, o) ∧ l < o ∧ hint + l < n ∧ x + 1 ≤ o ∧ P (hint + l) = true)
      (Q := fun c st' => st' = st ∧ ∃ l o, c = (none, l, o) ∧ l < o ∧ hint + l < n ∧ P (hint + l) = true ∧ (hint + o < n → P (hint + o) = false)) ?_ ?_ ⟨rfl, 0, 1, rfl, by omega, by omega, by omega, e0⟩) ?_)
    · rintro x c st' _ hxn ⟨rfl, l, o, rfl, q1, q2, q3, q4⟩
      dsimp only
      by_cases e : o ≥ n - hint
      · rw [if_pos e]
        exact wpS_pure ⟨rfl, l, o, rfl, q1, q2, q4, fun z => by omega⟩
      · rw [if_neg e]
        refine wpS_bind (hB (hint + o) (by omega) _ ?_)
        dsimp only
        cases e2 : P (hint + o)
        · rw [if_pos (by decide)]
          exact wpS_pure ⟨rfl, l, o, rfl, q1, q2, q4, fun _ => e2⟩
        · rw [if_neg (by decide)]
          exact wpS_pure ⟨rfl, o, _, rfl, by omega, by omega, by omega, e2⟩
    · rintro c st' ⟨rfl, l, o, rfl, q1, q2, q3, q4⟩
      exact ⟨rfl, l, o, rfl, q1, q2, q4, fun z => by omega⟩
    · rintro c st' ⟨rfl, l, o, rfl, q1, q2, q3, q4⟩
      refine hj () l o (hint + l + 1) (hint + min o (n - hint)) (by omega) (by omega) (fun i hi => hm i _ (by omega) q2 q3) (fun i z1 z2 => ?_)
      exact hF (hint + o) i (by omega) z2 (q4 (by omega))
end
end L2
namespace L2
open PySem PyProof.Rows
/-- rising by keys, within a stretch -/
def SdR (key : Keyed → Int) (xs : Array Keyed) (lo hi : Nat) : Prop := ∀ i j x y, lo ≤ i → i ≤ j → j < hi → xs[i]? = some x → xs[j]? = some y → key x ≤ key y
def Sm (st st' : SortSt) : Prop := kindOf st' = kindOf st ∧ arrOf st' = arrOf st ∧ pendingOf st' = pendingOf st ∧ failedOf st' = failedOf st
theorem Sm.rfl' {st : SortSt} : Sm st st := ⟨rfl, rfl, rfl, rfl⟩
theorem Sm.gal {st st' : SortSt} (h : Sm st st') (g : Nat) : Sm st (SortSt.mk' (kindOf st') (arrOf st') (pendingOf st') g (failedOf st')) := h
section
variable {prog : Program} {w : World} {A : Around} {E : Value → Shared → Prop} {s : Shared} {κ : SortKind} {key : Keyed → Int} {U : Keyed → Prop} {st : SortSt}
theorem wpS_galR {k : Keyed} {arr : Array Keyed} {base n hint : Nat} {Q : Option Nat → SortSt → Prop} (hc : Cm prog w A κ key U s) (hk : kindOf st = κ) (hx : U k) (hn : base + n ≤ arr.size) (hy : ∀ x ∈ arr.toList, U x) (hs : SdR key arr base (base + n)) (hh : hint < n)
    (h : ∀ m, m ≤ n → (∀ i x, base ≤ i → i < base + m → arr[i]? = some x → key x ≤ key k) → (∀ i x, base + m ≤ i → i < base + n → arr[i]? = some x → key k < key x) → Q (some m) st) : wpS (model prog w) A E s (gal false k arr base n hint) Q st := by
  refine wpS_gal hc hk hx hn (fun i x hi e => hy x ?_) (fun i j hij hj e => ?_) hh fun m hm h1 h2 => h m hm (fun i x z1 z2 e => ?_) (fun i x z1 z2 e => ?_)
  · obtain ⟨h', e'⟩ := Array.getElem?_eq_some_iff.mp e
    rw [← e']
    exact Array.getElem_mem_toList h'
  · have ei : arr[base + i]? = some (arr[base + i]'(by omega)) := getElem?_pos arr (base + i) (by omega)
    have ej : arr[base + j]? = some (arr[base + j]'(by omega)) := getElem?_pos arr (base + j) (by omega)
    have hle := hs (base + i) (base + j) _ _ (by omega) (by omega) (by omega) ei ej
    unfold Pb at e ⊢
    rw [ej] at e
    rw [ei]
    simp only [Bool.false_eq_true, if_false, Bool.not_eq_true', decide_eq_false_iff_not] at e ⊢
    omega
  · have := h1 (i - base) (by omega)
    unfold Pb at this
    rw [show base + (i - base) = i by omega, e] at this
    simp only [Bool.false_eq_true, if_false, Bool.not_eq_true', decide_eq_false_iff_not] at this
    omega
  · have := h2 (i - base) (by omega) (by omega)
    unfold Pb at this
    rw [show base + (i - base) = i by omega, e] at this
    simpa using this
theorem wpS_galL {k : Keyed} {arr : Array Keyed} {base n hint : Nat} {Q : Option Nat → SortSt → Prop} (hc : Cm prog w A κ key U s) (hk : kindOf st = κ) (hx : U k) (hn : base + n ≤ arr.size) (hy : ∀ x ∈ arr.toList, U x) (hs : SdR key arr base (base + n)) (hh : hint < n)
    (h : ∀ m, m ≤ n → (∀ i x, base ≤ i → i < base + m → arr[i]? = some x → key x < key k) → (∀ i x, base + m ≤ i → i < base + n → arr[i]? = some x → key k ≤ key x) → Q (some m) st) : wpS (model prog w) A E s (gal true k arr base n hint) Q st := by
  refine wpS_gal hc hk hx hn (fun i x hi e => hy x ?_) (fun i j hij hj e => ?_) hh fun m hm h1 h2 => h m hm (fun i x z1 z2 e => ?_) (fun i x z1 z2 e => ?_)
  · obtain ⟨h', e'⟩ := Array.getElem?_eq_some_iff.mp e
    rw [← e']
    exact Array.getElem_mem_toList h'
  · have ei : arr[base + i]? = some (arr[base + i]'(by omega)) := getElem?_pos arr (base + i) (by omega)
    have ej : arr[base + j]? = some (arr[base + j]'(by omega)) := getElem?_pos arr (base + j) (by omega)
    have hle := hs (base + i) (base + j) _ _ (by omega) (by omega) (by omega) ei ej
    unfold Pb at e ⊢
    rw [ej] at e
    rw [ei]
    simp only [if_true, decide_eq_true_eq] at e ⊢
    omega
  · have := h1 (i - base) (by omega)
    unfold Pb at this
    rw [show base + (i - base) = i by omega, e] at this
    simpa using this
  · have := h2 (i - base) (by omega) (by omega)
    unfold Pb at this
    rw [show base + (i - base) = i by omega, e] at this
    simp only [if_true, decide_eq_false_iff_not] at this
    omega
end
/-- what is merged so far: rising, of the first ia and ib, below all that is left -/
structure MI (key : Keyed → Int) (a b out : Array Keyed) (ia ib : Nat) : Prop where
  perm : out.toList.Perm (a.toList.take ia ++ b.toList.take ib)
  srt : out.toList.Pairwise fun x y => key x ≤ key y
  ha : ∀ x ∈ out.toList, ∀ i y, ia ≤ i → a[i]? = some y → key x ≤ key y
  hb : ∀ x ∈ out.toList, ∀ i y, ib ≤ i → b[i]? = some y → key x ≤ key y
def MF (key : Keyed → Int) (a b r : Array Keyed) : Prop := r.toList.Perm (a.toList ++ b.toList) ∧ r.toList.Pairwise fun x y => key x ≤ key y
section
variable {key : Keyed → Int} {a b out : Array Keyed} {ia ib : Nat}
theorem tk_succ {xs : Array Keyed} {i : Nat} {x : Keyed} (e : xs[i]? = some x) : xs.toList.take (i + 1) = xs.toList.take i ++ [x] := by
  rw [← Array.getElem?_toList] at e
  rw [List.take_succ, e]
  rfl
theorem MI.pushA (m : MI key a b out ia ib) {x : Keyed} (e : a[ia]? = some x) (sa : SdR key a 0 a.size) (h : ∀ i y, ib ≤ i → b[i]? = some y → key x ≤ key y) : MI key a b (out.push x) (ia + 1) ib := by
  have hlt : ∀ {i y}, a[i]? = some y → i < a.size := fun {i y} z => (Array.getElem?_eq_some_iff.mp z).1
  refine ⟨?_, ?_, fun y hy i z hi ez => ?_, fun y hy i z hi ez => ?_⟩
  · rw [Array.toList_push, tk_succ e]
    refine (m.perm.append_right [x]).trans ?_
    rw [List.append_assoc, List.append_assoc]
    exact List.perm_append_comm.append_left _
  · rw [Array.toList_push, List.pairwise_append]
    exact ⟨m.srt, List.pairwise_singleton _ _, fun y hy z hz => by rw [List.mem_singleton.mp hz]; exact m.ha y hy ia x (Nat.le_refl _) e⟩
  · rw [Array.toList_push] at hy
    rcases List.mem_append.mp hy with hy | hy
    · exact m.ha y hy i z (by omega) ez
    · rw [List.mem_singleton.mp hy]
      exact sa ia i x z (Nat.zero_le _) (by omega) (hlt ez) e ez
  · rw [Array.toList_push] at hy
    rcases List.mem_append.mp hy with hy | hy
    · exact m.hb y hy i z hi ez
    · rw [List.mem_singleton.mp hy]
      exact h i z hi ez
theorem MI.swap (m : MI key a b out ia ib) : MI key b a out ib ia := ⟨m.perm.trans List.perm_append_comm, m.srt, m.hb, m.ha⟩
theorem MI.pushB (m : MI key a b out ia ib) {x : Keyed} (e : b[ib]? = some x) (sb : SdR key b 0 b.size) (h : ∀ i y, ia ≤ i → a[i]? = some y → key x ≤ key y) : MI key a b (out.push x) ia (ib + 1) := (m.swap.pushA e sb h).swap
theorem ext_succ {xs : Array Keyed} {i k : Nat} {x : Keyed} (e : xs[i + k]? = some x) : xs.extract i (i + (k + 1)) = (xs.extract i (i + k)).push x := by
  have hlt := (Array.getElem?_eq_some_iff.mp e).1
  apply Array.toList_inj.mp
  rw [Array.toList_push, Array.toList_extract, Array.toList_extract, List.extract_eq_take_drop, List.extract_eq_take_drop, Nat.add_sub_cancel_left, Nat.add_sub_cancel_left, List.take_succ, List.getElem?_drop, Array.getElem?_toList, e]
  rfl
theorem MI.extA (m : MI key a b out ia ib) (sa : SdR key a 0 a.size) : ∀ k, ia + k ≤ a.size → (∀ i x, ia ≤ i → i < ia + k → a[i]? = some x → ∀ j y, ib ≤ j → b[j]? = some y → key x ≤ key y) → MI key a b (out ++ a.extract ia (ia + k)) (ia + k) ib
  | 0, _, _ => by
    have : a.extract ia (ia + 0) = #[] := by simp [Nat.min_le_left]
    rw [this, Array.append_empty]
    exact m
  | k + 1, hk, h => by
    have ih := MI.extA m sa k (by omega) (fun i x z1 z2 => h i x z1 (by omega))
    have e : a[ia + k]? = some (a[ia + k]'(by omega)) := getElem?_pos a (ia + k) (by omega)
    rw [ext_succ e, Array.append_push]
    exact ih.pushA e sa (h (ia + k) _ (by omega) (by omega) e)
theorem MI.extB (m : MI key a b out ia ib) (sb : SdR key b 0 b.size) (k : Nat) (hk : ib + k ≤ b.size) (h : ∀ i x, ib ≤ i → i < ib + k → b[i]? = some x → ∀ j y, ia ≤ j → a[j]? = some y → key x ≤ key y) : MI key a b (out ++ b.extract ib (ib + k)) ia (ib + k) := (MI.extA m.swap sb k hk h).swap
theorem MI.fin (m : MI key a b out ia ib) (ha : ia = a.size) (hb : ib = b.size) : MF key a b out := by
  subst ha hb
  refine ⟨?_, m.srt⟩
  have := m.perm
  rwa [← Array.length_toList, ← Array.length_toList, List.take_length, List.take_length] at this
theorem MI.doneB (m : MI key a b out ia ib) (sa : SdR key a 0 a.size) (hia : ia ≤ a.size) (hb : ib = b.size) : MF key a b (out ++ a.extract ia a.size ++ b.extract ib b.size) := by
  have h1 := m.extA sa (a.size - ia) (by omega) (fun i x _ _ _ j y hj ey => by
    have := (Array.getElem?_eq_some_iff.mp ey).1
    omega)
  rw [show ia + (a.size - ia) = a.size by omega] at h1
  have h2 := h1.fin rfl hb
  have : b.extract ib b.size = #[] := by subst hb; simp
  rw [this, Array.append_empty]
  exact h2
theorem MI.doneA (m : MI key a b out ia ib) (sb : SdR key b 0 b.size) (hib : ib ≤ b.size) (ha : ia = a.size) : MF key a b (out ++ a.extract ia a.size ++ b.extract ib b.size) := by
  have : a.extract ia a.size = #[] := by subst ha; simp
  rw [this, Array.append_empty]
  have h1 := m.extB sb (b.size - ib) (by omega) (fun i x _ _ _ j y hj ey => by
    have := (Array.getElem?_eq_some_iff.mp ey).1
    omega)
  rw [show ib + (b.size - ib) = b.size by omega] at h1
  exact h1.fin ha rfl
theorem MI.lastA (m : MI key a b out ia ib) (sa : SdR key a 0 a.size) (sb : SdR key b 0 b.size) (hib : ib ≤ b.size) (ha : ia + 1 = a.size) (hl : ∀ (i : Nat) (x y : Keyed), a[a.size - 1]? = some x → b[i]? = some y → key y ≤ key x) : MF key a b (out ++ b.extract ib b.size ++ a.extract ia a.size) := by
  have h1 := m.extB sb (b.size - ib) (by omega) (fun i x _ _ ex j y hj ey => by
    have := (Array.getElem?_eq_some_iff.mp ey).1
    have ej : j = a.size - 1 := by omega
    subst ej
    exact hl i y x ey ex)
  rw [show ib + (b.size - ib) = b.size by omega] at h1
  have h2 := h1.extA sa 1 (by omega) (fun i x _ _ _ j y hj ey => by
    have := (Array.getElem?_eq_some_iff.mp ey).1
    omega)
  rw [ha] at h2
  exact h2.fin rfl rfl
end
end L2
namespace L2
open PySem PyProof.Rows
section
variable {prog : Program} {w : World} {A : Around} {E : Value → Shared → Prop} {s : Shared} {κ : SortKind} {key : Keyed → Int} {U : Keyed → Prop} {st : SortSt}
theorem wpS_iT {σ α : Type} {M : Model} {c : Prop} [Decidable c] {X Y : StateT σ Sem α} {Q : α → σ → Prop} {st : σ} (hc : c) (h : wpS M A E s X Q st) : wpS M A E s (if c then X else Y) Q st := by
  rw [if_pos hc]
  exact h
theorem wpS_iF {σ α : Type} {M : Model} {c : Prop} [Decidable c] {X Y : StateT σ Sem α} {Q : α → σ → Prop} {st : σ} (hc : ¬ c) (h : wpS M A E s Y Q st) : wpS M A E s (if c then X else Y) Q st := by
  rw [if_neg hc]
  exact h
theorem wpS_two {σ α β : Type} {M : Model} {c : Prop} [Decidable c] {f : β → StateT σ Sem α} {x y : β} {Q : α → σ → Prop} {st : σ} (h : ∀ g, wpS M A E s (f g) Q st) : wpS M A E s (if c then f x else f y) Q st := by
  split <;> exact h _
theorem wpS_jpn {σ α β γ : Type} {M : Model} {m : StateT σ Sem α} (f : β → γ → StateT σ Sem α) (R : β → γ → Prop) {Q : α → σ → Prop} {st : σ} (h : ∀ x y, R x y → wpS M A E s (f x y) Q st) (k : (∀ x y, R x y → wpS M A E s (f x y) Q st) → wpS M A E s m Q st) : wpS M A E s m Q st := k h
theorem wpS_mLo {a b : Array Keyed} {Q : Array Keyed → SortSt → Prop} (hc : Cm prog w A κ key U s) (hk : kindOf st = κ) (ua : ∀ x ∈ a.toList, U x) (ub : ∀ x ∈ b.toList, U x) (sa : SdR key a 0 a.size) (sb : SdR key b 0 b.size) (a1 : 1 ≤ a.size) (b1 : 1 ≤ b.size)
    (h0 : ∀ x y, a[0]? = some x → b[0]? = some y → key y ≤ key x) (hl : ∀ (i : Nat) (x y : Keyed), a[a.size - 1]? = some x → b[i]? = some y → key y ≤ key x)
    (h : ∀ r st', Sm st st' → MF key a b r → Q r st') : wpS (model prog w) A E s (mLo a b) Q st := by
  have ea : ∀ i, i < a.size → ∃ x, a[i]? = some x ∧ U x := fun i hi => ⟨a[i], getElem?_pos a i hi, ua _ (Array.getElem_mem_toList hi)⟩
  have eb : ∀ i, i < b.size → ∃ x, b[i]? = some x ∧ U x := fun i hi => ⟨b[i], getElem?_pos b i hi, ub _ (Array.getElem_mem_toList hi)⟩
  have la : ∀ {i : Nat} {x}, a[i]? = some x → i < a.size := fun {i x} e => (Array.getElem?_eq_some_iff.mp e).1
  have lb : ∀ {i : Nat} {x}, b[i]? = some x → i < b.size := fun {i x} e => (Array.getElem?_eq_some_iff.mp e).1
  have m0 : MI key a b #[] 0 0 := ⟨by simp, by simp, by simp, by simp⟩
  obtain ⟨y0, ey0, uy0⟩ := eb 0 b1
  obtain ⟨x0, ex0, ux0⟩ := ea 0 a1
  have m1 : MI key a b #[y0] 0 1 := m0.pushB ey0 sb fun i y _ ey => Int.le_trans (h0 _ _ ex0 ey0) (sa 0 i _ _ (Nat.zero_le _) (Nat.zero_le _) (la ey) ex0 ey)
  refine wpS_bind (wpS_lift (wpAny_rule ⟨rfl, ?_⟩))
  refine wpS_bind (wpS_el ey0 ?_)
  by_cases c1 : 1 = b.size
  · exact wpS_iT (by simpa using c1) (wpS_pure (h _ _ .rfl' (m1.doneB sa (Nat.zero_le _) c1)))
  refine wpS_iF (by simpa using c1) ?_
  by_cases c2 : 0 + 1 = a.size
  · exact wpS_iT (by simpa using c2) (wpS_pure (h _ _ .rfl' (m1.lastA sa sb b1 c2 hl)))
  refine wpS_iF (by simpa using c2) ?_
  refine wpS_bind (wpS_get ?_)
  refine wpS_bind (wpS_mono (wpS_forRange (I := fun x c st' => Sm st st' ∧ ∃ out ia ib mg, c = (none, out, ia, ib, mg) ∧ MI key a b out ia ib ∧ ia + 1 < a.size ∧ ib < b.size ∧ x + 1 ≤ ia + ib) (Q := fun c st' => Sm st st' ∧ ∃ r z, c = (some r, z) ∧ MF key a b r) ?_ ?_ ⟨.rfl', _, _, _, _, rfl, m1, by omega, by omega, by omega⟩) ?_)
  rotate_left
  · rintro c st' ⟨_, out, ia, ib, mg, _, _, z1, z2, z3⟩
    omega
  · rintro c st' ⟨hS, r, z, rfl, hF⟩
    exact wpS_pure (h _ _ hS hF)
  rintro x c st' _ hx ⟨hS, out, ia, ib, mg, rfl, m, p1, p2, p3⟩
  refine wpS_bind (wpS_mono (wpS_forRange (I := fun x' c st' => Sm st st' ∧ ∃ out ia ib ac bc, c = (none, out, ia, ib, ac, bc) ∧ MI key a b out ia ib ∧ ia + 1 < a.size ∧ ib < b.size ∧ x + 1 + min x' 1 ≤ ia + ib) (Q := fun c st' => Sm st st' ∧ ((∃ r z, c = (some r, z) ∧ MF key a b r) ∨ ∃ out ia ib ac bc, c = (none, out, ia, ib, ac, bc) ∧ MI key a b out ia ib ∧ ia + 1 < a.size ∧ ib < b.size ∧ x + 2 ≤ ia + ib)) ?_ ?_ ⟨hS, out, ia, ib, 0, 0, rfl, m, p1, p2, by omega⟩) ?_)
  · clear m p1 p2 p3 hS
    rintro x' c st' _ hx' ⟨hS, out, ia, ib, ac, bc, rfl, m, p1, p2, p3⟩
    obtain ⟨y, ey, uy⟩ := eb ib p2
    obtain ⟨z, ez, uz⟩ := ea ia (by omega)
    refine wpS_bind (wpS_el ey (wpS_bind (wpS_el ez (wpS_bind (wpS_lt2 hc (hS.1.trans hk) uy uz ?_)))))
    dsimp only
    by_cases e : key y < key z
    · rw [decide_eq_true e, if_pos rfl]
      have m2 := m.pushB ey sb fun i q hi eq => Int.le_trans (Int.le_of_lt e) (sa ia i _ _ (Nat.zero_le _) hi (la eq) ez eq)
      refine wpS_bind (wpS_el ey ?_)
      by_cases f : ib + 1 = b.size
      · exact wpS_iT (by simpa using f) (wpS_pure ⟨hS, .inl ⟨_, _, rfl, m2.doneB sa (by omega) f⟩⟩)
      · refine wpS_iF (by simpa using f) ?_
        split
        · exact wpS_pure ⟨hS, .inr ⟨_, _, _, _, _, rfl, m2, by omega, by omega, by omega⟩⟩
        · exact wpS_pure ⟨hS, _, _, _, _, _, rfl, m2, by omega, by omega, by omega⟩
    · rw [decide_eq_false e, if_neg (by decide)]
      have m2 := m.pushA ez sa fun i q hi eq => Int.le_trans (Int.not_lt.mp e) (sb ib i _ _ (Nat.zero_le _) hi (lb eq) ey eq)
      refine wpS_bind (wpS_el ez ?_)
      by_cases f : ia + 1 + 1 = a.size
      · exact wpS_iT (by simpa using f) (wpS_pure ⟨hS, .inl ⟨_, _, rfl, m2.lastA sa sb (by omega) f hl⟩⟩)
      · refine wpS_iF (by simpa using f) ?_
        split
        · exact wpS_pure ⟨hS, .inr ⟨_, _, _, _, _, rfl, m2, by omega, by omega, by omega⟩⟩
        · exact wpS_pure ⟨hS, _, _, _, _, _, rfl, m2, by omega, by omega, by omega⟩
  · rintro c st' ⟨hS, out, ia, ib, ac, bc, rfl, m, p1, p2, p3⟩
    exact ⟨hS, .inr ⟨_, _, _, _, _, rfl, m, p1, p2, by omega⟩⟩
  clear m p1 p2 p3 hS
  rintro c st' ⟨hS, ⟨r, z, rfl, hF⟩ | ⟨out, ia, ib, ac, bc, rfl, m, p1, p2, p3⟩⟩
  · exact wpS_pure ⟨hS, r, _, rfl, hF⟩
  refine wpS_bind (wpS_lift (wpAny_rule ⟨rfl, ?_⟩))
  refine wpS_bind (wpS_mono (wpS_forRange (I := fun _ c st' => Sm st st' ∧ ∃ out ia ib mg ac bc, c = (none, out, ia, ib, mg, ac, bc) ∧ MI key a b out ia ib ∧ ia + 1 < a.size ∧ ib < b.size ∧ x + 2 ≤ ia + ib) (Q := fun c st' => Sm st st' ∧ ((∃ r z, c = (some r, z) ∧ MF key a b r) ∨ ∃ out ia ib mg ac bc, c = (none, out, ia, ib, mg, ac, bc) ∧ MI key a b out ia ib ∧ ia + 1 < a.size ∧ ib < b.size ∧ x + 2 ≤ ia + ib)) ?_ ?_ ⟨hS, _, _, _, _, _, _, rfl, m, p1, p2, p3⟩) ?_)
  rotate_left
  · rintro c st' ⟨hS, hh⟩
    exact ⟨hS, .inr hh⟩
  · rintro c st' ⟨hS, ⟨r, z, rfl, hF⟩ | ⟨out, ia, ib, mg, ac, bc, rfl, m, p1, p2, p3⟩⟩
    · exact wpS_pure ⟨hS, r, _, rfl, hF⟩
    · dsimp only
      exact wpS_bind (wpS_modify (wpS_pure ⟨hS.gal _, _, _, _, _, rfl, m, p1, p2, by omega⟩))
  clear m p1 p2 p3 hS
  rintro x' c st' _ hx' ⟨hS, out, ia, ib, mg, ac, bc, rfl, m, p1, p2, p3⟩
  dsimp -zeta only
  extract_lets _ out1 _ ia1 _ ib1 _ mg1 _ ac1 bc1 ib2 jp mg2
  refine wpS_two (f := jp ()) fun g => ?_
  obtain ⟨y, ey, uy⟩ := eb ib p2
  obtain ⟨z, ez, uz⟩ := ea ia (by omega)
  refine wpS_bind (wpS_modify (wpS_bind (wpS_el ey ?_)))
  have hS2 : Sm st (SortSt.mk' (kindOf st') (arrOf st') (pendingOf st') g (failedOf st')) := hS.gal g
  refine wpS_bind (wpS_galR hc (hS2.1.trans hk) uy (by show ia + (a.size - ia) ≤ a.size; omega) ua (fun i j p q z1 z2 z3 z4 z5 => sa i j p q (Nat.zero_le _) z2 (la z5) z4 z5) (by show 0 < a.size - ia; omega) fun k hk1 hk2 hk3 => ?_)
  dsimp -zeta only
  clear_value mg2
  extract_lets ac2 jp2 out2 ia2
  replace hk1 : k ≤ a.size - ia := hk1
  replace hk2 : ∀ i x, ia ≤ i → i < ia + k → a[i]? = some x → key x ≤ key y := hk2
  replace hk3 : ∀ i x, ia + k ≤ i → i < ia + (a.size - ia) → a[i]? = some x → key y < key x := hk3
  refine wpS_jpn (jp2 ()) (fun out' ia' => MI key a b out' ia' ib ∧ ia' + 1 < a.size ∧ ia ≤ ia' ∧ ∀ i q, ia' ≤ i → a[i]? = some q → key y ≤ key q) (fun out' ia' hR => ?_) fun hJ => ?_
  rotate_left
  · by_cases k0 : k > 0
    · have m2 : MI key a b (out ++ a.extract ia (ia + k)) (ia + k) ib := m.extA sa k (by omega) fun i q z1 z2 z3 j p z4 z5 => Int.le_trans (hk2 i q z1 z2 z3) (sb ib j y p (Nat.zero_le _) z4 (lb z5) ey z5)
      refine wpS_iT k0 ?_
      by_cases f : ia + k + 1 = a.size
      · exact wpS_iT (beq_iff_eq.mpr f) (wpS_pure ⟨hS2, .inl ⟨_, _, rfl, m2.lastA sa sb (by omega) f hl⟩⟩)
      refine wpS_iF (fun z => f (beq_iff_eq.mp z)) ?_
      by_cases f2 : ia + k = a.size
      · exact wpS_iT (beq_iff_eq.mpr f2) (wpS_pure ⟨hS2, .inl ⟨_, _, rfl, m2.doneA sb (by omega) f2⟩⟩)
      refine wpS_iF (fun z => f2 (beq_iff_eq.mp z)) ?_
      exact hJ _ _ ⟨m2, by show ia + k + 1 < _; omega, by show ia ≤ ia + k; omega, fun i q z1 z2 => Int.le_of_lt (hk3 i q z1 (by have := la z2; omega) z2)⟩
    · exact wpS_iF k0 (hJ _ _ ⟨m, p1, Nat.le_refl _, fun i q z1 z2 => Int.le_of_lt (hk3 i q (by have : ia ≤ i := z1; omega) (by have := la z2; omega) z2)⟩)
  clear hk1 hk2 hk3
  obtain ⟨m', p1', p3', hy⟩ := hR
  have m2 := m'.pushB ey sb hy
  refine wpS_bind (wpS_el ey ?_)
  by_cases f : ib + 1 = b.size
  · exact wpS_iT (beq_iff_eq.mpr f) (wpS_pure ⟨hS2, .inl ⟨_, _, rfl, m2.doneB sa (by omega) f⟩⟩)
  refine wpS_iF (fun z => f (beq_iff_eq.mp z)) ?_
  obtain ⟨z', ez', uz'⟩ := ea ia' (by omega)
  refine wpS_bind (wpS_el ez' ?_)
  refine wpS_bind (wpS_galL hc (hS2.1.trans hk) uz' (by show ib + 1 + (b.size - (ib + 1)) ≤ b.size; omega) ub (fun i j p q z1 z2 z3 z4 z5 => sb i j p q (Nat.zero_le _) z2 (lb z5) z4 z5) (by show 0 < b.size - (ib + 1); omega) fun k hk1 hk2 hk3 => ?_)
  replace hk1 : k ≤ b.size - (ib + 1) := hk1
  replace hk2 : ∀ i x, ib + 1 ≤ i → i < ib + 1 + k → b[i]? = some x → key x < key z' := hk2
  replace hk3 : ∀ i x, ib + 1 + k ≤ i → i < ib + 1 + (b.size - (ib + 1)) → b[i]? = some x → key z' ≤ key x := hk3
  dsimp -zeta only
  extract_lets bc2 ia3 jp3 out3 ib3
  refine wpS_jpn (jp3 ()) (fun out' ib' => MI key a b out' ia' ib' ∧ ib' < b.size ∧ ib + 1 ≤ ib' ∧ ∀ i q, ib' ≤ i → b[i]? = some q → key z' ≤ key q) (fun out' ib' hR => ?_) fun hJ => ?_
  rotate_left
  · by_cases k0 : k > 0
    · have m3 := m2.extB sb k (by omega) fun i q z1 z2 z3 j p z4 z5 => Int.le_trans (Int.le_of_lt (hk2 i q z1 z2 z3)) (sa ia' j z' p (Nat.zero_le _) z4 (la z5) ez' z5)
      refine wpS_iT k0 ?_
      by_cases f : ib + 1 + k = b.size
      · exact wpS_iT (beq_iff_eq.mpr f) (wpS_pure ⟨hS2, .inl ⟨_, _, rfl, m3.doneB sa (by omega) f⟩⟩)
      refine wpS_iF (fun z => f (beq_iff_eq.mp z)) ?_
      exact hJ _ _ ⟨m3, by show ib + 1 + k < _; omega, by show ib + 1 ≤ ib + 1 + k; omega, fun i q z1 z2 => hk3 i q z1 (by have := lb z2; omega) z2⟩
    · exact wpS_iF k0 (hJ _ _ ⟨m2, by show ib + 1 < _; omega, Nat.le_refl _, fun i q z1 z2 => hk3 i q (by have : ib + 1 ≤ i := z1; omega) (by have := lb z2; omega) z2⟩)
  clear hk1 hk2 hk3
  obtain ⟨m3, p2', p4', hz⟩ := hR
  have m4 := m3.pushA ez' sa hz
  refine wpS_bind (wpS_el ez' ?_)
  by_cases f : ia' + 1 + 1 = a.size
  · exact wpS_iT (beq_iff_eq.mpr f) (wpS_pure ⟨hS2, .inl ⟨_, _, rfl, m4.lastA sa sb (by omega) f hl⟩⟩)
  refine wpS_iF (fun z => f (beq_iff_eq.mp z)) ?_
  split
  · exact wpS_pure ⟨hS2, .inr ⟨_, _, _, _, _, _, rfl, m4, by omega, p2', by omega⟩⟩
  · exact wpS_pure ⟨hS2, _, _, _, _, _, _, rfl, m4, by omega, p2', by omega⟩
end
end L2
namespace L2
open PySem PyProof.Rows
/-- what is merged so far from the top: falling, of those from na and nb on, above all that is left -/
structure MJ (key : Keyed → Int) (a b out : Array Keyed) (na nb : Nat) : Prop where
  perm : out.toList.Perm (a.toList.drop na ++ b.toList.drop nb)
  srt : out.toList.Pairwise fun x y => key y ≤ key x
  ha : ∀ x ∈ out.toList, ∀ i y, i < na → a[i]? = some y → key y ≤ key x
  hb : ∀ x ∈ out.toList, ∀ i y, i < nb → b[i]? = some y → key y ≤ key x
section
variable {key : Keyed → Int} {a b out : Array Keyed} {na nb : Nat}
theorem dr_succ {xs : Array Keyed} {i : Nat} {x : Keyed} (e : xs[i]? = some x) : xs.toList.drop i = x :: xs.toList.drop (i + 1) := by
  obtain ⟨h, e'⟩ := Array.getElem?_eq_some_iff.mp e
  have h' : i < xs.toList.length := by simpa using h
  rw [List.drop_eq_getElem_cons h', Array.getElem_toList, e']
theorem MJ.swap (m : MJ key a b out na nb) : MJ key b a out nb na := ⟨m.perm.trans List.perm_append_comm, m.srt, m.hb, m.ha⟩
theorem MJ.pushA (m : MJ key a b out (na + 1) nb) {x : Keyed} (e : a[na]? = some x) (sa : SdR key a 0 a.size) (h : ∀ i y, i < nb → b[i]? = some y → key y ≤ key x) : MJ key a b (out.push x) na nb := by
  have hlt := (Array.getElem?_eq_some_iff.mp e).1
  refine ⟨?_, ?_, fun y hy i z hi ez => ?_, fun y hy i z hi ez => ?_⟩
  · rw [Array.toList_push, dr_succ e]
    exact (m.perm.append_right [x]).trans List.perm_append_comm
  · rw [Array.toList_push, List.pairwise_append]
    exact ⟨m.srt, List.pairwise_singleton _ _, fun y hy z hz => by rw [List.mem_singleton.mp hz]; exact m.ha y hy na x (Nat.lt_succ_self _) e⟩
  · rw [Array.toList_push] at hy
    rcases List.mem_append.mp hy with hy | hy
    · exact m.ha y hy i z (by omega) ez
    · rw [List.mem_singleton.mp hy]
      exact sa i na z x (Nat.zero_le _) (by omega) hlt ez e
  · rw [Array.toList_push] at hy
    rcases List.mem_append.mp hy with hy | hy
    · exact m.hb y hy i z hi ez
    · rw [List.mem_singleton.mp hy]
      exact h i z hi ez
theorem MJ.pushB (m : MJ key a b out na (nb + 1)) {x : Keyed} (e : b[nb]? = some x) (sb : SdR key b 0 b.size) (h : ∀ i y, i < na → a[i]? = some y → key y ≤ key x) : MJ key a b (out.push x) na nb := (m.swap.pushA e sb h).swap
theorem ext_cons {xs : Array Keyed} {i j : Nat} {x : Keyed} (e : xs[i]? = some x) (h : i < j) (hj : j ≤ xs.size) : (xs.extract i j).reverse = (xs.extract (i + 1) j).reverse.push x := by
  apply Array.toList_inj.mp
  rw [Array.toList_push, Array.toList_reverse, Array.toList_reverse, Array.toList_extract, Array.toList_extract, List.extract_eq_take_drop, List.extract_eq_take_drop, dr_succ e, show j - i = j - (i + 1) + 1 by omega, List.take_succ_cons, List.reverse_cons]
theorem MJ.extA (m : MJ key a b out na nb) (sa : SdR key a 0 a.size) (hna : na ≤ a.size) : ∀ k, k ≤ na → (∀ i x, na - k ≤ i → i < na → a[i]? = some x → ∀ j y, j < nb → b[j]? = some y → key y ≤ key x) → MJ key a b (out ++ (a.extract (na - k) na).reverse) (na - k) nb
  | 0, _, _ => by
    have : (a.extract (na - 0) na).reverse = #[] := by simp [Nat.min_le_left]
    rw [this, Array.append_empty]
    exact m
  | k + 1, hk, h => by
    have ih := MJ.extA m sa hna k (by omega) (fun i x z1 z2 => h i x (by omega) z2)
    have e : a[na - (k + 1)]? = some (a[na - (k + 1)]'(by omega)) := getElem?_pos a _ (by omega)
    rw [ext_cons e (by omega) hna, show na - (k + 1) + 1 = na - k by omega, Array.append_push]
    rw [show na - k = na - (k + 1) + 1 by omega] at ih ⊢
    exact ih.pushA e sa (h _ _ (Nat.le_refl _) (by omega) e)
theorem MJ.exA (m : MJ key a b out na nb) (sa : SdR key a 0 a.size) (hna : na ≤ a.size) {t : Nat} (ht : t ≤ na) (h : ∀ i x, t ≤ i → i < na → a[i]? = some x → ∀ j y, j < nb → b[j]? = some y → key y ≤ key x) : MJ key a b (out ++ (a.extract t na).reverse) t nb := by
  have := m.extA sa hna (na - t) (by omega) (fun i x z1 z2 => h i x (by omega) z2)
  rwa [show na - (na - t) = t by omega] at this
theorem MJ.exB (m : MJ key a b out na nb) (sb : SdR key b 0 b.size) (hnb : nb ≤ b.size) {t : Nat} (ht : t ≤ nb) (h : ∀ i x, t ≤ i → i < nb → b[i]? = some x → ∀ j y, j < na → a[j]? = some y → key y ≤ key x) : MJ key a b (out ++ (b.extract t nb).reverse) na t := (MJ.exA m.swap sb hnb ht h).swap
theorem MJ.fin (m : MJ key a b out 0 0) : MF key a b out.reverse := by
  refine ⟨?_, ?_⟩
  · rw [Array.toList_reverse]
    exact (List.reverse_perm _).trans m.perm
  · rw [Array.toList_reverse, List.pairwise_reverse]
    exact m.srt
theorem MJ.doneA (m : MJ key a b out na nb) (sb : SdR key b 0 b.size) (hnb : nb ≤ b.size) (h : na = 0) : MF key a b (a.extract 0 na ++ b.extract 0 nb ++ out.reverse) := by
  subst h
  have := (m.exB sb hnb (Nat.zero_le _) (fun i x _ _ _ j y z => absurd z (Nat.not_lt_zero _))).fin
  rw [Array.reverse_append, Array.reverse_reverse] at this
  have e : a.extract 0 0 = #[] := by simp
  rw [e, Array.empty_append]
  exact this
theorem MJ.doneB (m : MJ key a b out na nb) (sa : SdR key a 0 a.size) (hna : na ≤ a.size) (h : nb = 0) : MF key a b (a.extract 0 na ++ b.extract 0 nb ++ out.reverse) := by
  subst h
  have := (m.exA sa hna (Nat.zero_le _) (fun i x _ _ _ j y z => absurd z (Nat.not_lt_zero _))).fin
  rw [Array.reverse_append, Array.reverse_reverse] at this
  have e : b.extract 0 0 = #[] := by simp
  rw [e, Array.append_empty]
  exact this
theorem MJ.firstB (m : MJ key a b out na nb) (sa : SdR key a 0 a.size) (sb : SdR key b 0 b.size) (hna : na ≤ a.size) (hnb : nb ≤ b.size) (h : nb = 1) (h0 : ∀ (i : Nat) (x y : Keyed), a[i]? = some x → b[0]? = some y → key y ≤ key x) : MF key a b (b.extract 0 nb ++ a.extract 0 na ++ out.reverse) := by
  subst h
  have h1 := m.exA sa hna (Nat.zero_le _) (fun i x _ _ ex j y z ey => by
    have : j = 0 := by omega
    subst this
    exact h0 i x y ex ey)
  have h2 := (h1.exB sb hnb (Nat.zero_le _) (fun i x _ _ _ j y z => absurd z (Nat.not_lt_zero _))).fin
  rw [Array.reverse_append, Array.reverse_append, Array.reverse_reverse, Array.reverse_reverse, ← Array.append_assoc] at h2
  exact h2
end
section
variable {prog : Program} {w : World} {A : Around} {E : Value → Shared → Prop} {s : Shared} {κ : SortKind} {key : Keyed → Int} {U : Keyed → Prop} {st : SortSt}
theorem wpS_mHi {a b : Array Keyed} {Q : Array Keyed → SortSt → Prop} (hc : Cm prog w A κ key U s) (hk : kindOf st = κ) (ua : ∀ x ∈ a.toList, U x) (ub : ∀ x ∈ b.toList, U x) (sa : SdR key a 0 a.size) (sb : SdR key b 0 b.size) (a1 : 1 ≤ a.size) (b1 : 1 ≤ b.size)
    (h0' : ∀ x y, a[0]? = some x → b[0]? = some y → key y ≤ key x) (hl : ∀ (i : Nat) (x y : Keyed), a[a.size - 1]? = some x → b[i]? = some y → key y ≤ key x)
    (h : ∀ r st', Sm st st' → MF key a b r → Q r st') : wpS (model prog w) A E s (mHi a b) Q st := by
  have ea : ∀ i, i < a.size → ∃ x, a[i]? = some x ∧ U x := fun i hi => ⟨a[i], getElem?_pos a i hi, ua _ (Array.getElem_mem_toList hi)⟩
  have eb : ∀ i, i < b.size → ∃ x, b[i]? = some x ∧ U x := fun i hi => ⟨b[i], getElem?_pos b i hi, ub _ (Array.getElem_mem_toList hi)⟩
  have la : ∀ {i : Nat} {x}, a[i]? = some x → i < a.size := fun {i x} e => (Array.getElem?_eq_some_iff.mp e).1
  have lb : ∀ {i : Nat} {x}, b[i]? = some x → i < b.size := fun {i x} e => (Array.getElem?_eq_some_iff.mp e).1
  obtain ⟨x0, ex0, ux0⟩ := ea 0 a1
  have h0 : ∀ (i : Nat) (x y : Keyed), a[i]? = some x → b[0]? = some y → key y ≤ key x := fun i x y ex ey => Int.le_trans (h0' x0 y ex0 ey) (sa 0 i _ _ (Nat.zero_le _) (Nat.zero_le _) (la ex) ex0 ex)
  have m0 : MJ key a b #[] (a.size - 1 + 1) b.size := ⟨by simp [show a.size - 1 + 1 = a.size by omega], by simp, by simp, by simp⟩
  obtain ⟨y0, ey0, uy0⟩ := ea (a.size - 1) (by omega)
  have m1 : MJ key a b #[y0] (a.size - 1) b.size := m0.pushA ey0 sa fun i y _ ey => hl i y0 y ey0 ey
  refine wpS_bind (wpS_lift (wpAny_rule ⟨rfl, ?_⟩))
  refine wpS_bind (wpS_el ey0 ?_)
  by_cases c1 : a.size - 1 = 0
  · exact wpS_iT (beq_iff_eq.mpr c1) (wpS_pure (h _ _ .rfl' (m1.doneA sb (Nat.le_refl _) c1)))
  refine wpS_iF (fun z => c1 (beq_iff_eq.mp z)) ?_
  by_cases c2 : b.size = 1
  · exact wpS_iT (beq_iff_eq.mpr c2) (wpS_pure (h _ _ .rfl' (m1.firstB sa sb (by omega) (Nat.le_refl _) c2 h0)))
  refine wpS_iF (fun z => c2 (beq_iff_eq.mp z)) ?_
  refine wpS_bind (wpS_get ?_)
  refine wpS_bind (wpS_mono (wpS_forRange (I := fun x c st' => Sm st st' ∧ ∃ out na nb mg, c = (none, na, nb, out, mg) ∧ MJ key a b out na nb ∧ 1 ≤ na ∧ na < a.size ∧ 2 ≤ nb ∧ nb ≤ b.size ∧ na + nb + x + 1 ≤ a.size + b.size) (Q := fun c st' => Sm st st' ∧ ∃ r z, c = (some r, z) ∧ MF key a b r) ?_ ?_ ⟨.rfl', _, _, _, _, rfl, m1, by omega, by omega, by omega, by omega, by omega⟩) ?_)
  rotate_left
  · rintro c st' ⟨_, out, ia, ib, mg, _, _, z1, z2, z3, z4, z5⟩
    omega
  · rintro c st' ⟨hS, r, z, rfl, hF⟩
    exact wpS_pure (h _ _ hS hF)
  rintro x c st' _ hx ⟨hS, out, na, nb, mg, rfl, m, p1, p1', p2, p2', p3⟩
  refine wpS_bind (wpS_mono (wpS_forRange (I := fun x' c st' => Sm st st' ∧ ∃ out na nb ac bc, c = (none, na, nb, out, ac, bc) ∧ MJ key a b out na nb ∧ 1 ≤ na ∧ na < a.size ∧ 2 ≤ nb ∧ nb ≤ b.size ∧ na + nb + x + 1 + min x' 1 ≤ a.size + b.size) (Q := fun c st' => Sm st st' ∧ ((∃ r z, c = (some r, z) ∧ MF key a b r) ∨ ∃ out na nb ac bc, c = (none, na, nb, out, ac, bc) ∧ MJ key a b out na nb ∧ 1 ≤ na ∧ na < a.size ∧ 2 ≤ nb ∧ nb ≤ b.size ∧ na + nb + x + 2 ≤ a.size + b.size)) ?_ ?_ ⟨hS, out, na, nb, 0, 0, rfl, m, p1, p1', p2, p2', by omega⟩) ?_)
  · clear m p1 p1' p2 p2' p3 hS
    rintro x' c st' _ hx' ⟨hS, out, na, nb, ac, bc, rfl, m, p1, p1', p2, p2', p3⟩
    obtain ⟨n, rfl⟩ : ∃ n, na = n + 1 := ⟨na - 1, by omega⟩
    obtain ⟨k, rfl⟩ : ∃ n, nb = n + 1 := ⟨nb - 1, by omega⟩
    obtain ⟨y, ey, uy⟩ := eb k (by omega)
    obtain ⟨z, ez, uz⟩ := ea n (by omega)
    refine wpS_bind (wpS_el ey (wpS_bind (wpS_el ez (wpS_bind (wpS_lt2 hc (hS.1.trans hk) uy uz ?_)))))
    dsimp only
    by_cases e : key y < key z
    · rw [decide_eq_true e, if_pos rfl]
      have m2 := m.pushA ez sa fun i q hi eq => Int.le_trans (sb i k _ _ (Nat.zero_le _) (by omega) (by omega) eq ey) (Int.le_of_lt e)
      refine wpS_bind (wpS_el ez ?_)
      by_cases f : n = 0
      · exact wpS_iT (beq_iff_eq.mpr f) (wpS_pure ⟨hS, .inl ⟨_, _, rfl, m2.doneA sb (by omega) f⟩⟩)
      · refine wpS_iF (fun z => f (beq_iff_eq.mp z)) ?_
        split
        · exact wpS_pure ⟨hS, .inr ⟨_, _, _, _, _, rfl, m2, by show 1 ≤ n; omega, by show n < _; omega, p2, p2', by show n + (k + 1) + x + 2 ≤ _; omega⟩⟩
        · exact wpS_pure ⟨hS, _, _, _, _, _, rfl, m2, by show 1 ≤ n; omega, by show n < _; omega, p2, p2', by show n + (k + 1) + x + 1 + _ ≤ _; omega⟩
    · rw [decide_eq_false e, if_neg (by decide)]
      have m2 := m.pushB ey sb fun i q hi eq => Int.le_trans (sa i n _ _ (Nat.zero_le _) (by omega) (by omega) eq ez) (Int.not_lt.mp e)
      refine wpS_bind (wpS_el ey ?_)
      by_cases f : k = 1
      · exact wpS_iT (beq_iff_eq.mpr f) (wpS_pure ⟨hS, .inl ⟨_, _, rfl, m2.firstB sa sb (by omega) (by omega) f h0⟩⟩)
      · refine wpS_iF (fun z => f (beq_iff_eq.mp z)) ?_
        split
        · exact wpS_pure ⟨hS, .inr ⟨_, _, _, _, _, rfl, m2, p1, p1', by show 2 ≤ k; omega, by show k ≤ _; omega, by show n + 1 + k + x + 2 ≤ _; omega⟩⟩
        · exact wpS_pure ⟨hS, _, _, _, _, _, rfl, m2, p1, p1', by show 2 ≤ k; omega, by show k ≤ _; omega, by show n + 1 + k + x + 1 + _ ≤ _; omega⟩
  · rintro c st' ⟨hS, out, ia, ib, ac, bc, rfl, m, p1, p1', p2, p2', p3⟩
    exact ⟨hS, .inr ⟨_, _, _, _, _, rfl, m, p1, p1', p2, p2', by omega⟩⟩
  clear m p1 p1' p2 p2' p3 hS
  rintro c st' ⟨hS, ⟨r, z, rfl, hF⟩ | ⟨out, na, nb, ac, bc, rfl, m, p1, p1', p2, p2', p3⟩⟩
  · exact wpS_pure ⟨hS, r, _, rfl, hF⟩
  refine wpS_bind (wpS_lift (wpAny_rule ⟨rfl, ?_⟩))
  refine wpS_bind (wpS_mono (wpS_forRange (I := fun _ c st' => Sm st st' ∧ ∃ out na nb mg ac bc, c = (none, na, nb, out, mg, ac, bc) ∧ MJ key a b out na nb ∧ 1 ≤ na ∧ na < a.size ∧ 2 ≤ nb ∧ nb ≤ b.size ∧ na + nb + x + 2 ≤ a.size + b.size) (Q := fun c st' => Sm st st' ∧ ((∃ r z, c = (some r, z) ∧ MF key a b r) ∨ ∃ out na nb mg ac bc, c = (none, na, nb, out, mg, ac, bc) ∧ MJ key a b out na nb ∧ 1 ≤ na ∧ na < a.size ∧ 2 ≤ nb ∧ nb ≤ b.size ∧ na + nb + x + 2 ≤ a.size + b.size)) ?_ ?_ ⟨hS, _, _, _, _, _, _, rfl, m, p1, p1', p2, p2', p3⟩) ?_)
  rotate_left
  · rintro c st' ⟨hS, hh⟩
    exact ⟨hS, .inr hh⟩
  · rintro c st' ⟨hS, ⟨r, z, rfl, hF⟩ | ⟨out, na, nb, mg, ac, bc, rfl, m, p1, p1', p2, p2', p3⟩⟩
    · exact wpS_pure ⟨hS, r, _, rfl, hF⟩
    · dsimp only
      exact wpS_bind (wpS_modify (wpS_pure ⟨hS.gal _, _, _, _, _, rfl, m, p1, p1', p2, p2', by omega⟩))
  clear m p1 p1' p2 p2' p3 hS
  rintro x' c st' _ hx' ⟨hS, out, na, nb, mg, ac, bc, rfl, m, p1, p1', p2, p2', p3⟩
  dsimp -zeta only
  extract_lets _ na1 _ nb1 _ out1 _ mg1 _ ac1 bc1 nb2 jp mg2
  refine wpS_two (f := jp ()) fun g => ?_
  obtain ⟨y, ey, uy⟩ := eb (nb - 1) (by omega)
  refine wpS_bind (wpS_modify (wpS_bind (wpS_el ey ?_)))
  have hS2 : Sm st (SortSt.mk' (kindOf st') (arrOf st') (pendingOf st') g (failedOf st')) := hS.gal g
  refine wpS_bind (wpS_galR hc (hS2.1.trans hk) uy (by show 0 + na ≤ a.size; omega) ua (fun i j p q z1 z2 z3 z4 z5 => sa i j p q (Nat.zero_le _) z2 (la z5) z4 z5) (by show na - 1 < na; omega) fun t hk1 hk2 hk3 => ?_)
  replace hk1 : t ≤ na := hk1
  replace hk2 : ∀ i x, 0 ≤ i → i < 0 + t → a[i]? = some x → key x ≤ key y := hk2
  replace hk3 : ∀ i x, 0 + t ≤ i → i < 0 + na → a[i]? = some x → key y < key x := hk3
  dsimp -zeta only
  clear_value mg2
  extract_lets k2 ac2 jp2 out2 na2
  refine wpS_jpn (jp2 ()) (fun na' out' => MJ key a b out' na' nb ∧ 1 ≤ na' ∧ na' ≤ na ∧ ∀ i q, i < na' → a[i]? = some q → key q ≤ key y) (fun na' out' hR => ?_) fun hJ => ?_
  rotate_left
  · by_cases k0 : na - t > 0
    · have m2 : MJ key a b (out ++ (a.extract t na).reverse) t nb := m.exA sa (by omega) (by omega) fun i q z1 z2 z3 j p z4 z5 => Int.le_trans (sb j (nb - 1) p y (Nat.zero_le _) (by omega) (by omega) z5 ey) (Int.le_of_lt (hk3 i q (by omega) (by omega) z3))
      refine wpS_iT k0 ?_
      by_cases f : t = 0
      · exact wpS_iT (beq_iff_eq.mpr f) (wpS_pure ⟨hS2, .inl ⟨_, _, rfl, m2.doneA sb (by omega) f⟩⟩)
      refine wpS_iF (fun z => f (beq_iff_eq.mp z)) ?_
      exact hJ _ _ ⟨m2, by show 1 ≤ t; omega, hk1, fun i q z1 z2 => hk2 i q (Nat.zero_le _) (by have : i < t := z1; omega) z2⟩
    · exact wpS_iF k0 (hJ _ _ ⟨m, p1, Nat.le_refl _, fun i q z1 z2 => hk2 i q (Nat.zero_le _) (by have : i < na := z1; omega) z2⟩)
  clear hk1 hk2 hk3
  obtain ⟨m', p4, p5, hy⟩ := hR
  rw [show nb = nb - 1 + 1 by omega] at m'
  have m2 := m'.pushB ey sb hy
  refine wpS_bind (wpS_el ey ?_)
  by_cases f : nb - 1 = 1
  · exact wpS_iT (beq_iff_eq.mpr f) (wpS_pure ⟨hS2, .inl ⟨_, _, rfl, m2.firstB sa sb (by omega) (by omega) f h0⟩⟩)
  refine wpS_iF (fun z => f (beq_iff_eq.mp z)) ?_
  obtain ⟨z', ez', uz'⟩ := ea (na' - 1) (by omega)
  refine wpS_bind (wpS_el ez' ?_)
  refine wpS_bind (wpS_galL hc (hS2.1.trans hk) uz' (by show 0 + (nb - 1) ≤ b.size; omega) ub (fun i j p q z1 z2 z3 z4 z5 => sb i j p q (Nat.zero_le _) z2 (lb z5) z4 z5) (by show nb - 1 - 1 < nb - 1; omega) fun t' hk1 hk2 hk3 => ?_)
  replace hk1 : t' ≤ nb - 1 := hk1
  replace hk2 : ∀ i x, 0 ≤ i → i < 0 + t' → b[i]? = some x → key x < key z' := hk2
  replace hk3 : ∀ i x, 0 + t' ≤ i → i < 0 + (nb - 1) → b[i]? = some x → key z' ≤ key x := hk3
  dsimp -zeta only
  extract_lets k3 bc2 na3 jp3 out3 nb3
  refine wpS_jpn (jp3 ()) (fun nb' out' => MJ key a b out' na' nb' ∧ 2 ≤ nb' ∧ nb' < nb ∧ ∀ i q, i < nb' → b[i]? = some q → key q ≤ key z') (fun nb' out' hR => ?_) fun hJ => ?_
  rotate_left
  · by_cases k0 : nb - 1 - t' > 0
    · have m3 := m2.exB sb (by omega) (t := t') (by omega) fun i q z1 z2 z3 j p z4 z5 => Int.le_trans (sa j (na' - 1) p z' (Nat.zero_le _) (by omega) (by omega) z5 ez') (hk3 i q (by omega) (by omega) z3)
      refine wpS_iT k0 ?_
      by_cases f : t' = 1
      · exact wpS_iT (beq_iff_eq.mpr f) (wpS_pure ⟨hS2, .inl ⟨_, _, rfl, m3.firstB sa sb (by omega) (by omega) f h0⟩⟩)
      refine wpS_iF (fun z => f (beq_iff_eq.mp z)) ?_
      by_cases f2 : t' = 0
      · exact wpS_iT (beq_iff_eq.mpr f2) (wpS_pure ⟨hS2, .inl ⟨_, _, rfl, m3.doneB sa (by omega) f2⟩⟩)
      refine wpS_iF (fun z => f2 (beq_iff_eq.mp z)) ?_
      exact hJ _ _ ⟨m3, by show 2 ≤ t'; omega, by show t' < nb; omega, fun i q z1 z2 => Int.le_of_lt (hk2 i q (Nat.zero_le _) (by have : i < t' := z1; omega) z2)⟩
    · exact wpS_iF k0 (hJ _ _ ⟨m2, by show 2 ≤ nb - 1; omega, by show nb - 1 < nb; omega, fun i q z1 z2 => Int.le_of_lt (hk2 i q (Nat.zero_le _) (by have : i < nb - 1 := z1; omega) z2)⟩)
  clear hk1 hk2 hk3
  obtain ⟨m3, p6, p7, hz⟩ := hR
  rw [show na' = na' - 1 + 1 by omega] at m3
  have m4 := m3.pushA ez' sa hz
  refine wpS_bind (wpS_el ez' ?_)
  by_cases f : na' - 1 = 0
  · exact wpS_iT (beq_iff_eq.mpr f) (wpS_pure ⟨hS2, .inl ⟨_, _, rfl, m4.doneA sb (by omega) f⟩⟩)
  refine wpS_iF (fun z => f (beq_iff_eq.mp z)) ?_
  split
  · exact wpS_pure ⟨hS2, .inr ⟨_, _, _, _, _, _, rfl, m4, by show 1 ≤ na' - 1; omega, by show na' - 1 < _; omega, p6, by omega, by show na' - 1 + nb' + x + 2 ≤ _; omega⟩⟩
  · exact wpS_pure ⟨hS2, _, _, _, _, _, _, rfl, m4, by show 1 ≤ na' - 1; omega, by show na' - 1 < _; omega, p6, by omega, by show na' - 1 + nb' + x + 2 ≤ _; omega⟩
end
end L2
namespace L2
open PySem PyProof.Rows
theorem wr_list {base : Nat} : ∀ (l : List Keyed) (n : Nat) (arr : Array Keyed), base + n + l.length ≤ arr.size → ((l.zipIdx n).foldl (fun a (pj : Keyed × Nat) => a.setIfInBounds (base + pj.2) pj.1) arr).toList = arr.toList.take (base + n) ++ l ++ arr.toList.drop (base + n + l.length)
  | [], n, arr, h => by simp
  | p :: l, n, arr, h => by
    rw [List.zipIdx_cons, List.foldl_cons]
    dsimp only
    rw [List.length_cons] at h
    rw [wr_list l (n + 1) _ (by rw [Array.size_setIfInBounds]; omega), Array.toList_setIfInBounds]
    have hl : base + n < arr.toList.length := by rw [Array.length_toList]; omega
    rw [List.set_eq_take_append_cons_drop, if_pos hl]
    have ht : (List.take (base + n) arr.toList).length = base + n := by rw [List.length_take]; omega
    have q1 : (List.take (base + n) arr.toList).take (base + n + 1) = List.take (base + n) arr.toList := List.take_of_length_le (by rw [ht]; omega)
    have q2 : (List.take (base + n) arr.toList).drop (base + n + 1 + l.length) = [] := List.drop_eq_nil_of_le (by rw [ht]; omega)
    rw [show base + (n + 1) = base + n + 1 by omega, List.take_append, List.drop_append, ht, q1, q2, show base + n + 1 - (base + n) = 0 + 1 by omega, List.take_succ_cons, List.take_zero, show base + n + 1 + l.length - (base + n) = l.length + 1 by omega, List.drop_succ_cons, List.drop_drop, List.length_cons]
    simp only [List.append_assoc, List.cons_append, List.nil_append]
    rw [show base + n + 1 + l.length = base + n + (l.length + 1) by omega]
/-- the sort's state st' of st: only places lo .. hi - 1 have changed, and what stands there is the same -/
structure Rs (st st' : SortSt) (lo hi : Nat) : Prop where
  kind : kindOf st' = kindOf st
  failed : failedOf st' = failedOf st
  perm : (arrOf st').Perm (arrOf st)
  out : ∀ j, j < lo ∨ hi ≤ j → (arrOf st')[j]? = (arrOf st)[j]?
theorem Rs.size {st st' : SortSt} {lo hi : Nat} (h : Rs st st' lo hi) : (arrOf st').size = (arrOf st).size := by
  have := (Array.perm_iff_toList_perm.mp h.perm).length_eq
  simpa using this
theorem Rs.refl {st : SortSt} {lo hi : Nat} : Rs st st lo hi := ⟨rfl, rfl, Array.Perm.refl _, fun _ _ => rfl⟩
theorem Rs.trans {st st' st2 : SortSt} {lo hi : Nat} (h : Rs st st' lo hi) (h2 : Rs st' st2 lo hi) : Rs st st2 lo hi := ⟨h2.kind.trans h.kind, h2.failed.trans h.failed, h2.perm.trans h.perm, fun j hj => (h2.out j hj).trans (h.out j hj)⟩
theorem Rs.wide {st st' : SortSt} {lo hi lo2 hi2 : Nat} (h : Rs st st' lo hi) (h1 : lo2 ≤ lo) (h2 : hi ≤ hi2) : Rs st st' lo2 hi2 := ⟨h.kind, h.failed, h.perm, fun j hj => h.out j (by omega)⟩
theorem Rs.us {st st' : SortSt} {lo hi : Nat} {U : Keyed → Prop} (h : Rs st st' lo hi) (hU : ∀ x ∈ (arrOf st).toList, U x) : ∀ x ∈ (arrOf st').toList, U x := fun x hx => hU x ((Array.perm_iff_toList_perm.mp h.perm).mem_iff.mp hx)
theorem SdR.out {key : Keyed → Int} {xs ys : Array Keyed} {a b lo hi : Nat} (h : SdR key xs a b) (e : ∀ j, j < lo ∨ hi ≤ j → ys[j]? = xs[j]?) (hd : b ≤ lo ∨ hi ≤ a) : SdR key ys a b := fun i j x y h1 h2 h3 e1 e2 => h i j x y h1 h2 h3 (by rw [← e i (by omega)]; exact e1) (by rw [← e j (by omega)]; exact e2)
theorem wpS_set {σ : Type} {M : Model} {A : Around} {E : Value → Shared → Prop} {s : Shared} {x : σ} {Q : PUnit → σ → Prop} {st : σ} (h : Q ⟨⟩ x) : wpS M A E s (set x : StateT σ Sem PUnit) Q st := by
  unfold wpS
  rw [StateT.run_set]
  exact wpAny_pure ⟨rfl, h⟩
theorem ext_get {xs : Array Keyed} {i j k : Nat} {x : Keyed} (h : (xs.extract i j)[k]? = some x) : xs[i + k]? = some x ∧ k < j - i := by
  rw [Array.getElem?_extract] at h
  split at h
  · exact ⟨h, by omega⟩
  · cases h
theorem ext_mem {xs : Array Keyed} {i j : Nat} {x : Keyed} (h : x ∈ (xs.extract i j).toList) : ∃ k, i ≤ k ∧ k < j ∧ xs[k]? = some x := by
  obtain ⟨k, hk, e⟩ := List.getElem_of_mem h
  rw [Array.getElem_toList] at e
  have e2 : (xs.extract i j)[k]? = some x := Array.getElem?_eq_some_iff.mpr ⟨by rw [Array.length_toList] at hk; exact hk, e⟩
  obtain ⟨e3, h3⟩ := ext_get e2
  exact ⟨i + k, by omega, by omega, e3⟩
section
variable {prog : Program} {w : World} {A : Around} {E : Value → Shared → Prop} {s : Shared} {κ : SortKind} {key : Keyed → Int} {U : Keyed → Prop} {st : SortSt}
theorem wpS_mAt {i sa na pw nb pb : Nat} {Q : Bool → SortSt → Prop} (hc : Cm prog w A κ key U s) (hk : kindOf st = κ) (hf : failedOf st = none) (hU : ∀ x ∈ (arrOf st).toList, U x) (hi : (pendingOf st)[i]? = some (sa, na, pw)) (hi1 : (pendingOf st)[i + 1]? = some (sa + na, nb, pb)) (hna : 1 ≤ na) (hnb : 1 ≤ nb) (hsz : sa + na + nb ≤ (arrOf st).size) (s1 : SdR key (arrOf st) sa (sa + na)) (s2 : SdR key (arrOf st) (sa + na) (sa + na + nb))
    (h : ∀ st', Rs st st' sa (sa + na + nb) → pendingOf st' = ((pendingOf st).setIfInBounds i (sa, na + nb, pw)).eraseIdxIfInBounds (i + 1) → SdR key (arrOf st') sa (sa + na + nb) → Q true st') : wpS (model prog w) A E s (mergeAt' i) Q st := by
  have el : ∀ i, i < (arrOf st).size → ∃ x, (arrOf st)[i]? = some x ∧ U x := fun i hi => ⟨(arrOf st)[i], getElem?_pos (arrOf st) i hi, hU _ (Array.getElem_mem_toList hi)⟩
  refine wpS_bind (wpS_get ?_)
  rw [hi, hi1]
  refine wpS_bind (wpS_set ?_)
  obtain ⟨y, ey, uy⟩ := el (sa + na) (by omega)
  refine wpS_bind (wpS_el ey ?_)
  refine wpS_bind (wpS_galR hc hk uy (by show sa + na ≤ (arrOf st).size; omega) hU s1 (by omega) fun k hk1 hk2 hk3 => ?_)
  dsimp only
  have R0 : ∀ g, Rs st (SortSt.mk' (kindOf st) (arrOf st) (((pendingOf st).setIfInBounds i (sa, na + nb, pw)).eraseIdxIfInBounds (i + 1)) g (failedOf st)) sa (sa + na + nb) := fun g => ⟨rfl, rfl, Array.Perm.refl _, fun _ _ => rfl⟩
  have ba : ∀ {j : Nat} {q : Keyed}, sa + na ≤ j → j < sa + na + nb → (arrOf st)[j]? = some q → key y ≤ key q := fun {j q} z1 z2 z3 => s2 (sa + na) j y q (Nat.le_refl _) z1 z2 ey z3
  by_cases c1 : na - k = 0
  · refine wpS_iT (beq_iff_eq.mpr c1) (wpS_pure (h _ (R0 _) rfl fun i j p q z1 z2 z3 e1 e2 => ?_))
    by_cases f1 : j < sa + na
    · exact s1 i j p q z1 z2 f1 e1 e2
    · by_cases f2 : i < sa + na
      · exact Int.le_trans (hk2 i p z1 (by omega) e1) (ba (by omega) z3 e2)
      · exact s2 i j p q (by omega) z2 z3 e1 e2
  refine wpS_iF (fun z => c1 (beq_iff_eq.mp z)) ?_
  obtain ⟨z, ez, uz⟩ := el (sa + k + (na - k) - 1) (by omega)
  have ez' : (arrOf st)[sa + na - 1]? = some z := by rw [← ez]; congr 1; omega
  refine wpS_bind (wpS_el ez ?_)
  refine wpS_bind (wpS_galL hc hk uz (by show sa + na + nb ≤ (arrOf st).size; omega) hU s2 (by omega) fun n hn1 hn2 hn3 => ?_)
  dsimp only
  have az : ∀ {j : Nat} {q : Keyed}, sa ≤ j → j < sa + na → (arrOf st)[j]? = some q → key q ≤ key z := fun {j q} z1 z2 z3 => s1 j (sa + na - 1) q z z1 (by omega) (by omega) z3 ez'
  by_cases c2 : n = 0
  · refine wpS_iT (beq_iff_eq.mpr c2) (wpS_pure (h _ (R0 _) rfl fun i j p q z1 z2 z3 e1 e2 => ?_))
    by_cases f1 : j < sa + na
    · exact s1 i j p q z1 z2 f1 e1 e2
    · by_cases f2 : i < sa + na
      · exact Int.le_trans (az z1 f2 e1) (hn3 j q (by omega) z3 e2)
      · exact s2 i j p q (by omega) z2 z3 e1 e2
  refine wpS_iF (fun z => c2 (beq_iff_eq.mp z)) ?_
  -- the two stretches
  have lx : ((arrOf st).extract (sa + k) (sa + na)).size = na - k := by rw [Array.size_extract]; omega
  have ly : ((arrOf st).extract (sa + na) (sa + na + n)).size = n := by rw [Array.size_extract]; omega
  have l1 : 1 ≤ ((arrOf st).extract (sa + k) (sa + na)).size := by rw [lx]; omega
  have l2 : 1 ≤ ((arrOf st).extract (sa + na) (sa + na + n)).size := by rw [ly]; omega
  have ux : ∀ x ∈ ((arrOf st).extract (sa + k) (sa + na)).toList, U x := fun x hx => by
    obtain ⟨j, _, _, e⟩ := ext_mem hx
    obtain ⟨h', e'⟩ := Array.getElem?_eq_some_iff.mp e
    exact hU x (e' ▸ Array.getElem_mem_toList h')
  have uy2 : ∀ x ∈ ((arrOf st).extract (sa + na) (sa + na + n)).toList, U x := fun x hx => by
    obtain ⟨j, _, _, e⟩ := ext_mem hx
    obtain ⟨h', e'⟩ := Array.getElem?_eq_some_iff.mp e
    exact hU x (e' ▸ Array.getElem_mem_toList h')
  have sx : SdR key ((arrOf st).extract (sa + k) (sa + na)) 0 ((arrOf st).extract (sa + k) (sa + na)).size := fun i j p q z1 z2 z3 e1 e2 => by
    obtain ⟨g1, _⟩ := ext_get e1
    obtain ⟨g2, _⟩ := ext_get e2
    exact s1 _ _ p q (by omega) (by omega) (by omega) g1 g2
  have sy : SdR key ((arrOf st).extract (sa + na) (sa + na + n)) 0 ((arrOf st).extract (sa + na) (sa + na + n)).size := fun i j p q z1 z2 z3 e1 e2 => by
    obtain ⟨g1, _⟩ := ext_get e1
    obtain ⟨g2, _⟩ := ext_get e2
    exact s2 _ _ p q (by omega) (by omega) (by omega) g1 g2
  have h0 : ∀ p q, ((arrOf st).extract (sa + k) (sa + na))[0]? = some p → ((arrOf st).extract (sa + na) (sa + na + n))[0]? = some q → key q ≤ key p := fun p q e1 e2 => by
    obtain ⟨g1, _⟩ := ext_get e1
    obtain ⟨g2, _⟩ := ext_get e2
    rw [Nat.add_zero, ey] at g2
    cases g2
    exact Int.le_of_lt (hk3 _ p (by omega) (by omega) g1)
  have hl : ∀ (i : Nat) (p q : Keyed), ((arrOf st).extract (sa + k) (sa + na))[((arrOf st).extract (sa + k) (sa + na)).size - 1]? = some p → ((arrOf st).extract (sa + na) (sa + na + n))[i]? = some q → key q ≤ key p := fun i p q e1 e2 => by
    obtain ⟨g1, _⟩ := ext_get e1
    obtain ⟨g2, g3⟩ := ext_get e2
    rw [lx, show sa + k + (na - k - 1) = sa + na - 1 by omega, ez'] at g1
    cases g1
    exact Int.le_of_lt (hn2 _ q (by omega) (by omega) g2)
  have fin : ∀ (r : Array Keyed) (st2 : SortSt), Sm (SortSt.mk' (kindOf st) (arrOf st) (((pendingOf st).setIfInBounds i (sa, na + nb, pw)).eraseIdxIfInBounds (i + 1)) (gallopOf st) (failedOf st)) st2 → MF key ((arrOf st).extract (sa + k) (sa + na)) ((arrOf st).extract (sa + na) (sa + na + n)) r →
      Q true (setArr st2 (r.toList.zipIdx.foldl (fun a (pj : Keyed × Nat) => a.setIfInBounds (sa + k + pj.2) pj.1) (arrOf st2))) ∧ failedOf st2 = none := fun r st2 hS hM => by
    obtain ⟨hp, hs⟩ := hM
    have lr : r.toList.length = na - k + n := by
      rw [hp.length_eq, List.length_append, Array.length_toList, Array.length_toList, lx, ly]
    have e2 : arrOf st2 = arrOf st := hS.2.1
    have hw := wr_list (base := sa + k) r.toList 0 (arrOf st) (by rw [lr]; omega)
    rw [Nat.add_zero, lr, show sa + k + (na - k + n) = sa + na + n by omega] at hw
    have hf2 : failedOf st2 = none := hS.2.2.2.trans hf
    refine ⟨?_, hf2⟩
    rw [e2]
    generalize r.toList.zipIdx.foldl (fun a (pj : Keyed × Nat) => a.setIfInBounds (sa + k + pj.2) pj.1) (arrOf st) = arr' at hw
    have ht : ((arrOf st).toList.take (sa + k)).length = sa + k := by rw [List.length_take, Array.length_toList]; omega
    have g1 : ∀ j, j < sa + k → arr'[j]? = (arrOf st)[j]? := fun j hj => by
      rw [← Array.getElem?_toList, hw, List.append_assoc, List.getElem?_append_left (by rw [ht]; exact hj), List.getElem?_take_of_lt hj, Array.getElem?_toList]
    have g2 : ∀ j, sa + k ≤ j → j < sa + na + n → arr'[j]? = r.toList[j - (sa + k)]? := fun j z1 z2 => by
      rw [← Array.getElem?_toList, hw, List.append_assoc, List.getElem?_append_right (by rw [ht]; exact z1), ht, List.getElem?_append_left (by rw [lr]; omega)]
    have g3 : ∀ j, sa + na + n ≤ j → arr'[j]? = (arrOf st)[j]? := fun j z1 => by
      rw [← Array.getElem?_toList, hw, List.getElem?_append_right (by rw [List.length_append, ht, lr]; omega), List.getElem?_drop, List.length_append, ht, lr, Array.getElem?_toList]
      congr 1
      omega
    have hperm : arr'.Perm (arrOf st) := by
      rw [Array.perm_iff_toList_perm, hw]
      have e3 : (arrOf st).toList = (arrOf st).toList.take (sa + k) ++ (((arrOf st).extract (sa + k) (sa + na)).toList ++ ((arrOf st).extract (sa + na) (sa + na + n)).toList) ++ (arrOf st).toList.drop (sa + na + n) := by
        rw [Array.toList_extract, Array.toList_extract, List.extract_eq_take_drop, List.extract_eq_take_drop]
        have q1 : (arrOf st).toList.drop (sa + k) = ((arrOf st).toList.drop (sa + k)).take (sa + na - (sa + k)) ++ ((arrOf st).toList.drop (sa + na)).take (sa + na + n - (sa + na)) ++ (arrOf st).toList.drop (sa + na + n) := by
          have t1 := (List.take_append_drop (sa + na - (sa + k)) ((arrOf st).toList.drop (sa + k))).symm
          rw [List.drop_drop, show sa + k + (sa + na - (sa + k)) = sa + na by omega] at t1
          have t2 := (List.take_append_drop (sa + na + n - (sa + na)) ((arrOf st).toList.drop (sa + na))).symm
          rw [List.drop_drop, show sa + na + (sa + na + n - (sa + na)) = sa + na + n by omega] at t2
          rw [List.append_assoc, ← t2]
          exact t1
        have q2 := (List.take_append_drop (sa + k) (arrOf st).toList).symm
        rw [q1] at q2
        rw [List.append_assoc, List.append_assoc]
        rw [List.append_assoc] at q2
        exact q2
      refine List.Perm.trans ?_ (List.Perm.of_eq e3.symm)
      exact (hp.append_left _).append_right _
    -- what lies in the merged stretch
    have gm : ∀ j p, sa + k ≤ j → j < sa + na + n → arr'[j]? = some p → (∃ i, sa + k ≤ i ∧ i < sa + na ∧ (arrOf st)[i]? = some p) ∨ ∃ i, sa + na ≤ i ∧ i < sa + na + n ∧ (arrOf st)[i]? = some p := fun j p z1 z2 e => by
      rw [g2 j z1 z2] at e
      rcases List.mem_append.mp (hp.mem_iff.mp (List.mem_of_getElem? e)) with q | q
      · exact .inl (ext_mem q)
      · exact .inr (ext_mem q)
    refine h _ ⟨hS.1, hS.2.2.2, hperm, fun j hj => ?_⟩ hS.2.2.1 fun i j p q z1 z2 z3 e1 e2 => ?_
    · show arr'[j]? = _
      rcases hj with hj | hj
      · exact g1 j (by omega)
      · exact g3 j (by omega)
    · replace e1 : arr'[i]? = some p := e1
      replace e2 : arr'[j]? = some q := e2
      by_cases i1 : i < sa + k
      · rw [g1 i i1] at e1
        have py : key p ≤ key y := hk2 i p z1 (by omega) e1
        by_cases j1 : j < sa + k
        · rw [g1 j j1] at e2
          exact s1 i j p q z1 z2 (by omega) e1 e2
        · by_cases j2 : j < sa + na + n
          · rcases gm j q (by omega) j2 e2 with ⟨j', y1, y2, y3⟩ | ⟨j', y1, y2, y3⟩
            · exact s1 i j' p q z1 (by omega) (by omega) e1 y3
            · exact Int.le_trans py (ba y1 (by omega) y3)
          · rw [g3 j (by omega)] at e2
            exact Int.le_trans py (ba (by omega) z3 e2)
      · by_cases i2 : i < sa + na + n
        · by_cases j2 : j < sa + na + n
          · rw [g2 i (by omega) i2] at e1
            rw [g2 j (by omega) j2] at e2
            by_cases ij : i = j
            · subst ij
              rw [e1] at e2
              cases e2
              exact Int.le_refl _
            · obtain ⟨b1, f1⟩ := List.getElem?_eq_some_iff.mp e1
              obtain ⟨b2, f2⟩ := List.getElem?_eq_some_iff.mp e2
              have := List.pairwise_iff_getElem.mp hs (i - (sa + k)) (j - (sa + k)) b1 b2 (by omega)
              rw [f1, f2] at this
              exact this
          · rw [g3 j (by omega)] at e2
            rcases gm i p (by omega) i2 e1 with ⟨i', y1, y2, y3⟩ | ⟨i', y1, y2, y3⟩
            · exact Int.le_trans (az (by omega) y2 y3) (hn3 j q (by omega) z3 e2)
            · exact s2 i' j p q y1 (by omega) z3 y3 e2
        · rw [g3 i (by omega)] at e1
          rw [g3 j (by omega)] at e2
          exact s2 i j p q (by omega) z2 z3 e1 e2
  have go : ∀ (r : Array Keyed) (st2 : SortSt), Sm (SortSt.mk' (kindOf st) (arrOf st) (((pendingOf st).setIfInBounds i (sa, na + nb, pw)).eraseIdxIfInBounds (i + 1)) (gallopOf st) (failedOf st)) st2 → MF key ((arrOf st).extract (sa + k) (sa + na)) ((arrOf st).extract (sa + na) (sa + na + n)) r → Q (failedOf (setArr st2 (r.toList.zipIdx.foldl (fun a (pj : Keyed × Nat) => a.setIfInBounds (sa + k + pj.2) pj.1) (arrOf st2)))).isNone (setArr st2 (r.toList.zipIdx.foldl (fun a (pj : Keyed × Nat) => a.setIfInBounds (sa + k + pj.2) pj.1) (arrOf st2))) := fun r st2 hS hM => by
    obtain ⟨q, hf2⟩ := fin r st2 hS hM
    show Q (failedOf st2).isNone _
    rw [hf2]
    exact q
  by_cases c3 : na - k ≤ n
  · refine wpS_iT c3 (wpS_bind (wpS_mLo hc hk ux uy2 sx sy l1 l2 h0 hl fun r st2 hS hM => ?_))
    exact wpS_bind (wpS_modify (wpS_bind (wpS_get (wpS_pure (go r st2 hS hM)))))
  · refine wpS_iF c3 (wpS_bind (wpS_mHi hc hk ux uy2 sx sy l1 l2 h0 hl fun r st2 hS hM => ?_))
    exact wpS_bind (wpS_modify (wpS_bind (wpS_get (wpS_pure (go r st2 hS hM)))))
end
end L2
namespace L2
open PySem PyProof.Rows
def Gx (key : Keyed → Int) (xs : Array Keyed) (i : Nat) : Int := match xs[i]? with
  | some x => key x
  | none => 0
def SdG (key : Keyed → Int) (xs : Array Keyed) (a b : Nat) : Prop := ∀ i j, a ≤ i → i ≤ j → j < b → Gx key xs i ≤ Gx key xs j
def NdG (key : Keyed → Int) (xs : Array Keyed) (a b : Nat) : Prop := ∀ i j, a ≤ i → i ≤ j → j < b → Gx key xs j ≤ Gx key xs i
theorem Gx_some {key : Keyed → Int} {xs : Array Keyed} {i : Nat} {x : Keyed} (e : xs[i]? = some x) : Gx key xs i = key x := by unfold Gx; rw [e]
theorem Gx_congr {key : Keyed → Int} {xs ys : Array Keyed} {i j : Nat} (e : xs[i]? = ys[j]?) : Gx key xs i = Gx key ys j := by unfold Gx; rw [e]
theorem SdG.sdR {key : Keyed → Int} {xs : Array Keyed} {a b : Nat} (h : SdG key xs a b) : SdR key xs a b := fun i j x y h1 h2 h3 e1 e2 => by
  have := h i j h1 h2 h3
  rwa [Gx_some e1, Gx_some e2] at this
theorem Gx_mir {key : Keyed → Int} {xs : Array Keyed} {i j : Nat} (hj : j ≤ xs.size) (k : Nat) : Gx key (mirror xs i j ((j - i) / 2)) k = if i ≤ k ∧ k < j then Gx key xs (i + j - 1 - k) else Gx key xs k := by
  have e := getElem?_mirror_all (i := i) hj k
  by_cases h1 : i ≤ k ∧ k < j
  · rw [if_pos h1] at e ⊢
    exact Gx_congr e
  · rw [if_neg h1] at e ⊢
    exact Gx_congr e
theorem Gx_mir_eq {key : Keyed → Int} {xs : Array Keyed} {i j : Nat} (hj : j ≤ xs.size) (h : ∀ k, i ≤ k → k < j → Gx key xs k = Gx key xs (j - 1)) (k : Nat) : Gx key (mirror xs i j ((j - i) / 2)) k = Gx key xs k := by
  rw [Gx_mir hj]
  split
  · rw [h _ (by omega) (by omega), h k (by omega) (by omega)]
  · rfl
def Rp (st st' : SortSt) (lo hi : Nat) : Prop := Rs st st' lo hi ∧ pendingOf st' = pendingOf st
theorem Rp.refl {st : SortSt} {lo hi : Nat} : Rp st st lo hi := ⟨.refl, rfl⟩
theorem Rp.rev {st st' : SortSt} {lo hi i j : Nat} (h : Rp st st' lo hi) (h1 : lo ≤ i) (h2 : j ≤ hi) (h3 : j ≤ (arrOf st').size) : Rp st (setArr st' (mirror (arrOf st') i j ((j - i) / 2))) lo hi :=
  ⟨h.1.trans ⟨rfl, rfl, mirror_perm _ _ _ _, fun k hk => by
    show (mirror (arrOf st') i j ((j - i) / 2))[k]? = _
    rw [getElem?_mirror_all h3, if_neg (by omega)]⟩, h.2⟩
section
variable {prog : Program} {w : World} {A : Around} {E : Value → Shared → Prop} {s : Shared} {κ : SortKind} {key : Keyed → Int} {U : Keyed → Prop} {st : SortSt}
theorem wpS_jq {σ α β : Type} {M : Model} {m : StateT σ Sem α} (f : β → StateT σ Sem α) (R : σ → Prop) {Q : α → σ → Prop} {st : σ} (h : ∀ x st', R st' → wpS M A E s (f x) Q st') (k : (∀ x st', R st' → wpS M A E s (f x) Q st') → wpS M A E s m Q st) : wpS M A E s m Q st := k h
theorem wpS_ltG {i j : Nat} {Q : Option Bool → SortSt → Prop} (hc : Cm prog w A κ key U s) (hk : kindOf st = κ) (hU : ∀ x ∈ (arrOf st).toList, U x) (hi : i < (arrOf st).size) (hj : j < (arrOf st).size) (h : Q (some (decide (Gx key (arrOf st) i < Gx key (arrOf st) j))) st) : wpS (model prog w) A E s (ltAt' i j) Q st := by
  have ei : (arrOf st)[i]? = some (arrOf st)[i] := getElem?_pos _ i hi
  have ej : (arrOf st)[j]? = some (arrOf st)[j] := getElem?_pos _ j hj
  rw [Gx_some ei, Gx_some ej] at h
  rw [ltAt'_eq]
  exact wpS_bind (wpS_get (wpS_bind (wpS_el ei (wpS_bind (wpS_el ej (wpS_lt2 hc hk (hU _ (Array.getElem_mem_toList hi)) (hU _ (Array.getElem_mem_toList hj)) h))))))
theorem SdG.snoc {xs : Array Keyed} {a b : Nat} (h : SdG key xs a b) (hab : a < b) (hle : Gx key xs (b - 1) ≤ Gx key xs b) : SdG key xs a (b + 1) := fun i j z1 z2 z3 => by
  by_cases e : j < b
  · exact h i j z1 z2 e
  · have ej : j = b := by omega
    subst ej
    by_cases e2 : i = j
    · subst e2
      exact Int.le_refl _
    · exact Int.le_trans (h i (j - 1) z1 (by omega) (by omega)) hle
theorem NdG.snoc {xs : Array Keyed} {a b : Nat} (h : NdG key xs a b) (hle : a < b → Gx key xs b ≤ Gx key xs (b - 1)) : NdG key xs a (b + 1) := fun i j z1 z2 z3 => by
  by_cases e : j < b
  · exact h i j z1 z2 e
  · have ej : j = b := by omega
    subst ej
    by_cases e2 : i = j
    · subst e2
      exact Int.le_refl _
    · exact Int.le_trans (hle (by omega)) (h i (j - 1) z1 (by omega) (by omega))
theorem NdG.same {xs ys : Array Keyed} {a b : Nat} (h : NdG key xs a b) (e : ∀ k, Gx key ys k = Gx key xs k) : NdG key ys a b := fun i j z1 z2 z3 => by
  rw [e, e]
  exact h i j z1 z2 z3
theorem wpS_cnt {lo nrem : Nat} {Q : Option Nat → SortSt → Prop} (hc : Cm prog w A κ key U s) (hk : kindOf st = κ) (hU : ∀ x ∈ (arrOf st).toList, U x) (h1 : 1 ≤ nrem) (hsz : lo + nrem ≤ (arrOf st).size)
    (h : ∀ m st', Rp st st' lo (lo + nrem) → 1 ≤ m → m ≤ nrem → SdG key (arrOf st') lo (lo + m) → Q (some m) st') : wpS (model prog w) A E s (countRun' lo nrem) Q st := by
  refine wpS_bind (wpS_mono (wpS_forRange (I := fun x c st' => st' = st ∧ c = (none, x) ∧ SdG key (arrOf st) lo (lo + x)) (Q := fun c st' => st' = st ∧ ∃ n, c = (none, n) ∧ 1 ≤ n ∧ n ≤ nrem ∧ SdG key (arrOf st) lo (lo + n) ∧ (n = nrem ∨ Gx key (arrOf st) (lo + n) < Gx key (arrOf st) (lo + n - 1))) ?_ ?_ ⟨rfl, rfl, fun i j z1 z2 z3 => ?_⟩) ?_)
  · rintro x c st' hx1 hx ⟨rfl, rfl, q⟩
    refine wpS_bind (wpS_ltG hc hk hU (by show lo + x < _; omega) (by show lo + x - 1 < _; omega) ?_)
    dsimp only
    by_cases e : Gx key (arrOf st') (lo + x) < Gx key (arrOf st') (lo + x - 1)
    · rw [decide_eq_true e, if_pos rfl]
      exact wpS_pure ⟨rfl, x, rfl, hx1, by omega, q, .inr e⟩
    · rw [decide_eq_false e, if_neg (by decide)]
      exact wpS_pure ⟨rfl, rfl, q.snoc (by omega) (by omega)⟩
  · rintro c st' ⟨rfl, rfl, q⟩
    rw [show max 1 nrem = nrem by omega] at q ⊢
    exact ⟨rfl, nrem, rfl, h1, Nat.le_refl _, q, .inl rfl⟩
  · have : i = j := by omega
    subst this
    exact Int.le_refl _
  rintro c st' ⟨rfl, n, rfl, n1, n2, q, hor⟩
  by_cases c1 : n = nrem
  · exact wpS_iT (beq_iff_eq.mpr c1) (wpS_pure (h n _ .refl n1 n2 q))
  refine wpS_iF (fun z => c1 (beq_iff_eq.mp z)) ?_
  have hlt := hor.resolve_left c1
  dsimp -zeta only
  extract_lets n' neq jp
  refine wpS_jq jp (fun st2 => Rp st' st2 lo (lo + nrem) ∧ NdG key (arrOf st2) lo (lo + n + 1)) (fun u st2 hR => ?_) fun hJ => ?_
  rotate_left
  · by_cases c2 : n > 1
    · refine wpS_iT c2 ?_
      refine wpS_bind (wpS_ltG hc hk hU (by omega) (by omega) ?_)
      dsimp only
      by_cases e : Gx key (arrOf st') lo < Gx key (arrOf st') (lo + n - 1)
      · rw [decide_eq_true e, if_pos rfl]
        exact wpS_pure (h n _ .refl n1 n2 q)
      · rw [decide_eq_false e, if_neg (by decide)]
        have hall : ∀ k, lo ≤ k → k < lo + n → Gx key (arrOf st') k = Gx key (arrOf st') (lo + n - 1) := fun k z1 z2 => by
          have a1 := q lo k (Nat.le_refl _) z1 z2
          have a2 := q k (lo + n - 1) z1 (by omega) (by omega)
          omega
        refine wpS_bind (wpS_reverse (hJ () _ ⟨Rp.refl.rev (Nat.le_refl _) (by omega) (by omega), ?_⟩))
        refine NdG.same (xs := arrOf st') (NdG.snoc (fun i j z1 z2 z3 => ?_) fun _ => Int.le_of_lt hlt) (Gx_mir_eq (by omega) hall)
        rw [hall i z1 (by omega), hall j (by omega) z3]
        exact Int.le_refl _
    · refine wpS_iF c2 (hJ () _ ⟨.refl, NdG.snoc (fun i j z1 z2 z3 => ?_) fun _ => Int.le_of_lt hlt⟩)
      have : i = j := by omega
      subst this
      exact Int.le_refl _
  obtain ⟨R2, N2⟩ := hR
  refine wpS_bind (wpS_lift (wpAny_rule ⟨rfl, ?_⟩))
  refine wpS_bind (wpS_mono (wpS_forRange (I := fun x c st3 => ∃ e, c = (none, x, e) ∧ Rp st' st3 lo (lo + nrem) ∧ NdG key (arrOf st3) lo (lo + x) ∧ e + 1 ≤ x ∧ ∀ i, lo + x - (e + 1) ≤ i → i < lo + x → Gx key (arrOf st3) i = Gx key (arrOf st3) (lo + x - 1)) (Q := fun c st3 => ∃ x e, c = (none, x, e) ∧ Rp st' st3 lo (lo + nrem) ∧ x ≤ nrem ∧ NdG key (arrOf st3) lo (lo + x) ∧ e + 1 ≤ x ∧ ∀ i, lo + x - (e + 1) ≤ i → i < lo + x → Gx key (arrOf st3) i = Gx key (arrOf st3) (lo + x - 1)) ?_ ?_ ⟨0, rfl, R2, N2, by omega, fun i z1 z2 => by congr 1; omega⟩) ?_)
  · rintro x c st3 hx1 hx ⟨e, rfl, R3, N3, p1, p2⟩
    have hs3 := R3.1.size
    have hk3 := R3.1.kind.trans hk
    have hU3 := R3.1.us hU
    replace hx1 : n + 1 ≤ x := hx1
    refine wpS_bind (wpS_ltG hc hk3 hU3 (by show lo + x < _; omega) (by show lo + x - 1 < _; omega) ?_)
    dsimp only
    by_cases e1 : Gx key (arrOf st3) (lo + x) < Gx key (arrOf st3) (lo + x - 1)
    · rw [decide_eq_true e1, if_pos rfl]
      by_cases e2 : e > 0
      · rw [if_pos e2]
        refine wpS_bind (wpS_reverse (wpS_pure ⟨0, rfl, R3.rev (by omega) (by omega) (by omega), ?_, by omega, fun i z1 z2 => by congr 1; omega⟩))
        exact NdG.same (xs := arrOf st3) (N3.snoc fun _ => Int.le_of_lt e1) (Gx_mir_eq (by omega) p2)
      · rw [if_neg e2]
        exact wpS_pure ⟨0, rfl, R3, N3.snoc fun _ => Int.le_of_lt e1, by omega, fun i z1 z2 => by congr 1; omega⟩
    · rw [decide_eq_false e1, if_neg (by decide)]
      refine wpS_bind (wpS_ltG hc hk3 hU3 (by omega) (by omega) ?_)
      dsimp only
      by_cases e2 : Gx key (arrOf st3) (lo + x - 1) < Gx key (arrOf st3) (lo + x)
      · rw [decide_eq_true e2, if_pos rfl]
        exact wpS_pure ⟨x, e, rfl, R3, by omega, N3, p1, p2⟩
      · rw [decide_eq_false e2, if_neg (by decide)]
        have e3 : Gx key (arrOf st3) (lo + x) = Gx key (arrOf st3) (lo + x - 1) := by omega
        refine wpS_pure ⟨e + 1, rfl, R3, N3.snoc fun _ => by omega, by omega, fun i z1 z2 => ?_⟩
        rw [show lo + (x + 1) - 1 = lo + x by omega]
        by_cases e4 : i = lo + x
        · rw [e4]
        · rw [e3]
          exact p2 i (by omega) (by omega)
  · rintro c st3 ⟨e, rfl, R3, N3, p1, p2⟩
    rw [show max (n + 1) nrem = nrem by omega] at N3 p1 p2
    rw [show max n' nrem = nrem from (by show max (n + 1) nrem = nrem; omega)]
    exact ⟨nrem, e, rfl, R3, Nat.le_refl _, N3, p1, p2⟩
  rintro c st3 ⟨x, e, rfl, R3, x2, N3, p1, p2⟩
  have hs3 := R3.1.size
  dsimp -zeta only
  extract_lets _ _ x' e' jp2
  refine wpS_jq jp2 (fun st4 => Rp st' st4 lo (lo + nrem) ∧ NdG key (arrOf st4) lo (lo + x)) (fun u st4 hR => ?_) fun hJ => ?_
  rotate_left
  · by_cases e2 : e > 0
    · exact wpS_iT e2 (wpS_bind (wpS_reverse (hJ () _ ⟨R3.rev (by show lo ≤ lo + x - (e + 1); omega) (by show lo + x ≤ _; omega) (by show lo + x ≤ _; omega), NdG.same (xs := arrOf st3) N3 (Gx_mir_eq (by show lo + x ≤ _; omega) p2)⟩)))
    · exact wpS_iF e2 (hJ () _ ⟨R3, N3⟩)
  obtain ⟨R4, N4⟩ := hR
  have hs4 := R4.1.size
  refine wpS_bind (wpS_reverse ?_)
  have R5 := R4.rev (i := lo) (j := lo + x) (Nat.le_refl _) (by omega) (by omega)
  have N5 : SdG key (arrOf (setArr st4 (mirror (arrOf st4) lo (lo + x) ((lo + x - lo) / 2)))) lo (lo + x) := fun i j z1 z2 z3 => by
    show Gx key (mirror (arrOf st4) lo (lo + x) ((lo + x - lo) / 2)) i ≤ Gx key (mirror (arrOf st4) lo (lo + x) ((lo + x - lo) / 2)) j
    rw [Gx_mir (by omega), Gx_mir (by omega), if_pos (by omega), if_pos (by omega)]
    exact N4 _ _ (by omega) (by omega) (by omega)
  show wpS _ _ _ _ _ _ (setArr st4 (mirror (arrOf st4) lo (lo + x) ((lo + x - lo) / 2)))
  generalize setArr st4 (mirror (arrOf st4) lo (lo + x) ((lo + x - lo) / 2)) = st5 at R5 N5
  have hs5 := R5.1.size
  have hk5 := R5.1.kind.trans hk
  have hU5 := R5.1.us hU
  refine wpS_bind (wpS_mono (wpS_forRange (I := fun y c st6 => st6 = st5 ∧ c = (none, y) ∧ SdG key (arrOf st5) lo (lo + y)) (Q := fun c st6 => st6 = st5 ∧ ∃ n, c = (none, n) ∧ 1 ≤ n ∧ n ≤ nrem ∧ SdG key (arrOf st5) lo (lo + n)) ?_ ?_ ⟨rfl, rfl, N5⟩) ?_)
  · rintro y c st6 hx1 hx ⟨rfl, rfl, q⟩
    replace hx1 : x ≤ y := hx1
    refine wpS_bind (wpS_ltG hc hk5 hU5 (by show lo + y < _; omega) (by show lo + y - 1 < _; omega) ?_)
    dsimp only
    by_cases e : Gx key (arrOf st6) (lo + y) < Gx key (arrOf st6) (lo + y - 1)
    · rw [decide_eq_true e, if_pos rfl]
      exact wpS_pure ⟨rfl, y, rfl, by omega, by omega, q⟩
    · rw [decide_eq_false e, if_neg (by decide)]
      exact wpS_pure ⟨rfl, rfl, q.snoc (by omega) (by omega)⟩
  · rintro c st6 ⟨rfl, rfl, q⟩
    have em : max x' nrem = nrem := by show max x nrem = nrem; omega
    rw [em] at q ⊢
    exact ⟨rfl, nrem, rfl, h1, Nat.le_refl _, q⟩
  · rintro c st6 ⟨rfl, m, rfl, m1, m2, q⟩
    exact wpS_pure (h m _ R5 m1 m2 q)
theorem wpS_bin {lo n ok : Nat} {Q : Bool → SortSt → Prop} (hc : Cm prog w A κ key U s) (hk : kindOf st = κ) (hU : ∀ x ∈ (arrOf st).toList, U x) (hsz : lo + n ≤ (arrOf st).size) (hok : ok ≤ n) (hs : SdG key (arrOf st) lo (lo + ok))
    (h : ∀ st', Rp st st' lo (lo + n) → SdG key (arrOf st') lo (lo + n) → Q true st') : wpS (model prog w) A E s (binarySort' lo n ok) Q st := by
  refine wpS_bind (wpS_mono (wpS_forRange (I := fun k c st' => c = (none, ()) ∧ Rp st st' lo (lo + n) ∧ SdG key (arrOf st') lo (lo + min k n)) (Q := fun c st' => c = (none, ()) ∧ Rp st st' lo (lo + n) ∧ SdG key (arrOf st') lo (lo + n)) ?_ ?_ ⟨rfl, .refl, fun i j z1 z2 z3 => ?_⟩) ?_)
  · rintro k c st' k1 k2 ⟨rfl, R, q⟩
    rw [show min k n = k by omega] at q
    have hs' := R.1.size
    refine wpS_bind (wpS_mono (wpS_forRange (I := fun x c st2 => st2 = st' ∧ ∃ l r, c = (none, l, r) ∧ l ≤ r ∧ r ≤ k ∧ r - l ≤ k - x ∧ (∀ i, i < l → Gx key (arrOf st') (lo + i) ≤ Gx key (arrOf st') (lo + k)) ∧ ∀ i, r ≤ i → i < k → Gx key (arrOf st') (lo + k) < Gx key (arrOf st') (lo + i))
      (Q := fun c st2 => st2 = st' ∧ ∃ l r, c = (none, l, r) ∧ l ≤ k ∧ (∀ i, i < l → Gx key (arrOf st') (lo + i) ≤ Gx key (arrOf st') (lo + k)) ∧ ∀ i, l ≤ i → i < k → Gx key (arrOf st') (lo + k) < Gx key (arrOf st') (lo + i)) ?_ ?_ ⟨rfl, 0, k, rfl, by omega, by omega, by omega, fun i hi => by omega, fun i z1 z2 => by omega⟩) ?_)
    · rintro x c st2 _ hx ⟨rfl, l, r, rfl, p1, p2, p3, p4, p5⟩
      dsimp only
      by_cases e : l ≥ r
      · rw [if_pos e]
        have : l = r := by omega
        subst this
        exact wpS_pure ⟨rfl, l, l, rfl, p2, p4, p5⟩
      · rw [if_neg e]
        refine wpS_bind (wpS_ltG hc (R.1.kind.trans hk) (R.1.us hU) (by omega) (by omega) ?_)
        dsimp only
        by_cases e1 : Gx key (arrOf st2) (lo + k) < Gx key (arrOf st2) (lo + (l + r) / 2)
        · rw [decide_eq_true e1, if_pos rfl]
          exact wpS_pure ⟨rfl, l, _, rfl, by omega, by omega, by omega, p4, fun i z1 z2 => Int.lt_of_lt_of_le e1 (q _ _ (by omega) (by omega) (by omega))⟩
        · rw [decide_eq_false e1, if_neg (by decide)]
          exact wpS_pure ⟨rfl, _, r, rfl, by omega, by omega, by omega, fun i z1 => Int.le_trans (q (lo + i) (lo + (l + r) / 2) (by omega) (by omega) (by omega)) (by omega), p5⟩
    · rintro c st2 ⟨rfl, l, r, rfl, p1, p2, p3, p4, p5⟩
      have : l = r := by omega
      subst this
      exact ⟨rfl, l, l, rfl, p2, p4, p5⟩
    · rintro c st2 ⟨rfl, l, r, rfl, p2, p4, p5⟩
      have ks : lo + k < (arrOf st2).size := by omega
      have gb := fun i => getElem?_bubble (xs := arrOf st2) ks (lo + k - (lo + l)) (by omega) i
      rw [show lo + k - (lo + k - (lo + l)) = lo + l by omega] at gb
      refine wpS_bind (wpS_modify (wpS_pure ⟨rfl, ⟨R.1.trans ⟨rfl, rfl, bubble_perm _ _ _, fun j hj => ?_⟩, R.2⟩, fun i j z1 z2 z3 => ?_⟩))
      · show (bubble (arrOf st2) (lo + k) (lo + k - (lo + l)))[j]? = _
        rw [gb, if_neg (by omega), if_neg (by omega)]
      · rw [show min (k + 1) n = k + 1 by omega] at z3
        have gg : ∀ i, Gx key (bubble (arrOf st2) (lo + k) (lo + k - (lo + l))) i = if i = lo + l then Gx key (arrOf st2) (lo + k) else if lo + l < i ∧ i ≤ lo + k then Gx key (arrOf st2) (i - 1) else Gx key (arrOf st2) i := fun i => by
          have e := gb i
          by_cases f1 : i = lo + l
          · rw [if_pos f1] at e ⊢
            exact Gx_congr e
          · rw [if_neg f1] at e ⊢
            by_cases f2 : lo + l < i ∧ i ≤ lo + k
            · rw [if_pos f2] at e ⊢
              exact Gx_congr e
            · rw [if_neg f2] at e ⊢
              exact Gx_congr e
        show Gx key (bubble (arrOf st2) (lo + k) (lo + k - (lo + l))) i ≤ Gx key (bubble (arrOf st2) (lo + k) (lo + k - (lo + l))) j
        have lowp : ∀ i, lo ≤ i → i < lo + l → Gx key (arrOf st2) i ≤ Gx key (arrOf st2) (lo + k) := fun i y1 y2 => by
          have := p4 (i - lo) (by omega)
          rwa [show lo + (i - lo) = i by omega] at this
        have highp : ∀ i, lo + l ≤ i → i < lo + k → Gx key (arrOf st2) (lo + k) ≤ Gx key (arrOf st2) i := fun i y1 y2 => by
          have := p5 (i - lo) (by omega) (by omega)
          rw [show lo + (i - lo) = i by omega] at this
          omega
        rw [gg, gg]
        repeat' split
        all_goals first
          | (exfalso; omega)
          | exact Int.le_refl _
          | exact lowp _ (by omega) (by omega)
          | exact highp _ (by omega) (by omega)
          | exact q _ _ (by omega) (by omega) (by omega)
  · rintro c st' ⟨rfl, R, q⟩
    rw [show min (max (max ok 1) n) n = n by omega] at q
    exact ⟨rfl, R, q⟩
  · by_cases e : ok = 0
    · have : i = j := by omega
      subst this
      exact Int.le_refl _
    · exact hs i j z1 z2 (by omega)
  · rintro c st' ⟨rfl, R, q⟩
    exact wpS_pure (h _ R q)
end
end L2
namespace L2
open PySem PyProof.Rows
/-- runs, one behind the other, each rising -/
def Chn (key : Keyed → Int) (xs : Array Keyed) : List (Nat × Nat × Nat) → Nat → Nat → Prop
  | [], a, b => a = b
  | q :: r, a, b => q.1 = a ∧ 1 ≤ q.2.1 ∧ SdR key xs a (a + q.2.1) ∧ Chn key xs r (a + q.2.1) b
section
variable {key : Keyed → Int} {xs ys : Array Keyed}
theorem Chn.le : ∀ {l : List (Nat × Nat × Nat)} {a b : Nat}, Chn key xs l a b → a + l.length ≤ b
  | [], a, b, h => by
    have h' : a = b := h
    simp [h']
  | q :: r, a, b, ⟨h1, h2, h3, h4⟩ => by
    have := Chn.le h4
    rw [List.length_cons]
    omega
theorem Chn.out {lo hi : Nat} (e : ∀ j, j < lo ∨ hi ≤ j → ys[j]? = xs[j]?) : ∀ {l : List (Nat × Nat × Nat)} {a b : Nat}, Chn key xs l a b → b ≤ lo ∨ hi ≤ a → Chn key ys l a b
  | [], a, b, h, _ => h
  | q :: r, a, b, ⟨h1, h2, h3, h4⟩, hd => by
    have := Chn.le h4
    exact ⟨h1, h2, h3.out e (by omega), Chn.out e h4 (by omega)⟩
theorem Chn.snoc {n p : Nat} (h1 : 1 ≤ n) : ∀ {l : List (Nat × Nat × Nat)} {a b : Nat}, Chn key xs l a b → SdR key xs b (b + n) → Chn key xs (l ++ [(b, n, p)]) a (b + n)
  | [], a, b, h, hs => by
    have h' : a = b := h
    subst h'
    exact ⟨rfl, h1, hs, rfl⟩
  | q :: r, a, b, ⟨g1, g2, g3, g4⟩, hs => ⟨g1, g2, g3, Chn.snoc h1 g4 hs⟩
theorem Chn.pow {f : Nat × Nat × Nat → Nat × Nat × Nat} (hf : ∀ q, (f q).1 = q.1 ∧ (f q).2.1 = q.2.1) : ∀ {l : List (Nat × Nat × Nat)} (i : Nat) {a b : Nat}, Chn key xs l a b → Chn key xs (l.modify i f) a b
  | [], i, a, b, h => by simpa using h
  | q :: r, 0, a, b, ⟨g1, g2, g3, g4⟩ => by
    rw [List.modify_zero_cons]
    obtain ⟨e1, e2⟩ := hf q
    exact ⟨e1.trans g1, by rw [e2]; exact g2, by rw [e2]; exact g3, by rw [e2]; exact g4⟩
  | q :: r, i + 1, a, b, ⟨g1, g2, g3, g4⟩ => by
    rw [List.modify_succ_cons]
    exact ⟨g1, g2, g3, Chn.pow hf i g4⟩
theorem Chn.merge : ∀ {l : List (Nat × Nat × Nat)} (i : Nat) {a b : Nat}, Chn key xs l a b → i + 1 < l.length → ∃ sa na pw nb pb, l[i]? = some (sa, na, pw) ∧ l[i + 1]? = some (sa + na, nb, pb) ∧ 1 ≤ na ∧ 1 ≤ nb ∧ a ≤ sa ∧ sa + na + nb ≤ b ∧ SdR key xs sa (sa + na) ∧ SdR key xs (sa + na) (sa + na + nb) ∧ ∀ ys : Array Keyed, (∀ j, j < sa ∨ sa + na + nb ≤ j → ys[j]? = xs[j]?) → SdR key ys sa (sa + na + nb) → Chn key ys ((l.set i (sa, na + nb, pw)).eraseIdx (i + 1)) a b
  | [], i, a, b, h, hl => by simp at hl
  | [q], i, a, b, h, hl => by simp at hl
  | (sa, na, pw) :: (sb, nb, pb) :: r, 0, a, b, ⟨g1, g2, g3, h1, h2, h3, h4⟩, hl => by
    replace g1 : sa = a := g1
    replace h1 : sb = a + na := h1
    subst g1 h1
    have := Chn.le h4
    refine ⟨sa, na, pw, nb, pb, rfl, rfl, g2, h2, Nat.le_refl _, Nat.le_trans (Nat.le_add_right _ _) this, g3, h3, fun ys e hs => ?_⟩
    show Chn key ys ((sa, na + nb, pw) :: r) sa b
    refine ⟨rfl, by show 1 ≤ na + nb; have : 1 ≤ na := g2; omega, by show SdR key ys sa (sa + (na + nb)); rw [← Nat.add_assoc]; exact hs, ?_⟩
    show Chn key ys r (sa + (na + nb)) b
    rw [← Nat.add_assoc]
    exact Chn.out e h4 (.inr (Nat.le_refl _))
  | q :: q2 :: r, i + 1, a, b, ⟨g1, g2, g3, g4⟩, hl => by
    obtain ⟨sa, na, pw, nb, pb, e1, e2, k1, k2, k3, k4, k5, k6, k7⟩ := Chn.merge (l := q2 :: r) i g4 (by simpa using hl)
    refine ⟨sa, na, pw, nb, pb, by rw [List.getElem?_cons_succ]; exact e1, by rw [List.getElem?_cons_succ]; exact e2, k1, k2, by omega, k4, k5, k6, fun ys e hs => ?_⟩
    rw [List.set_cons_succ, List.eraseIdx_cons_succ]
    exact ⟨g1, g2, g3.out e (.inl k3), k7 ys e hs⟩
end
/-- the sort's state st' of st: the same things -/
structure Rg (st st' : SortSt) : Prop where
  kind : kindOf st' = kindOf st
  failed : failedOf st' = failedOf st
  perm : (arrOf st').Perm (arrOf st)
theorem Rg.refl {st : SortSt} : Rg st st := ⟨rfl, rfl, Array.Perm.refl _⟩
theorem Rg.rs {st st' st2 : SortSt} {lo hi : Nat} (h : Rg st st') (h2 : Rs st' st2 lo hi) : Rg st st2 := ⟨h2.kind.trans h.kind, h2.failed.trans h.failed, h2.perm.trans h.perm⟩
theorem Rg.size {st st' : SortSt} (h : Rg st st') : (arrOf st').size = (arrOf st).size := by
  have := (Array.perm_iff_toList_perm.mp h.perm).length_eq
  simpa using this
theorem Rg.us {st st' : SortSt} {U : Keyed → Prop} (h : Rg st st') (hU : ∀ x ∈ (arrOf st).toList, U x) : ∀ x ∈ (arrOf st').toList, U x := fun x hx => hU x ((Array.perm_iff_toList_perm.mp h.perm).mem_iff.mp hx)
section
variable {prog : Program} {w : World} {A : Around} {E : Value → Shared → Prop} {s : Shared} {κ : SortKind} {key : Keyed → Int} {U : Keyed → Prop} {st : SortSt}
theorem wpS_jpn' {σ α β : Type} {M : Model} {σ₀ : σ} {m : StateT σ Sem α} (f : β → StateT σ Sem α) (R : β → σ → Prop) {Q : α → σ → Prop} (h : ∀ x st, R x st → wpS M A E s (f x) Q st) (k : (∀ x st, R x st → wpS M A E s (f x) Q st) → wpS M A E s m Q σ₀) : wpS M A E s m Q σ₀ := k h
theorem wpS_mChn {i b : Nat} {Q : Bool → SortSt → Prop} (hc : Cm prog w A κ key U s) (hk : kindOf st = κ) (hf : failedOf st = none) (hU : ∀ x ∈ (arrOf st).toList, U x) (hC : Chn key (arrOf st) (pendingOf st).toList 0 b) (hb : b ≤ (arrOf st).size) (hi : i + 1 < (pendingOf st).size)
    (h : ∀ st', Rs st st' 0 b → Chn key (arrOf st') (pendingOf st').toList 0 b → (pendingOf st').size + 1 = (pendingOf st).size → Q true st') : wpS (model prog w) A E s (mergeAt' i) Q st := by
  obtain ⟨sa, na, pw, nb, pb, e1, e2, k1, k2, k3, k4, k5, k6, k7⟩ := hC.merge i (by rw [Array.length_toList]; exact hi)
  rw [Array.getElem?_toList] at e1 e2
  refine wpS_mAt hc hk hf hU e1 e2 k1 k2 (by omega) k5 k6 fun st' R ep hs => h st' (R.wide (Nat.zero_le _) k4) ?_ ?_
  · have := k7 (arrOf st') R.out hs
    rw [ep, Array.toList_eraseIdxIfInBounds, Array.toList_setIfInBounds]
    exact this
  · rw [ep, ← Array.length_toList, Array.toList_eraseIdxIfInBounds, Array.toList_setIfInBounds, List.length_eraseIdx, List.length_set, Array.length_toList, if_pos hi]
    omega
theorem wpS_srt {Q : Unit → SortSt → Prop} (hc : Cm prog w A κ key U s) (hk : kindOf st = κ) (hf : failedOf st = none) (hU : ∀ x ∈ (arrOf st).toList, U x) (hp : pendingOf st = #[]) (h1 : 1 ≤ (arrOf st).size)
    (h : ∀ st', Rg st st' → SdR key (arrOf st') 0 (arrOf st).size → Q () st') : wpS (model prog w) A E s sortRuns' Q st := by
  refine wpS_bind (wpS_get ?_)
  refine wpS_bind (wpS_mono (wpS_forRange (I := fun x c st' => ∃ lo, c = (none, lo) ∧ lo ≤ (arrOf st).size ∧ x ≤ lo ∧ Rg st st' ∧ Chn key (arrOf st') (pendingOf st').toList 0 lo) (Q := fun c st' => c = (none, (arrOf st).size) ∧ Rg st st' ∧ Chn key (arrOf st') (pendingOf st').toList 0 (arrOf st).size) ?_ ?_ ⟨0, rfl, Nat.zero_le _, Nat.zero_le _, .refl, by rw [hp]; rfl⟩) ?_)
  rotate_left
  · rintro c st' ⟨lo, rfl, l1, l2, R, hC⟩
    have : lo = (arrOf st).size := Nat.le_antisymm l1 (Nat.le_trans (Nat.le_max_right _ _) l2)
    subst this
    exact ⟨rfl, R, hC⟩
  · rintro c st' ⟨rfl, R, hC⟩
    refine wpS_bind (wpS_mono (wpS_forRange (I := fun x c st2 => c = (none, ()) ∧ Rg st st2 ∧ Chn key (arrOf st2) (pendingOf st2).toList 0 (arrOf st).size ∧ (pendingOf st2).size + x ≤ (arrOf st).size + 1) (Q := fun c st2 => c = (none, ()) ∧ Rg st st2 ∧ Chn key (arrOf st2) (pendingOf st2).toList 0 (arrOf st).size ∧ (pendingOf st2).size ≤ 1) ?_ ?_ ⟨rfl, R, hC, ?_⟩) ?_)
    · rintro x c st2 _ hx ⟨rfl, R2, hC2, hx2⟩
      refine wpS_bind (wpS_get ?_)
      by_cases e : (pendingOf st2).size ≤ 1
      · exact wpS_iT e (wpS_pure ⟨rfl, R2, hC2, e⟩)
      refine wpS_iF e ?_
      refine wpS_bind (wpS_mChn hc (R2.kind.trans hk) (R2.failed.trans hf) (R2.us hU) hC2 (by rw [R2.size]; exact Nat.le_refl _) ?_ fun st3 R3 hC3 hz => ?_)
      · show (if _ then (pendingOf st2).size - 2 - 1 else (pendingOf st2).size - 2) + 1 < (pendingOf st2).size
        have hb : ∀ (c : Prop) [Decidable c], (if c then (pendingOf st2).size - 2 - 1 else (pendingOf st2).size - 2) + 1 < (pendingOf st2).size := fun c _ => by
          split <;> omega
        exact hb _
      · exact wpS_iF (by decide) (wpS_pure ⟨rfl, R2.rs R3, hC3, by omega⟩)
    · rintro c st2 ⟨rfl, R2, hC2, hx2⟩
      replace hx2 : (pendingOf st2).size + max 0 (arrOf st).size ≤ (arrOf st).size + 1 := hx2
      exact ⟨rfl, R2, hC2, by omega⟩
    · have := hC.le
      rw [Array.length_toList] at this
      show (pendingOf st').size + 0 ≤ _
      omega
    · rintro c st2 ⟨rfl, R2, hC2, hz⟩
      refine wpS_pure (h st2 R2 ?_)
      have hz' : (pendingOf st2).toList.length ≤ 1 := by rw [Array.length_toList]; exact hz
      match hl : (pendingOf st2).toList, hC2, hz' with
      | [], hC2, _ =>
        have : 0 = (arrOf st).size := hC2
        omega
      | [q], ⟨g1, g2, g3, g4⟩, _ =>
        have e : 0 + q.2.1 = (arrOf st).size := g4
        rw [e] at g3
        exact g3
      | _ :: _ :: _, _, hz' => simp at hz'
  rintro x c st' _ hx ⟨lo, rfl, l1, l2, R, hC⟩
  by_cases c1 : lo ≥ (arrOf st).size
  · have : lo = (arrOf st).size := Nat.le_antisymm l1 c1
    subst this
    exact wpS_iT c1 (wpS_pure ⟨rfl, R, hC⟩)
  refine wpS_iF c1 ?_
  have hsz := R.size
  refine wpS_bind (wpS_cnt hc (R.kind.trans hk) (R.us hU) (by show 1 ≤ (arrOf st).size - lo; omega) (by show lo + ((arrOf st).size - lo) ≤ _; omega) fun m st2 R2 m1 m2 S2 => ?_)
  replace m2 : m ≤ (arrOf st).size - lo := m2
  dsimp -zeta only
  extract_lets n' jp force force'
  replace R2 : Rp st' st2 lo (lo + ((arrOf st).size - lo)) := R2
  replace S2 : SdG key (arrOf st2) lo (lo + m) := S2
  have C2 : Chn key (arrOf st2) (pendingOf st2).toList 0 lo := by
    rw [R2.2]
    exact hC.out R2.1.out (.inl (Nat.le_refl _))
  refine wpS_jpn' (jp ()) (fun m st2 => Rg st st2 ∧ 1 ≤ m ∧ lo + m ≤ (arrOf st).size ∧ Chn key (arrOf st2) (pendingOf st2).toList 0 lo ∧ SdR key (arrOf st2) lo (lo + m)) (fun n st3 hR => ?_) fun hJ => ?_
  rotate_left
  · have hs2 := R2.1.size
    have hf1 : force ≤ (arrOf st).size - lo := Nat.min_le_left _ _
    by_cases c2 : m < minRun' (arrOf st).size (arrOf st).size 0
    · have hf2 : m ≤ force := Nat.le_min.mpr ⟨m2, Nat.le_of_lt c2⟩
      refine wpS_iT c2 ?_
      refine wpS_bind (wpS_lift (wpAny_rule ⟨rfl, ?_⟩))
      refine wpS_bind (wpS_bin hc (R2.1.kind.trans (R.kind.trans hk)) (R2.1.us (R.us hU)) (n := force) (by omega) hf2 S2 fun st3 R3 S3 => ?_)
      refine wpS_iF (by decide) (hJ _ _ ⟨(R.rs R2.1).rs R3.1, Nat.le_trans m1 hf2, by show lo + force ≤ _; omega, ?_, S3.sdR⟩)
      rw [R3.2]
      exact C2.out R3.1.out (.inl (Nat.le_refl _))
    · exact wpS_iF c2 (hJ m st2 ⟨R.rs R2.1, m1, by omega, C2, S2.sdR⟩)
  clear R2 S2 C2 m1 m2 hC R hsz
  obtain ⟨R3, n1, n2, C3, S3⟩ := hR
  refine wpS_bind (wpS_get ?_)
  extract_lets lo2 jp2
  refine wpS_jq jp2 (fun st4 => Rg st st4 ∧ Chn key (arrOf st4) (pendingOf st4).toList 0 lo ∧ SdR key (arrOf st4) lo (lo + n)) (fun u st4 hR => ?_) fun hJ => ?_
  · obtain ⟨R4, C4, S4⟩ := hR
    refine wpS_bind (wpS_modify (wpS_pure ⟨lo + n, rfl, n2, by omega, ⟨R4.kind, R4.failed, R4.perm⟩, ?_⟩))
    show Chn key (arrOf st4) ((pendingOf st4).push (lo, n, 0)).toList 0 (lo + n)
    rw [Array.toList_push]
    exact C4.snoc n1 S4
  split
  · rename_i s1 k1 p1 _
    refine wpS_bind (wpS_mono (wpS_forRange (I := fun x c st4 => c = (none, ()) ∧ Rg st st4 ∧ Chn key (arrOf st4) (pendingOf st4).toList 0 lo ∧ SdR key (arrOf st4) lo (lo + n)) (Q := fun c st4 => c = (none, ()) ∧ Rg st st4 ∧ Chn key (arrOf st4) (pendingOf st4).toList 0 lo ∧ SdR key (arrOf st4) lo (lo + n)) ?_ (fun _ _ z => z) ⟨rfl, R3, C3, S3⟩) ?_)
    · rintro y c st4 _ hy ⟨rfl, R4, C4, S4⟩
      refine wpS_bind (wpS_get ?_)
      dsimp only
      by_cases e : (pendingOf st4).size > 1
      · have e' : (if (pendingOf st4).size > 1 then (pendingOf st4)[(pendingOf st4).size - 2]? else none) = some ((pendingOf st4)[(pendingOf st4).size - 2]'(by omega)) := by
          rw [if_pos e]
          exact getElem?_pos _ _ (by omega)
        rw [e']
        generalize (pendingOf st4)[(pendingOf st4).size - 2]'(by omega) = q
        obtain ⟨q1, q2, q3⟩ := q
        dsimp only
        split
        · exact wpS_pure ⟨rfl, R4, C4, S4⟩
        · refine wpS_bind (wpS_mChn hc (R4.kind.trans hk) (R4.failed.trans hf) (R4.us hU) C4 (by rw [R4.size]; omega) (by show (pendingOf st4).size - 2 + 1 < _; omega) fun st5 R5 C5 _ => ?_)
          exact wpS_iF (by decide) (wpS_pure ⟨rfl, R4.rs R5, C5, S4.out R5.out (.inr (Nat.le_refl _))⟩)
      · have e' : (if (pendingOf st4).size > 1 then (pendingOf st4)[(pendingOf st4).size - 2]? else none) = none := if_neg e
        rw [e']
        exact wpS_pure ⟨rfl, R4, C4, S4⟩
    · rintro c st4 ⟨rfl, R4, C4, S4⟩
      refine wpS_bind (wpS_modify (hJ () _ ⟨⟨R4.kind, R4.failed, R4.perm⟩, ?_, S4⟩))
      show Chn key (arrOf st4) ((pendingOf st4).modify _ _).toList 0 lo
      rw [Array.toList_modify]
      refine Chn.pow (fun q => ?_) _ C4
      exact ⟨rfl, rfl⟩
  · exact hJ () _ ⟨R3, C3, S3⟩
end
end L2
/-! EvBig: sorted of tuples, as many as there are. Behind EvLex and EvTim. -/
namespace L2
open PySem PySem.Spec PyProof.Rows PySem.W
theorem perm_idx {α : Type} (d : α) {l' l : List α} (h : l'.Perm l) : ∃ idx : List Nat, idx.Perm (List.range l.length) ∧ l' = idx.map fun i => l.getD i d := by
  induction h with
  | nil => exact ⟨[], List.Perm.refl _, rfl⟩
  | cons x _ ih =>
    obtain ⟨idx, h1, h2⟩ := ih
    refine ⟨0 :: idx.map (· + 1), ?_, ?_⟩
    · rw [List.length_cons, List.range_succ_eq_map]
      exact (h1.map _).cons _
    · rw [List.map_cons, List.map_map, h2]
      rfl
  | swap x y l =>
    refine ⟨1 :: 0 :: (List.range l.length).map (· + 2), ?_, ?_⟩
    · rw [List.length_cons, List.length_cons, List.range_succ_eq_map, List.range_succ_eq_map, List.map_cons, List.map_map]
      exact List.Perm.swap _ _ _
    · rw [List.map_cons, List.map_cons, List.map_map]
      show y :: x :: l = y :: x :: (List.range l.length).map fun i => l.getD i d
      congr 2
      apply List.ext_getElem
      · simp
      · intro i h1 h2
        simp [h1]
  | @trans l1 l2 l3 _ _ ih1 ih2 =>
    obtain ⟨i1, a1, b1⟩ := ih1
    obtain ⟨i2, a2, b2⟩ := ih2
    have hl2 : l2.length = l3.length := by rw [b2, List.length_map, a2.length_eq, List.length_range]
    refine ⟨i1.map fun i => i2.getD i 0, ?_, ?_⟩
    · refine (a1.map _).trans ?_
      rw [hl2]
      have e : ((List.range l3.length).map fun i => i2.getD i 0) = i2 := by
        have hi : i2.length = l3.length := by rw [a2.length_eq, List.length_range]
        apply List.ext_getElem
        · simp [hi]
        · intro i h1 h2
          simp [h2]
      rw [e]
      exact a2
    · rw [b1, List.map_map]
      refine List.map_congr_left fun i hi => ?_
      have hil : i < l2.length := List.mem_range.mp (a1.mem_iff.mp hi)
      have hi2 : i < i2.length := by rw [a2.length_eq, List.length_range]; omega
      show l2.getD i d = l3.getD (i2.getD i 0) d
      have e1 : l2.getD i d = (i2.map fun i => l3.getD i d).getD i d := by rw [← b2]
      rw [e1]
      simp [hi2]
def Later (a : Addr) (s s1 : Shared) : Prop := ∀ b o, b ≠ a → s.heap.get? b = some o → s1.heap.get? b = some o
section
variable {prog : Program} {w : World} {A : Around} {E : Value → Shared → Prop} {s : Shared}
theorem list_sortG {a : Addr} {vs : List Value} {n : Nat} {Z : PySem.Fin → Shared → Prop} (ho : s.heap.get? a = some (seqObj "list" vs.toArray n)) (hbig : vs.length ≤ 4000) (rk : Value → Int) (P : SortKind → Prop)
    (hκ : ∀ s1 : Shared, Later a s s1 → 0 < vs.length → ∀ Q : SortKind → Shared → Prop, (∀ κ, P κ → Q κ s1) → wpAny (model prog w) A (keyKind' vs.toArray) Q E s1)
    (hlt : ∀ s1 : Shared, Later a s s1 → ∀ κ, P κ → ∀ v ∈ vs, ∀ v' ∈ vs, ∀ (C : Bool → Shared → Prop) (E' : Value → Shared → Prop), C (decide (rk v < rk v')) s1 → wpAny (model prog w) A (keyLt' κ v v') C E' s1)
    (h : ∀ out : List Value, out.Perm vs → out.Pairwise (fun x y => rk x ≤ rk y) → Z (.done (.ret .none)) { s with heap := sortedHeap s.heap a vs out.toArray }) : wpAny (model prog w) A (Builtin.«list.sort» ⟨[.ref a], []⟩) Z E s := by
  have hlt' : a < s.heap.objs.size := Heap.lt_size ho
  obtain ⟨c1, g1⟩ : ∃ c1, (s.heap.update a (Obj.mapSeq fun _ => #[])).get? a = some (seqObj "list" #[] c1) := ⟨_, get?_update_seq ho (fun _ => #[])⟩
  have up : ∀ b o, b ≠ a → s.heap.get? b = some o → (((s.heap.update a (Obj.mapSeq fun _ => #[])).push (seqObj "tuple" vs.toArray 0)).push (seqObj "list" #[] 0)).get? b = some o := fun b o nb q => by
    refine Heap.get?_push_of_some _ (Heap.get?_push_of_some _ ?_)
    rw [Heap.get?_update_ne _ _ _ _ nb]
    exact q
  have g6 : (((s.heap.update a (Obj.mapSeq fun _ => #[])).push (seqObj "tuple" vs.toArray 0)).push (seqObj "list" #[] 0)).get? a = some (seqObj "list" #[] c1) := Heap.get?_push_of_some _ (Heap.get?_push_of_some _ g1)
  have hL : Later a s { s with heap := ((s.heap.update a (Obj.mapSeq fun _ => #[])).push (seqObj "tuple" vs.toArray 0)).push (seqObj "list" #[] 0) } := up
  rw [list_sort_plain]
  refine wpAny_bind (listItems_at ho rfl (wpAny_bind (listUpdate_at ho rfl ?_ (by rw [List.size_toArray, sizeLine_eq]; omega) (Nat.zero_le _))))
  refine wpAny_bind (seqEpoch_at g1 rfl (wpAny_bind (wpAny_newTuple ?_ (show vs.length ≤ sizeLine by rw [sizeLine_eq]; omega))))
  refine wpAny_bind (wpAny_newList (wpAny_holding ?_) (Nat.zero_le _))
  show wpAny (model prog w) A _ Z E { s with heap := ((s.heap.update a (Obj.mapSeq fun _ => #[])).push (seqObj "tuple" vs.toArray 0)).push (seqObj "list" #[] 0) }
  dsimp only
  by_cases h2 : vs.toArray.size < 2
  · rw [if_pos h2, if_pos h2]
    refine wpAny_bind (wpAny_pure ?_)
    rw [StateT.run_pure]
    refine wpAny_bind (wpAny_pure ?_)
    dsimp only
    refine wpAny_bind (seqEpoch_at g6 rfl (wpAny_bind (listUpdate_at g6 rfl ?_ (Nat.zero_le _) (by rw [Array.size_map]; show (pairsOf vs).size ≤ _; rw [pairsOf_size, sizeLine_eq]; omega))))
    simp only [bne_self_eq_false, Bool.false_eq_true, if_false]
    have e : (arrOf (SortSt.mk' general' (vs.toArray.zip vs.toArray) #[] 7 none)).map (·.2) = vs.toArray := by
      show (vs.toArray.zip vs.toArray).map (·.2) = vs.toArray
      apply Array.toList_inj.mp
      simp [List.map_snd_zip]
    have := h vs (List.Perm.refl _) (by
      rw [List.size_toArray] at h2
      match vs, h2 with
      | [], _ => exact .nil
      | [v], _ => exact List.pairwise_singleton _ _
      | _ :: _ :: _, h2 => (simp at h2; omega))
    refine wpAny_pure ?_
    rw [e]
    exact this
  · rw [if_neg h2, if_neg h2]
    rw [List.size_toArray] at h2
    refine wpAny_bind (hκ _ hL (by omega) _ fun κ hP => ?_)
    have ez : (vs.toArray.zip vs.toArray).toList = vs.map fun v => (v, v) := by
      rw [Array.toList_zip]
      apply List.ext_getElem
      · simp
      · intro i h1 h2
        simp
    have run := wpS_srt (prog := prog) (w := w) (A := A) (E := E) (s := { s with heap := ((s.heap.update a (Obj.mapSeq fun _ => #[])).push (seqObj "tuple" vs.toArray 0)).push (seqObj "list" #[] 0) }) (κ := κ) (key := fun p => rk p.1) (U := fun p => p.1 ∈ vs ∧ p.2 = p.1) (st := SortSt.mk' κ (vs.toArray.zip vs.toArray) #[] 7 none)
      (Q := fun _ st' => failedOf st' = none ∧ ∃ out : List Value, (arrOf st').map (·.2) = out.toArray ∧ out.Perm vs ∧ out.Pairwise (fun x y => rk x ≤ rk y))
      (fun x y Q E' hx hy q => hlt _ hL κ hP x.1 hx.1 y.1 hy.1 Q E' q) rfl rfl (fun x hx => by
        replace hx : x ∈ (vs.toArray.zip vs.toArray).toList := hx
        rw [ez] at hx
        obtain ⟨v, hv, rfl⟩ := List.mem_map.mp hx
        exact ⟨hv, rfl⟩) rfl (by show 1 ≤ (vs.toArray.zip vs.toArray).size; rw [← Array.length_toList, ez, List.length_map]; omega) (fun st' R hs => by
      refine ⟨R.failed, (arrOf st').toList.map (·.2), ?_, ?_, ?_⟩
      · apply Array.toList_inj.mp
        rw [Array.toList_map]
      · have := (Array.perm_iff_toList_perm.mp R.perm).map (·.2)
        replace this : ((arrOf st').toList.map (·.2)).Perm ((vs.toArray.zip vs.toArray).toList.map (·.2)) := this
        rw [ez, List.map_map] at this
        have e2 : (vs.map ((fun x : Keyed => x.2) ∘ fun v => (v, v))) = vs := by
          show vs.map id = vs
          exact List.map_id vs
        rw [e2] at this
        exact this
      · have hsz : (arrOf st').size = (arrOf (SortSt.mk' κ (vs.toArray.zip vs.toArray) #[] 7 none)).size := R.size
        have hm : ∀ p ∈ (arrOf st').toList, p.2 = p.1 := fun p hp => by
          have := (Array.perm_iff_toList_perm.mp R.perm).mem_iff.mp hp
          replace this : p ∈ (vs.toArray.zip vs.toArray).toList := this
          rw [ez] at this
          obtain ⟨v, hv, rfl⟩ := List.mem_map.mp this
          rfl
        rw [List.pairwise_map, List.pairwise_iff_getElem]
        intro i j hi hj hij
        rw [hm _ (List.getElem_mem hi), hm _ (List.getElem_mem hj)]
        rw [Array.length_toList] at hi hj
        exact hs i j _ _ (Nat.zero_le _) (Nat.le_of_lt hij) (by rw [← hsz]; exact hj) (getElem?_pos _ i hi) (getElem?_pos _ j hj))
    refine wpAny_bind (wpAny_mono run ?_ fun _ _ e => e)
    rintro ⟨⟨⟩, st'⟩ s' ⟨rfl, hf, out, eo, hpm, hsd⟩
    dsimp only at hf eo ⊢
    have fin := h out hpm hsd
    rw [eo]
    refine wpAny_bind (seqEpoch_at g6 rfl (wpAny_bind (listUpdate_at g6 rfl ?_ (Nat.zero_le _) (by rw [List.size_toArray, hpm.length_eq, sizeLine_eq]; omega))))
    rw [hf]
    simp only [bne_self_eq_false, Bool.false_eq_true, if_false]
    exact wpAny_pure fin
theorem sorted_G {l : Addr} {vs : List Value} {Q : Value → Shared → Prop} (hl : s.heap.IsList l vs.toArray ∨ s.heap.IsTuple l vs.toArray) (hbig : vs.length ≤ 4000) (rk : Value → Int) (P : SortKind → Prop)
    (hκ : ∀ s1 : Shared, (∀ b o, s.heap.get? b = some o → s1.heap.get? b = some o) → 0 < vs.length → ∀ (E' : Value → Shared → Prop) (Q : SortKind → Shared → Prop), (∀ κ, P κ → Q κ s1) → wpAny (model prog w) A.in1.in1 (keyKind' vs.toArray) Q E' s1)
    (hlt : ∀ s1 : Shared, (∀ b o, s.heap.get? b = some o → s1.heap.get? b = some o) → ∀ κ, P κ → ∀ v ∈ vs, ∀ v' ∈ vs, ∀ (C : Bool → Shared → Prop) (E' : Value → Shared → Prop), C (decide (rk v < rk v')) s1 → wpAny (model prog w) A.in1.in1 (keyLt' κ v v') C E' s1)
    (h : ∀ out : List Value, out.Perm vs → out.Pairwise (fun x y => rk x ≤ rk y) → Q (.ref (s.heap.objs.size + 1)) { s with heap := sortedAll s.heap vs out.toArray }) : wpAny (model prog w) A (call (.builtin "sorted") [.ref l]) Q E s := by
  refine Calls.call_function_entry kind_sorted plain_sorted entry_sorted (args_sorted1 _) ?_
  unfold Builtin.«sorted»
  have col : ∀ {A' : Around} {E' : Value → Shared → Prop} {Q' : List Value → Shared → Prop}, Q' vs { s with heap := (s.heap.push (seqObj "list" #[] 0)).update s.heap.objs.size (Obj.mapSeq (· ++ vs.toArray)) } → wpAny (model prog w) A' (collect (.ref l)) Q' E' s := fun q => by
    rcases hl with hl | hl
    · exact collect_list hl q (by rw [sizeLine_eq]; omega)
    · exact collect_tup hl q (by rw [sizeLine_eq]; omega)
  refine wpAny_bind (m := checkCount "sorted" 1 1 _) (wpAny_pure (wpAny_bind (col (wpAny_bind (wpAny_newList ?_ (by rw [sizeLine_eq]; omega))))))
  have n1 : ((s.heap.push (seqObj "list" #[] 0)).update s.heap.objs.size (Obj.mapSeq (· ++ vs.toArray))).objs.size = s.heap.objs.size + 1 := by rw [Heap.size_update, size_push']
  have up : ∀ b o, s.heap.get? b = some o → (((s.heap.push (seqObj "list" #[] 0)).update s.heap.objs.size (Obj.mapSeq (· ++ vs.toArray))).push (seqObj "list" vs.toArray 0)).get? b = some o := fun b o q => by
    refine Heap.get?_push_of_some _ ?_
    rw [Heap.get?_update_ne _ _ _ _ (Nat.ne_of_lt (Heap.lt_size q))]
    exact Heap.get?_push_of_some _ q
  have g2 : (((s.heap.push (seqObj "list" #[] 0)).update s.heap.objs.size (Obj.mapSeq (· ++ vs.toArray))).push (seqObj "list" vs.toArray 0)).get? (s.heap.objs.size + 1) = some (seqObj "list" vs.toArray 0) := by
    rw [← n1]; exact Heap.get?_push_size _ rfl
  show wpAny _ _ _ _ _ { s with heap := ((s.heap.push (seqObj "list" #[] 0)).update s.heap.objs.size (Obj.mapSeq (· ++ vs.toArray))).push (seqObj "list" vs.toArray 0) }
  rw [n1]
  have ln : ∀ s1 : Shared, Later (s.heap.objs.size + 1) { s with heap := ((s.heap.push (seqObj "list" #[] 0)).update s.heap.objs.size (Obj.mapSeq (· ++ vs.toArray))).push (seqObj "list" vs.toArray 0) } s1 → ∀ b o, s.heap.get? b = some o → s1.heap.get? b = some o := fun s1 hL b o q => hL b o (Nat.ne_of_lt (Nat.lt_succ_of_lt (Heap.lt_size q))) (up b o q)
  refine wpAny_bind (wpAny_holding (wpAny_call_entry slot_list_sort ⟨_, g2, rfl⟩ entry_list_sort (list_sortG (s := { s with heap := ((s.heap.push (seqObj "list" #[] 0)).update s.heap.objs.size (Obj.mapSeq (· ++ vs.toArray))).push (seqObj "list" vs.toArray 0) }) g2 hbig rk P (fun s1 hL h0 Q q => hκ s1 (ln s1 hL) h0 _ Q q) (fun s1 hL => hlt s1 (ln s1 hL)) fun out hp hs => ⟨_, rfl, wpAny_pure ⟨_, rfl, h out hp hs⟩⟩) (args_list_sort _)))
end
/-- how many of them are ahead -/
def rkB {α : Type} (lt : α → α → Bool) (vs : List α) (v : α) : Int := ((vs.countP fun u => lt u v : Nat) : Int)
theorem rkB_iff {α : Type} {lt : α → α → Bool} {vs : List α} (irr : ∀ a, lt a a = false) (tr : ∀ a b c, lt a b = true → lt b c = true → lt a c = true) (tri : ∀ a b, a ∈ vs → b ∈ vs → lt a b = false → lt b a = false → ∀ c, lt c a = lt c b) {u v : α} (hu : u ∈ vs) (hv : v ∈ vs) : decide (rkB lt vs u < rkB lt vs v) = lt u v := by
  have hlt : ∀ {x y}, x ∈ vs → lt x y = true → rkB lt vs x < rkB lt vs y := fun {x y} hx h => by
    have := countP_lt (p := fun u => lt u x) (q := fun u => lt u y) (l := vs) (fun z _ e => tr _ _ _ e h) hx h (irr x)
    unfold rkB
    omega
  cases e : lt u v with
  | true => exact decide_eq_true (hlt hu e)
  | false =>
    refine decide_eq_false fun z => ?_
    cases e2 : lt v u with
    | true => exact absurd (hlt hv e2) (by omega)
    | false =>
      have : rkB lt vs u = rkB lt vs v := by
        unfold rkB
        congr 1
        exact congrArg (fun p => vs.countP p) (funext fun c => tri u v hu hv e e2 c)
      omega
theorem rkB_le {α : Type} {lt : α → α → Bool} {vs : List α} (irr : ∀ a, lt a a = false) (tr : ∀ a b c, lt a b = true → lt b c = true → lt a c = true) (tri : ∀ a b, a ∈ vs → b ∈ vs → lt a b = false → lt b a = false → ∀ c, lt c a = lt c b) {u v : α} (hu : u ∈ vs) (hv : v ∈ vs) (h : rkB lt vs u ≤ rkB lt vs v) : lt v u = false := by
  rw [← rkB_iff irr tr tri hv hu]
  exact decide_eq_false (by omega)
theorem ints_uniq : ∀ {vs : List Value} {xs ys : List Int}, PyProof.Rows.IntsAre vs xs → PyProof.Rows.IntsAre vs ys → xs = ys
  | _, _, _, .nil, .nil => rfl
  | _, _, _, .cons n t h1, .cons _ _ h2 => by rw [ints_uniq h1 h2]
theorem TupI.uniq {h : Heap} {v : Value} {xs ys : List Int} (h1 : TupI h v xs) (h2 : TupI h v ys) : xs = ys := by
  obtain ⟨a, o, its, k, e, g, _, d, i1⟩ := h1
  obtain ⟨a', o', its', k', e', g', _, d', i2⟩ := h2
  rw [e] at e'
  cases e'
  rw [g] at g'
  cases g'
  rw [d] at d'
  cases d'
  exact ints_uniq i1 i2
open Classical in
noncomputable def Lv (h : Heap) (v : Value) : List Int := if e : ∃ L, TupI h v L then e.choose else []
section
variable {prog : Program} {w : World} {A : Around} {E : Value → Shared → Prop} {s : Shared}
end
end L2
/-! EvNst: sorted of pairs of a tuple of numbers and a number, as many as there are. Behind EvBig. -/
namespace L2
open PySem PySem.Spec PyProof.Rows PySem.W
/-- one pair ahead of the other: by the tuple, then by the number -/
def ltN (x y : List Int × Int) : Bool := if x.1 = y.1 then decide (x.2 < y.2) else lexB x.1 y.1
theorem ltN_irr (x : List Int × Int) : ltN x x = false := by
  unfold ltN
  rw [if_pos rfl]
  exact decide_eq_false (by omega)
theorem ltN_trans {x y z : List Int × Int} (h1 : ltN x y = true) (h2 : ltN y z = true) : ltN x z = true := by
  unfold ltN at *
  by_cases e1 : x.1 = y.1
  · rw [if_pos e1] at h1
    by_cases e2 : y.1 = z.1
    · rw [if_pos e2] at h2
      rw [if_pos (e1.trans e2)]
      have := of_decide_eq_true h1
      have := of_decide_eq_true h2
      exact decide_eq_true (by omega)
    · rw [if_neg e2] at h2
      rw [if_neg (fun z => e2 (e1.symm.trans z)), e1]
      exact h2
  · rw [if_neg e1] at h1
    by_cases e2 : y.1 = z.1
    · rw [if_neg (fun z => e1 (z.trans e2.symm)), ← e2]
      exact h1
    · rw [if_neg e2] at h2
      have h3 := lex_trans h1 h2
      have : x.1 ≠ z.1 := fun z => by
        rw [z, lex_irr] at h3
        cases h3
      rw [if_neg this]
      exact h3
theorem ltN_tri {x y : List Int × Int} (h1 : ltN x y = false) (h2 : ltN y x = false) : x = y := by
  unfold ltN at h1 h2
  by_cases e : x.1 = y.1
  · rw [if_pos e] at h1
    rw [if_pos e.symm] at h2
    have := of_decide_eq_false h1
    have := of_decide_eq_false h2
    exact Prod.ext e (by omega)
  · rw [if_neg e] at h1
    rw [if_neg (fun z => e z.symm)] at h2
    exact absurd (lex_tri h1 h2) e
section
variable {prog : Program} {w : World} {A : Around} {E : Value → Shared → Prop} {s : Shared}
theorem sorted_by {α : Type} (lt : α → α → Bool) (irr : ∀ a, lt a a = false) (tr : ∀ a b c, lt a b = true → lt b c = true → lt a c = true) (tri : ∀ a b, lt a b = false → lt b a = false → a = b) {l : Addr} {vs : List Value} {Q : Value → Shared → Prop} (hl : s.heap.IsList l vs.toArray ∨ s.heap.IsTuple l vs.toArray) (hbig : vs.length ≤ 4000) (x : Nat → α) (val : ∀ i j (hi : i < vs.length) (hj : j < vs.length), vs[i] = vs[j] → x i = x j) (P : SortKind → Prop)
    (hκ : ∀ s1 : Shared, (∀ b o, s.heap.get? b = some o → s1.heap.get? b = some o) → 0 < vs.length → ∀ (E' : Value → Shared → Prop) (Q : SortKind → Shared → Prop), (∀ κ, P κ → Q κ s1) → wpAny (model prog w) A.in1.in1 (keyKind' vs.toArray) Q E' s1)
    (hlt : ∀ s1 : Shared, (∀ b o, s.heap.get? b = some o → s1.heap.get? b = some o) → ∀ κ, P κ → ∀ i j (hi : i < vs.length) (hj : j < vs.length) (C : Bool → Shared → Prop) (E' : Value → Shared → Prop), C (lt (x i) (x j)) s1 → wpAny (model prog w) A.in1.in1 (keyLt' κ vs[i] vs[j]) C E' s1)
    (h : ∀ (out : List Value) (idx : List Nat), idx.Perm (List.range vs.length) → (∀ i, i + 1 < vs.length → lt (x (idx.getD (i + 1) 0)) (x (idx.getD i 0)) = false) → out = idx.map (fun i => vs.getD i Value.none) → out.Perm vs → Q (.ref (s.heap.objs.size + 1)) { s with heap := sortedAll s.heap vs out.toArray }) : wpAny (model prog w) A (call (.builtin "sorted") [.ref l]) Q E s := by
  have ix : ∀ v ∈ vs, ∃ h : vs.idxOf v < vs.length, vs[vs.idxOf v] = v := fun v hv => ⟨List.idxOf_lt_length_of_mem hv, List.getElem_idxOf _⟩
  have irr' : ∀ a, (fun u v => lt (x (vs.idxOf u)) (x (vs.idxOf v))) a a = false := fun a => irr _
  have tr' : ∀ a b c, (fun u v => lt (x (vs.idxOf u)) (x (vs.idxOf v))) a b = true → (fun u v => lt (x (vs.idxOf u)) (x (vs.idxOf v))) b c = true → (fun u v => lt (x (vs.idxOf u)) (x (vs.idxOf v))) a c = true := fun a b c => tr _ _ _
  have tri' : ∀ a b, a ∈ vs → b ∈ vs → (fun u v => lt (x (vs.idxOf u)) (x (vs.idxOf v))) a b = false → (fun u v => lt (x (vs.idxOf u)) (x (vs.idxOf v))) b a = false → ∀ c, (fun u v => lt (x (vs.idxOf u)) (x (vs.idxOf v))) c a = (fun u v => lt (x (vs.idxOf u)) (x (vs.idxOf v))) c b := fun a b _ _ h1 h2 c => by
    show lt _ (x (vs.idxOf a)) = lt _ (x (vs.idxOf b))
    rw [tri _ _ h1 h2]
  have xi : ∀ i (hi : i < vs.length), x (vs.idxOf vs[i]) = x i := fun i hi => by
    obtain ⟨h1, h2⟩ := ix vs[i] (List.getElem_mem hi)
    exact val _ _ h1 hi h2
  refine sorted_G hl hbig (rkB (fun u v => lt (x (vs.idxOf u)) (x (vs.idxOf v))) vs) P hκ (fun s1 hs κ hP v hv v2 hv2 C E' hC => ?_) fun out hp hsd => ?_
  · obtain ⟨h1, h2⟩ := ix v hv
    obtain ⟨h3, h4⟩ := ix v2 hv2
    rw [rkB_iff irr' tr' tri' hv hv2] at hC
    have := hlt s1 hs κ hP _ _ h1 h3 C E' hC
    rw [h2, h4] at this
    exact this
  · obtain ⟨idx, h1, h2⟩ := perm_idx Value.none hp
    refine h out idx h1 (fun i hi => ?_) h2 hp
    have hlen : idx.length = vs.length := by rw [h1.length_eq, List.length_range]
    have hol : out.length = vs.length := hp.length_eq
    have hpw := List.pairwise_iff_getElem.mp hsd i (i + 1) (by omega) (by omega) (by omega)
    have hle := rkB_le irr' tr' tri' (hp.mem_iff.mp (List.getElem_mem (by omega))) (hp.mem_iff.mp (List.getElem_mem (by omega))) hpw
    have eo : ∀ j (hj : j < out.length), x (vs.idxOf out[j]) = x (idx.getD j 0) := fun j hj => by
      have e4 : idx.getD j 0 = idx[j]'(by omega) := by simp [show j < idx.length by omega]
      have hjx : idx.getD j 0 < vs.length := by
        rw [e4]
        exact List.mem_range.mp (h1.mem_iff.mp (List.getElem_mem _))
      have e3 : out[j] = vs[idx.getD j 0] := by
        have : out[j] = (idx.map fun i => vs.getD i Value.none)[j]'(by rw [List.length_map]; omega) := by
          congr 1
        rw [this, List.getElem_map]
        have e5 : idx[j]'(by omega) < vs.length := by rw [← e4]; exact hjx
        simp [e4, e5, show j < idx.length by omega]
      rw [e3]
      exact xi _ hjx
    have : lt (x (vs.idxOf out[i + 1])) (x (vs.idxOf out[i])) = false := hle
    rw [eo (i + 1) (by omega), eo i (by omega)] at this
    exact this
/-- a pair of a tuple of numbers and a number -/
def NsI (h : Heap) (v : Value) (x : List Int × Int) : Prop := ∃ (a : Addr) (o : Obj) (k : Nat) (d : Addr) (t : Tok), v = .ref a ∧ h.get? a = some o ∧ o.cls = .type "tuple" ∧ o.data = .seq #[.ref d, .int x.2 t] k ∧ TupI h (.ref d) x.1
theorem NsI.uniq {h : Heap} {v : Value} {x y : List Int × Int} (h1 : NsI h v x) (h2 : NsI h v y) : x = y := by
  obtain ⟨a, o, k, d, t, e, g, _, hd, T⟩ := h1
  obtain ⟨a', o', k', d', t', e', g', _, hd', T'⟩ := h2
  rw [e] at e'
  cases e'
  rw [g] at g'
  cases g'
  rw [hd] at hd'
  injection hd' with e1 e2
  have e3 := congrArg Array.toList e1
  simp only [List.cons.injEq, Value.ref.injEq, Value.int.injEq] at e3
  obtain ⟨rfl, ⟨e4, _⟩, _⟩ := e3
  exact Prod.ext (T.uniq T') e4
theorem NsI.up {h h' : Heap} (hs : ∀ b o, h.get? b = some o → h'.get? b = some o) {v : Value} {x : List Int × Int} (q : NsI h v x) : NsI h' v x := by
  obtain ⟨a, o, k, d, t, e, g, c, hd, a2, o2, i2, k2, e2, g2, c2, d2, I2⟩ := q
  exact ⟨a, o, k, d, t, e, hs _ _ g, c, hd, a2, o2, i2, k2, e2, hs _ _ g2, c2, d2, I2⟩
theorem items_ar2 : ∀ {vs : List Value} {xs : List Int}, PyProof.Rows.IntsAre vs xs → ItemsAre (intKind prog w) xs vs
  | _, _, .nil => .nil
  | _, _, .cons n t r => .cons (by show Value.isInt n (.int n t) = true; simp [Value.isInt]) (items_ar2 r)
theorem TupI.key {v : Addr} {xs : List Int} (h : TupI s.heap (.ref v) xs) : IsTupleKey (intKind prog w) s.heap xs v := by
  obtain ⟨a, o, its, k, e, g, c, d, I⟩ := h
  cases e
  exact ⟨o, its, k, g, c, d, items_ar2 I⟩
theorem ns_lt (hu : A.units < cLine) {v v' : Value} {x y : List Int × Int} {C : Bool → Shared → Prop} {E' : Value → Shared → Prop} (hv : NsI s.heap v x) (hv' : NsI s.heap v' y) (hC : C (ltN x y) s) : wpAny (model prog w) A (keyLt' (tuples' false) v v') C E' s := by
  obtain ⟨a, o, k, d, t, rfl, ho, hc, hd, T⟩ := hv
  obtain ⟨a', o', k', d', t', rfl, ho', hc', hd', T'⟩ := hv'
  refine kat_lt ho hd ho' hd' (kat_cons (wpAny_eqBool_tuple hu (T.key (prog := prog) (w := w)) (T'.key (prog := prog) (w := w)) (kat_go (fun e => kat_yes ?_) (fun e => kat_no ?_))))
  · have e1 : x.1 = y.1 := of_decide_eq_true e
    unfold ltN at hC
    rw [if_pos e1] at hC
    refine kat_cons (wpAny_eqBool_int (kat_go (fun e => kat_yes (kat_nil ?_)) (fun e => kat_no ?_)))
    · have e2 : x.2 = y.2 := by simpa using e
      rw [decide_eq_false (by omega)] at hC
      exact hC
    · exact kat_one _ _ (lt_int hC)
  · have e1 : x.1 ≠ y.1 := of_decide_eq_false e
    unfold ltN at hC
    rw [if_neg e1] at hC
    exact kat_one _ _ (show wpAny (model prog w) A (richCompare .Lt (.ref d) (.ref d')) _ _ s from wpAny_richCompare_same_room (op := .Lt) T.typeIs T'.typeIs F.slot_tuple_lt (call_tuple_lt T T' ⟨by nofun, hC⟩) hu)
theorem ns_tups {h : Heap} : ∀ {vs : List Value}, (∀ v ∈ vs, ∃ x, NsI h v x) → ∃ fs : List Value, KatTups h vs fs ∧ fs.length = vs.length ∧ ∀ f ∈ fs, ∃ (a : Addr) (xs : List Int), f = .ref a ∧ TupI h (.ref a) xs
  | [], _ => ⟨[], trivial, rfl, by simp⟩
  | v :: vs, hv => by
    obtain ⟨fs, h1, h2, h3⟩ := ns_tups (vs := vs) fun w hw => hv w (List.mem_cons_of_mem _ hw)
    obtain ⟨x, a, o, k, d, t, e, ho, hc, hd, T⟩ := hv v (List.mem_cons_self ..)
    refine ⟨.ref d :: fs, ⟨⟨a, o, _, k, e, ho, hc, hd, rfl⟩, h1⟩, by simp [h2], fun f hf => ?_⟩
    rcases List.mem_cons.mp hf with e | e
    · exact ⟨d, x.1, e, T⟩
    · exact h3 f e
theorem ns_kind {vs : List Value} {Q : SortKind → Shared → Prop} {E' : Value → Shared → Prop} (hv : ∀ v ∈ vs, ∃ x, NsI s.heap v x) (h0 : 0 < vs.length) (h : Q (tuples' false) s) : wpAny (model prog w) A (keyKind' vs.toArray) Q E' s := by
  obtain ⟨fs, hT, hfl, hfi⟩ := ns_tups hv
  refine kat_kind (T := .type "tuple") hT (by omega) (fun f hf => ?_) rfl h
  obtain ⟨a, xs, rfl, a', o, its, k, e, g, c, d, _⟩ := hfi f hf
  cases e
  have := (show Looks (model prog w) s.heap (typeOf (.ref a)) o.cls from (Looks.ld g).andThen .now)
  rw [c] at this
  exact this
theorem sorted_ns {l : Addr} {vs : List Value} {Q : Value → Shared → Prop} (hl : s.heap.IsList l vs.toArray ∨ s.heap.IsTuple l vs.toArray) (hbig : vs.length ≤ 4000) (hu : A.units + 64 < cLine) {x : Nat → List Int × Int} (hk : ∀ i (hi : i < vs.length), NsI s.heap vs[i] (x i))
    (h : ∀ (out : List Value) (idx : List Nat), idx.Perm (List.range vs.length) → (∀ i, i + 1 < vs.length → ltN (x (idx.getD (i + 1) 0)) (x (idx.getD i 0)) = false) → out = idx.map (fun i => vs.getD i Value.none) → out.Perm vs → Q (.ref (s.heap.objs.size + 1)) { s with heap := sortedAll s.heap vs out.toArray }) : wpAny (model prog w) A (call (.builtin "sorted") [.ref l]) Q E s := by
  refine sorted_by ltN ltN_irr (fun _ _ _ => ltN_trans) (fun _ _ => ltN_tri) hl hbig x (fun i j hi hj e => ?_) (fun κ => κ = tuples' false) (fun s1 hs h0 E' Q q => ?_) (fun s1 hs κ hP i j hi hj C E' hC => ?_) h
  · have := hk i hi
    rw [e] at this
    exact this.uniq (hk j hj)
  · refine ns_kind (fun v hv => ?_) h0 (q _ rfl)
    obtain ⟨i, hi, rfl⟩ := List.getElem_of_mem hv
    exact ⟨_, (hk i hi).up hs⟩
  · subst hP
    exact ns_lt (by show A.units + 1 + 1 < cLine; omega) ((hk i hi).up hs) ((hk j hj).up hs) hC
end
/-- cases with their counts, as pairs -/
def CaAt (H : Hp) : List V → List (List Nat × Nat) → Prop
  | [], [] => True
  | v :: vs, z :: zs => (∃ u d, v = .ref u ∧ H u = some (.tup [.ref d, .int ((z.2 : Nat) : Int)]) ∧ H d = some (.tup (nats z.1))) ∧ CaAt H vs zs
  | _, _ => False
theorem CaAt.sm {H H' : Hp} (s : Same H H') : ∀ {vs : List V} {zs : List (List Nat × Nat)}, CaAt H vs zs → CaAt H' vs zs
  | [], [], _ => trivial
  | _ :: _, _ :: _, ⟨⟨u, d, e, h1, h2⟩, r⟩ => ⟨⟨u, d, e, s _ _ h1, s _ _ h2⟩, CaAt.sm s r⟩
  | [], _ :: _, h => h.elim
  | _ :: _, [], h => h.elim
theorem CaAt.len {H : Hp} : ∀ {vs : List V} {zs : List (List Nat × Nat)}, CaAt H vs zs → vs.length = zs.length
  | [], [], _ => rfl
  | _ :: _, _ :: _, h => congrArg (· + 1) (CaAt.len h.2)
  | [], _ :: _, h => h.elim
  | _ :: _, [], h => h.elim
theorem CaAt.tups {H H' : Hp} (s : ∀ a xs, H a = some (.tup xs) → H' a = some (.tup xs)) : ∀ {vs : List V} {zs : List (List Nat × Nat)}, CaAt H vs zs → CaAt H' vs zs
  | [], [], _ => trivial
  | _ :: _, _ :: _, ⟨⟨u, d, e, h1, h2⟩, r⟩ => ⟨⟨u, d, e, s _ _ h1, s _ _ h2⟩, CaAt.tups s r⟩
  | [], _ :: _, h => h.elim
  | _ :: _, [], h => h.elim
theorem CaAt.snoc {H : Hp} {u d : Addr} {z : List Nat × Nat} (h1 : H u = some (.tup [.ref d, .int ((z.2 : Nat) : Int)])) (h2 : H d = some (.tup (nats z.1))) : ∀ {vs : List V} {zs : List (List Nat × Nat)}, CaAt H vs zs → CaAt H (vs ++ [.ref u]) (zs ++ [z])
  | [], [], _ => ⟨⟨u, d, rfl, h1, h2⟩, trivial⟩
  | _ :: _, _ :: _, h => ⟨h.1, CaAt.snoc h1 h2 h.2⟩
  | [], _ :: _, h => h.elim
  | _ :: _, [], h => h.elim
theorem CaAt.get {H : Hp} : ∀ {vs : List V} {zs : List (List Nat × Nat)} {i : Nat} {v : V}, CaAt H vs zs → vs[i]? = some v → ∃ u d z, v = .ref u ∧ zs[i]? = some z ∧ H u = some (.tup [.ref d, .int ((z.2 : Nat) : Int)]) ∧ H d = some (.tup (nats z.1))
  | v :: vs, z :: zs, 0, _, ⟨⟨u, d, e, h1, h2⟩, _⟩, h => by
    cases h
    exact ⟨u, d, z, e, rfl, h1, h2⟩
  | _ :: vs, _ :: zs, i + 1, v, h, e => CaAt.get (i := i) h.2 e
  | [], [], i, _, _, e => by cases i <;> cases e
  | [], _ :: _, _, _, h, _ => h.elim
  | _ :: _, [], _, _, h, _ => h.elim
def zI (z : List Nat × Nat) : List Int × Int := (z.1.map fun p => ((p : Nat) : Int), ((z.2 : Nat) : Int))
theorem CaAt.keys {X : Cx} {pins : List (Addr × Obj)} {σ : St} {H : Hp} {s : Shared} (I : Inv X pins σ H s) : ∀ {vs : List V} {zs : List (List Nat × Nat)} {us : List Value}, CaAt H vs zs → Vals vs us → (∀ i (hi : i < us.length), NsI s.heap us[i] (zI (zs.getD i ([], 0)))) ∧ vs = us.map fun u => V.ref (match u with | .ref a => a | _ => 0)
  | [], [], _, _, r => by
    cases r
    exact ⟨fun i hi => absurd hi (Nat.not_lt_zero _), rfl⟩
  | v :: vs, z :: zs, _, ⟨⟨u, d, e, q1, q2⟩, hr⟩, r => by
    cases r with
    | cons h t =>
      subst e
      cases h
      obtain ⟨h1, h2⟩ := CaAt.keys I hr t
      refine ⟨fun i hi => ?_, by rw [List.map_cons, ← h2]⟩
      obtain ⟨its, rv, ⟨o, ho, hc, n, hd⟩, _⟩ := I.tuple (SqT.of q1)
      obtain ⟨its2, rv2, ⟨o2, ho2, hc2, n2, hd2⟩, _⟩ := I.tuple (SqT.of q2)
      cases i with
      | zero =>
        obtain ⟨u1, u2, rfl, r1, r2⟩ := vals2 rv
        cases r1
        obtain ⟨t', rfl⟩ := r2
        refine ⟨u, o, n, d, t', rfl, ho, hc, hd, d, o2, its2.toArray, n2, rfl, ho2, hc2, hd2, ?_⟩
        rw [nats_ints] at rv2
        exact ints_of_vals rv2
      | succ i => exact h1 i (by simpa using hi)
/-- sorted(list of such pairs): the same refs, in order -/
def rSortN (K : PySem.W.Frag) : List V → Hp → VK → Prop := fun xs H Q => ∃ (a : Addr) (vs : List V) (zs : List (List Nat × Nat)), xs = [.ref a] ∧ SqL K H a vs ∧ CaAt H vs zs ∧ vs.length ≤ 4000 ∧
  ∀ (l : Addr) (idx : List Nat), H l = none → idx.Perm (List.range zs.length) → (∀ i, i + 1 < zs.length → ltN (zI (zs.getD (idx.getD (i + 1) 0) ([], 0))) (zI (zs.getD (idx.getD i 0) ([], 0))) = false) → Q (.ref l) (upd H l (.lst (idx.map fun i => vs.getD i .non)))
theorem call_sortN {X : Cx} (hu : X.A.units + 64 < cLine) : CallR X (.builtin "sorted") (rSortN X.K) := by
  intro pins s σ H xs us Q I r h
  obtain ⟨a, vs, zs, rfl, hq, hP, h64, q⟩ := h
  obtain ⟨u, rfl, rx⟩ := vals1 r
  cases rx
  obtain ⟨its, r', pl, _⟩ := I.list hq
  have hlen := r'.length
  have hpl := hP.len
  obtain ⟨hkk, hvs⟩ := CaAt.keys I hP r'
  refine sorted_ns (x := fun i => zI (zs.getD i ([], 0))) (.inl pl.isList) (by omega) hu hkk fun out idx z1 z2 z3 hp => ?_
  obtain ⟨e, he⟩ := sortedAll_at s.heap its out.toArray
  have hl2 := hp.length_eq
  have hmap : (out.map fun u => V.ref (match u with | .ref a => a | _ => 0)) = idx.map fun i => vs.getD i .non := by
    rw [z3, List.map_map]
    apply List.map_congr_left
    intro i hi
    have hil : i < its.length := List.mem_range.mp (z1.mem_iff.mp hi)
    show V.ref (match its.getD i Value.none with | .ref a => a | _ => 0) = vs.getD i .non
    have e1 : its.getD i Value.none = its[i] := by simp [hil]
    have e2 : vs.getD i .non = vs[i]'(by omega) := by simp [show i < vs.length by omega]
    rw [e1, e2]
    have : vs[i]'(by omega) = (its.map fun u => V.ref (match u with | .ref a => a | _ => 0))[i]'(by rw [List.length_map]; exact hil) := by congr 1
    rw [this, List.getElem_map]
  refine ⟨.ref (s.heap.objs.size + 1), _, I.laid (t' := s.toks) (o := .lst (out.map fun u => V.ref (match u with | .ref a => a | _ => 0))) (fun b o => sortedAll_old) (Nat.le_succ _) ?_, rfl, ?_⟩
  · refine ⟨by rw [List.length_map]; exact Nat.le_trans (show out.length ≤ 4000 by omega) (by decide), out, e, ?_, he⟩
    have hall : ∀ u ∈ out, ∃ x, u = .ref x := fun u hu => by
      obtain ⟨i, hi, rfl⟩ := List.getElem_of_mem (hp.mem_iff.mp hu)
      obtain ⟨x, _, _, _, _, e, _⟩ := hkk i hi
      exact ⟨x, e⟩
    clear he hp hl2 hmap z3
    induction out with
    | nil => exact .nil
    | cons u out ih =>
      obtain ⟨x, rfl⟩ := hall u (List.mem_cons_self ..)
      exact .cons rfl (ih fun u hu => hall u (List.mem_cons_of_mem _ hu))
  · rw [hmap]
    rw [show its.length = zs.length by omega] at z1 z2
    exact q _ idx (I.hok.fresh (Nat.le_succ _)) z1 z2
end L2
namespace E1
open PySem L2
abbrev pw : Program := PySem.Challenge.pw_evenmeet_k17_triples_and_flags
def top (i : Nat) : Stmt := pw.main.body.getD i (.Pass ⟨0, 0, 0, 0⟩)
abbrev sTriplesTold : Stmt := top 1
abbrev sFlagsTold : Stmt := top 2
abbrev sToldOf : Stmt := top 3
abbrev sMarkedBlocks : Stmt := top 4
abbrev sMarksOf : Stmt := top 5
abbrev sRowsWith : Stmt := top 6
abbrev sPointsBeside : Stmt := top 7
abbrev sCell : Stmt := top 9
abbrev sLNumbers : Stmt := top 10
abbrev sLRow : Stmt := top 11
abbrev sLMask : Stmt := top 12
abbrev sLOfSize : Stmt := top 13
abbrev sLAllSets : Stmt := top 14
abbrev sLTurnedBase : Stmt := top 15
abbrev sLEvenBlocks : Stmt := top 16
abbrev sLLayout : Stmt := top 17
abbrev sLIs : Stmt := top 18
abbrev sDue : Stmt := top 19
abbrev sLGreat : Stmt := top 20
abbrev sLTriples : Stmt := top 21
abbrev sLFlags : Stmt := top 22
abbrev sLaw : Stmt := top 23
section
variable {P : Program} {w : World} {K : PySem.W.Frag} {mg : Str → Option Value} {base : Heap} {M C : Addr}
def spCell2 (K : PySem.W.Frag) : Sp := fun vs H Q _ => ∃ (a : Addr) (ns : List Int) (k : Nat), vs = [.ref a, .int (k : Int)] ∧ SqL K H a (ns.map V.int) ∧ k ≤ 1000 ∧ ∀ (z : Int) (H' : Hp), Same H H' → Q (.int z) H'
theorem scCell : FnScope ["_law_script", "_law_k", "_law_state", "_law_cell_here"] ["_law_script", "_law_k"] (defScope sCell) := ⟨rfl, rfl, rfl, by decide +kernel, rfl, by decide +kernel, by decide +kernel⟩
theorem ok_cell2 {f : Addr} {fd : FuncData} (F : Fun K "_law_cell" "_law_cell" sCell f fd) (T : TxtB mg) : FnOk P w K mg base CX0 1 f fd ["_law_script", "_law_k"] (spCell2 K) := by
  refine F.okQ scCell (fun vs H Q E h => ?_) (fun cdv A outer s H vs Q E hr h => ?_)
  · obtain ⟨a, ns, k, rfl, _⟩ := h
    rfl
  · obtain ⟨a, ns, k, rfl, hS, hk, q⟩ := h
    refine ⟨_, (qss_cons (qs_if (qt_cmpR op_lt (qv 1) (qe_callB call_len_seq (by rfl) T.len PySem.boot_len (qac (qv 0) qa_nil)) (nomark _)) (qss_one (qs_ret (qe_ix ix_list (qv 0) (qv 1) (fun _ _ => rfl)))) qss_nil)
      (qss_cons (qs_set (i := 2) scCell.nd rfl (Or.inl rfl) (qe_op op_mod (qe_op op_mul qe_int (qe_op op_add (qe_op op_add (qe_op op_mul (qv 1) (qv 1)) (qe_op op_mul qe_int (qv 1))) qe_int)) qe_int))
      (qss_cons (qs_for PassesOwn.never rfl (qi_list (qe_slice sl_list (qv 0) qo_none (qo_some qe_int))) (qg_name (i := 3) scCell.nd rfl (Or.inl rfl))
        (qss_one (qs_set (i := 2) scCell.nd rfl (Or.inl rfl) (qe_op op_mod (qe_op op_add (qe_op op_mul (qv 2) qe_int) (qv 3)) qe_int))))
      (qss_one (qs_ret (qv 2)))))), ?_⟩
    refine ⟨_, rfl, _, rfl, a, _, rfl, .inl hS, _, _, rfl, rfl, _, rfl, ?_⟩
    refine ite2 (fun hc => ?_) (fun hc => ?_)
    · have hlt : k < ns.length := by
        have := of_decide_eq_true hc
        rw [List.length_map] at this
        omega
      refine ⟨_, rfl, _, rfl, a, _, _, V.int ns[k], rfl, rfl, hS, atI_nat (by rw [List.getElem?_map, List.getElem?_eq_getElem hlt]; rfl), q _ _ (Same.refl _)⟩
    · refine ⟨_, rfl, _, rfl, _, _, rfl, rfl, .inr ⟨by omega, by omega⟩, _, rfl, _, _, rfl, rfl, .inl ⟨by decide, by decide⟩, _, _, rfl, rfl, _, _, rfl, rfl, _, _, rfl, rfl, .inl ⟨by decide, by decide⟩, _, _, rfl, rfl, by show (0 : Int) < 2147483647; decide, ?_⟩
      refine ⟨_, rfl, _, rfl, a, _, rfl, hS, fun l hl => ?_⟩
      refine ⟨l, rfl, ⟨_, SqL.of upd_same⟩, for_list (K := K) (a := l) (xs := cutV (ns.map V.int) none (some 3)) (fun i σ H2 => H2 = upd H l (.lst (cutV (ns.map V.int) none (some 3))) ∧ ∃ (z : Int) (x3 : Option V), σ = [some (.ref a), some (.int k), some (.int z), x3]) ⟨rfl, _, _, rfl⟩ (fun i σ H2 _ ⟨e, _⟩ => SqL.of (e ▸ upd_same)) ?_ ?_⟩
      · rintro i v σ H2 hi ⟨rfl, z, x3, rfl⟩
        obtain ⟨c, rfl⟩ := cut_ints v (List.mem_of_getElem? hi)
        exact ⟨_, rfl, _, _, rfl, rfl, .inr ⟨by decide, by decide⟩, _, rfl, _, _, rfl, rfl, _, _, rfl, rfl, by show (0 : Int) < 2147483647; decide, rfl, _, _, rfl⟩
      · rintro σ H2 ⟨rfl, z, x3, rfl⟩
        exact ⟨_, rfl, q _ _ (same_new hl)⟩
theorem pickB {x y : Int} (b : Bool) : atI [V.int x, V.int y] (if b then 1 else 0) = some (V.int (if b then y else x)) := by cases b <;> rfl
def spNums : Sp := fun vs H Q _ => ∃ (c : Int) (m : Nat), vs = [.int c, .int (m : Nat)] ∧ m ≤ 1000 ∧ ∀ (l : Addr) (ns : List Int) (H' : Hp), H l = none → Same H H' → H' l = some (.lst (ns.map V.int)) → ns.length = m → (∀ x ∈ ns, 0 ≤ x ∧ x < 2000000000) → Q (.ref l) H'
theorem scLNumbers : FnScope ["_law_cell_here", "_law_many", "_law_found", "_law_state", "_law_digits", "_law_k"] ["_law_cell_here", "_law_many"] (defScope sLNumbers) := ⟨rfl, rfl, rfl, by decide +kernel, rfl, by decide +kernel, by decide +kernel⟩
theorem ok_numbers {f : Addr} {fd : FuncData} (F : Fun K "_law_numbers" "_law_numbers" sLNumbers f fd) (T : TxtB mg) : FnOk P w K mg base CX0 1 f fd ["_law_cell_here", "_law_many"] spNums := by
  refine F.okQ scLNumbers (fun vs H Q E h => ?_) (fun cdv A outer s H vs Q E hr h => ?_)
  · obtain ⟨c, m, rfl, _⟩ := h
    rfl
  · obtain ⟨c, m, rfl, hm, q⟩ := h
    refine ⟨_, (qss_cons (qs_set (i := 2) scLNumbers.nd rfl (Or.inl rfl) (qe_lst qa_nil))
      (qss_cons (qs_set (i := 3) scLNumbers.nd rfl (Or.inl rfl) (qe_op op_mod (qe_op op_mul (qe_op op_add (qe_op op_mod (qv 0) qe_int) qe_int) qe_int) qe_int))
      (qss_cons (qs_set (i := 4) scLNumbers.nd rfl (Or.inl rfl) qe_int)
      (qss_cons (qs_if (QW.pt (qw_or (qt_cmpR op_lt (qv 0) qe_int (nomark _)) (qw_or1 (qt_cmpR op_ge (qv 0) (qe_op op_pow qe_int qe_int) (nomark _))))) (qss_one (qs_set (i := 4) scLNumbers.nd rfl (Or.inl rfl) (qe_callB call_abs (by rfl) T.abs PyProof.Rows.boot_abs (qac (qv 0) qa_nil)))) qss_nil)
      (qss_cons (qs_for PassesOwn.never rfl (qi_range1 rfl T.range (qac (qv 1) qa_nil)) (qg_name (i := 5) scLNumbers.nd rfl (Or.inl rfl))
        (qss_cons (qs_set (i := 3) scLNumbers.nd rfl (Or.inl rfl) (qe_op op_mod (qe_op op_add (qe_op op_add (qe_op op_mul (qv 3) (qe_op op_add (qe_op op_mod (qv 3) qe_int) qe_int)) (qe_op op_mul qe_int (qv 5))) qe_int) qe_int))
        (qss_cons (qs_expr (qe_bm PySem.F.plainAttrs_list PySem.F.slot_list_append PySem.F.type_list_append mt_append (qv 2) (qac (qe_ix ix_list (qe_lst (qac (qv 3) (qac (qe_op op_mod (qv 4) qe_int) qa_nil))) (qe_callTy call_int1 (by rfl) T.int PyProof.Rows.boot_int (qac (qe_cmpR op_gt (qv 4) qe_int (nomark _)) qa_nil)) (fun _ _ => rfl)) qa_nil)))
        (qss_one (qs_set (i := 4) scLNumbers.nd rfl (Or.inl rfl) (qe_op op_fdiv (qv 4) qe_int))))))
      (qss_one (qs_ret (qv 2)))))))), ?_⟩
    refine ⟨by show 0 ≤ sizeLine; decide, fun l hl => ?_⟩
    have big : (0 : Int) < 1999999973 := by decide
    have c1 := Int.emod_nonneg c (show (1999999973 : Int) ≠ 0 by decide)
    have c2 := Int.emod_lt_of_pos c big
    refine ⟨_, rfl, _, _, rfl, rfl, (by show (0 : Int) < 1999999973; decide), _, _, rfl, rfl, _, _, rfl, rfl, .inr ⟨by decide, by decide⟩, _, _, rfl, rfl, (by show (0 : Int) < 1999999973; decide), ?_⟩
    generalize hst : (c % 1999999973 + 31) * 765432101 % 1999999973 = st0
    have st1 : 0 ≤ st0 ∧ st0 < 1999999973 := by
      rw [← hst]
      exact ⟨Int.emod_nonneg _ (by decide), Int.emod_lt_of_pos _ (by decide)⟩
    refine ⟨_, rfl, _, _, rfl, rfl, _, rfl, ?_⟩
    obtain ⟨dg, hdg, hw⟩ : ∃ dg : Int, 0 ≤ dg ∧ ((c < 0 ∧ dg = (if c < 0 then -c else c)) ∨ (¬ c < 0 ∧ c ≥ 10 ^ (18 : Int).toNat ∧ dg = (if c < 0 then -c else c)) ∨ (¬ c < 0 ∧ ¬ c ≥ 10 ^ (18 : Int).toNat ∧ dg = 0)) := by
      by_cases h1 : c < 0
      · exact ⟨_, abs_nn c, .inl ⟨h1, rfl⟩⟩
      · by_cases h2 : c ≥ 10 ^ (18 : Int).toNat
        · exact ⟨_, abs_nn c, .inr (.inl ⟨h1, h2, rfl⟩)⟩
        · exact ⟨0, Int.le_refl 0, .inr (.inr ⟨h1, h2, rfl⟩)⟩
    rcases hw with ⟨h1, e⟩ | ⟨h1, h2, e⟩ | ⟨h1, h2, e⟩
    all_goals first | refine ifF h1 ⟨_, rfl, _, _, rfl, rfl, ⟨by decide, by decide, by decide⟩, _, _, rfl, rfl, _, rfl, ifT h2 ⟨_, rfl, c, rfl, ?_⟩⟩ | refine ifF h1 ⟨_, rfl, _, _, rfl, rfl, ⟨by decide, by decide, by decide⟩, _, _, rfl, rfl, _, rfl, ifF h2 ?_⟩ | refine ifT h1 ⟨_, rfl, c, rfl, ?_⟩
    all_goals
      refine ⟨_, rfl, ((m : Nat) : Int), rfl, by omega, by omega, for_range (n := m) (fun i σ H2 => Same H H2 ∧ ∃ (ns : List Int) (sd dg : Int) (x : Option V), σ = [some (.int c), some (.int (m : Nat)), some (.ref l), some (.int sd), some (.int dg), x] ∧ H2 l = some (.lst (ns.map V.int)) ∧ ns.length = i ∧ (∀ x ∈ ns, 0 ≤ x ∧ x < 2000000000) ∧ 0 ≤ sd ∧ sd < 1999999973 ∧ 0 ≤ dg)
        ⟨same_new hl, [], st0, dg, none, by rw [e, ← hst]; rfl, upd_same, rfl, by simp, st1.1, st1.2, hdg⟩ ?_ ?_⟩
      · rintro i σ H2 hi ⟨s2, ns, sd, dg, x, rfl, hl2, hlen, hns, h1, h2, h3⟩
        have a1 := Int.emod_nonneg sd (show (65521 : Int) ≠ 0 by decide)
        have a2 := Int.emod_lt_of_pos sd (show (0 : Int) < 65521 by decide)
        refine ⟨_, rfl, _, rfl, _, _, rfl, rfl, (by show (0 : Int) < 65521; decide), _, _, rfl, rfl, _, _, rfl, rfl, .inl ⟨by omega, by omega⟩, _, rfl, _, _, rfl, rfl, .inl ⟨by decide, by decide⟩, _, _, rfl, rfl, _, _, rfl, rfl, _, _, rfl, rfl, (by show (0 : Int) < 1999999973; decide), ?_⟩
        refine ⟨_, rfl, .inl ⟨rfl, _, SqL.of hl2⟩, _, rfl, _, rfl, _, _, rfl, rfl, (by show (0 : Int) < 1000000; decide), by show 2 ≤ sizeLine; decide, fun t ht => ?_⟩
        refine ⟨_, rfl, _, _, rfl, rfl, .inr ⟨_, rfl, t, _, _, _, rfl, rfl, SqL.of upd_same, pickB _, l, _, _, rfl, rfl, (same_new ht) _ _ hl2, ?_, ?_⟩⟩
        · rw [List.length_map, hlen]
          exact Nat.lt_of_lt_of_le hi (Nat.le_trans hm (by decide))
        refine ⟨_, rfl, _, _, rfl, rfl, ⟨by decide, by decide⟩, same_upd (s2.trans (same_new ht)) hl, ns ++ [if decide (0 < dg) = true then dg % 1000000 else (sd * (sd % 65521 + 40487) + 7 * (0 + (i : Int)) + 5) % 1999999973], _, _, _, rfl, ?_, ?_, ?_, ?_, ?_, ?_⟩
        · rw [List.map_append]
          exact upd_same
        · rw [List.length_append, hlen]
          rfl
        · intro y hy
          rcases List.mem_append.mp hy with z | z
          · exact hns y z
          · rw [List.mem_singleton.mp z]
            split
            · exact ⟨Int.emod_nonneg _ (by decide), Int.lt_trans (Int.emod_lt_of_pos _ (by decide)) (by decide)⟩
            · exact ⟨Int.emod_nonneg _ (by decide), Int.lt_trans (Int.emod_lt_of_pos _ (by decide)) (by decide)⟩
        · exact Int.emod_nonneg _ (by decide)
        · exact Int.emod_lt_of_pos _ (by decide)
        · exact Int.ediv_nonneg h3 (by decide)
      · rintro σ H2 ⟨s2, ns, sd, dg, x, rfl, hl2, hlen, hns, _⟩
        exact ⟨_, rfl, q l ns H2 hl s2 hl2 hlen hns⟩
theorem comp_list {K : PySem.W.Frag} {a : Addr} {xs : List V} {g : TG} {tc : TT} {te : TE} {σ' : St} {H : Hp} {G : Addr → Hp → List V → Prop} (Pv : Nat → List V → Hp → Prop) (h0 : Pv 0 [] H) (hl : ∀ i ys H, i ≤ xs.length → Pv i ys H → SqL K H a xs)
    (hs : ∀ i x ys H (N : List V → Hp → Prop), xs[i]? = some x → Pv i ys H → (∀ ys' H', Pv (i + 1) ys' H' → N ys' H') → g x σ' H fun σ2 H4 => Weak σ' σ2 ∧ tc σ2 H4 fun b H5 => if b = true then te σ2 H5 fun y H6 => ys.length < sizeLine ∧ N (ys ++ [y]) H6 else N ys H5)
    (hd : ∀ ys H, Pv xs.length ys H → ys.length ≤ sizeLine ∧ ∀ p, H p = none → G p H ys) :
    ∃ W : Nat → Nat → List V → Hp → Prop, (∃ m, W 0 m [] H) ∧ ∀ i m ys H2, W i m ys H2 →
      ((Itl K a).stop i H2 ∧ ys.length ≤ sizeLine ∧ ∀ p, H2 p = none → G p H2 ys) ∨
      ((Itl K a).go i H2 ∧ ∀ x H3, (Itl K a).yld i H2 x H3 → g x σ' H3 fun σ2 H4 => Weak σ' σ2 ∧ tc σ2 H4 fun b H5 =>
        if b = true then te σ2 H5 fun y H6 => ys.length < sizeLine ∧ ∃ m', m' < m ∧ W (i + 1) m' (ys ++ [y]) H6 else ∃ m', m' < m ∧ W (i + 1) m' ys H5) := by
  refine ⟨fun i m ys H => m = xs.length - i ∧ i ≤ xs.length ∧ Pv i ys H, ⟨xs.length, rfl, Nat.zero_le _, h0⟩, ?_⟩
  rintro i m ys H2 ⟨rfl, hi, p⟩
  have q := hl i ys H2 hi p
  by_cases hlt : i < xs.length
  · refine .inr ⟨⟨xs, xs[i], q, by simp [hlt]⟩, fun x H' y => ?_⟩
    obtain ⟨e, y⟩ := y
    subst e
    exact hs i x ys _ (fun ys' H'' => ∃ m', m' < xs.length - i ∧ m' = xs.length - (i + 1) ∧ i + 1 ≤ xs.length ∧ Pv (i + 1) ys' H'') (y xs q) p (fun ys' H'' p' => ⟨_, by omega, rfl, hlt, p'⟩)
  · have e : i = xs.length := by omega
    subst e
    exact .inl ⟨⟨xs, q, Nat.le_refl _⟩, hd ys H2 p⟩
theorem comp_tup {K : PySem.W.Frag} {a : Addr} {xs : List V} {g : TG} {tc : TT} {te : TE} {σ' : St} {H : Hp} {G : Addr → Hp → List V → Prop} (Pv : Nat → List V → Hp → Prop) (h0 : Pv 0 [] H) (hl : ∀ i ys H, i ≤ xs.length → Pv i ys H → SqT K H a xs)
    (hs : ∀ i x ys H (N : List V → Hp → Prop), xs[i]? = some x → Pv i ys H → (∀ ys' H', Pv (i + 1) ys' H' → N ys' H') → g x σ' H fun σ2 H4 => Weak σ' σ2 ∧ tc σ2 H4 fun b H5 => if b = true then te σ2 H5 fun y H6 => ys.length < sizeLine ∧ N (ys ++ [y]) H6 else N ys H5)
    (hd : ∀ ys H, Pv xs.length ys H → ys.length ≤ sizeLine ∧ ∀ p, H p = none → G p H ys) :
    ∃ W : Nat → Nat → List V → Hp → Prop, (∃ m, W 0 m [] H) ∧ ∀ i m ys H2, W i m ys H2 →
      ((Itt K a).stop i H2 ∧ ys.length ≤ sizeLine ∧ ∀ p, H2 p = none → G p H2 ys) ∨
      ((Itt K a).go i H2 ∧ ∀ x H3, (Itt K a).yld i H2 x H3 → g x σ' H3 fun σ2 H4 => Weak σ' σ2 ∧ tc σ2 H4 fun b H5 =>
        if b = true then te σ2 H5 fun y H6 => ys.length < sizeLine ∧ ∃ m', m' < m ∧ W (i + 1) m' (ys ++ [y]) H6 else ∃ m', m' < m ∧ W (i + 1) m' ys H5) := by
  refine ⟨fun i m ys H => m = xs.length - i ∧ i ≤ xs.length ∧ Pv i ys H, ⟨xs.length, rfl, Nat.zero_le _, h0⟩, ?_⟩
  rintro i m ys H2 ⟨rfl, hi, p⟩
  have q := hl i ys H2 hi p
  by_cases hlt : i < xs.length
  · refine .inr ⟨⟨xs, xs[i], q, by simp [hlt]⟩, fun x H' y => ?_⟩
    obtain ⟨e, y⟩ := y
    subst e
    exact hs i x ys _ (fun ys' H'' => ∃ m', m' < xs.length - i ∧ m' = xs.length - (i + 1) ∧ i + 1 ≤ xs.length ∧ Pv (i + 1) ys' H'') (y xs q) p (fun ys' H'' p' => ⟨_, by omega, rfl, hlt, p'⟩)
  · have e : i = xs.length := by omega
    subst e
    exact .inl ⟨⟨xs, q, Nat.le_refl _⟩, hd ys H2 p⟩
theorem at_ok {ns : List Int} {i : Nat} (h : i < ns.length) : ∃ x : Int, atI (ns.map V.int) (i : Int) = some (.int x) ∧ x ∈ ns := ⟨ns[i], atI_nat (by rw [List.getElem?_map, List.getElem?_eq_getElem h]; rfl), List.getElem_mem h⟩
theorem nats_get {b : List Nat} {i : Nat} {v : V} (h : (nats b)[i]? = some v) : ∃ x, b[i]? = some x ∧ v = .int ((x : Nat) : Int) := by
  unfold nats at h
  rw [List.getElem?_map] at h
  cases hq : b[i]? with
  | none => rw [hq] at h; cases h
  | some p => rw [hq] at h; cases h; exact ⟨p, rfl, rfl⟩
def spMask : Sp := fun vs H Q _ => ∃ (x : Int) (m : Nat), vs = [.int x, .int (m : Nat)] ∧ m ≤ 60 ∧ ∀ (t : Addr) (b : List Nat) (H' : Hp), H t = none → Same H H' → H' t = some (.tup (nats b)) → Blk m b → Q (.ref t) H'
theorem scLMask : FnScope ["_law_x", "_law_many"] ["_law_x", "_law_many"] (defScope sLMask) := ⟨rfl, rfl, rfl, by decide +kernel, rfl, by decide +kernel, by decide +kernel⟩
theorem ok_mask {f : Addr} {fd : FuncData} (F : Fun K "_law_mask" "_law_mask" sLMask f fd) (T : TxtB mg) : FnOk P w K mg base CX0 1 f fd ["_law_x", "_law_many"] spMask := by
  refine F.okQ scLMask (fun vs H Q E h => ?_) (fun cdv A outer s H vs Q E hr h => ?_)
  · obtain ⟨x, m, rfl, _⟩ := h
    rfl
  · obtain ⟨x, m, rfl, hm, q⟩ := h
    refine ⟨_, (qss_one (qs_ret (qe_callTy call_tuple_of (by rfl) T.tup (by decide +kernel) (qac (qe_comp (g := gName 0) (N := ["_law_point", "_law_x"]) (src := [none, some 0]) rfl (comp_scope (defScope sLMask) ["_law_x", "_law_many"] rfl rfl (by decide +kernel) rfl) (qi_range1 rfl T.range (qac (qv 1) qa_nil)) (fun _ _ _ _ _ => (qg_name (i := 0) (show (["_law_point", "_law_x"] : List Str).Nodup by decide +kernel) rfl (Or.inl rfl) (Or.inr rfl))) (fun _ _ _ _ _ => (qif_one (qt_cmpR op_eq (qe_op op_and (qe_op op_shr (qv 1) (qv 0)) qe_int) qe_int (nomark _)))) (fun _ _ _ _ _ => (qv 0))) qa_nil)))), ?_⟩
    refine ⟨_, rfl, ((m : Nat) : Int), rfl, by omega, by omega, comp_rng (lo := 0) (n := m) (fun i ys H2 => H2 = H ∧ ∃ b, ys = nats b ∧ Blk i b) ⟨rfl, [], rfl, ⟨by simp, by simp⟩⟩ ?_ ?_⟩
    · rintro i ys H2 N hi ⟨rfl, b, rfl, hb⟩ nx
      refine ⟨Weak.set (by intro v z; cases z), ?_⟩
      refine ⟨_, rfl, _, rfl, _, _, rfl, rfl, by omega, _, _, rfl, rfl, rfl, _, rfl, ?_⟩
      refine ite2 (fun _ => ⟨_, rfl, ?_, nx _ _ ⟨rfl, b ++ [i], ?_, hb.snoc⟩⟩) (fun _ => nx _ _ ⟨rfl, b, rfl, hb.up⟩)
      · rw [nats_len]
        exact Nat.lt_of_le_of_lt hb.len (Nat.lt_of_lt_of_le hi (Nat.le_trans hm (by decide)))
      · rw [nats_snoc, Int.zero_add]
    · rintro ys H2 ⟨rfl, b, rfl, hb⟩
      refine ⟨by rw [nats_len]; exact Nat.le_trans hb.len (Nat.le_trans hm (by decide)), fun r hr => ⟨r, _, rfl, .inl ⟨SqL.of upd_same, fun t ht => ?_⟩⟩⟩
      have s1 := same_new (o := .lst (nats b)) hr
      exact q t b _ (s1.free ht) (s1.trans (same_new ht)) upd_same hb
def spRow (K : PySem.W.Frag) : Sp := fun vs H Q _ => ∃ (a : Addr) (ns : List Int) (m : Nat), vs = [.ref a, .int (m : Nat)] ∧ SqL K H a (ns.map V.int) ∧ m ≤ ns.length ∧ m ≤ 60 ∧ ∀ (l : Addr) (r : List Nat) (H' : Hp), H l = none → Same H H' → H' l = some (.lst (nats r)) → r.Perm (List.range m) → Q (.ref l) H'
theorem scLRow : FnScope ["_law_xs", "_law_many"] ["_law_xs", "_law_many"] (defScope sLRow) := ⟨rfl, rfl, rfl, by decide +kernel, rfl, by decide +kernel, by decide +kernel⟩
theorem ok_row {f : Addr} {fd : FuncData} (F : Fun K "_law_row" "_law_row" sLRow f fd) (T : TxtB mg) : FnOk P w K mg base CX0 1 f fd ["_law_xs", "_law_many"] (spRow K) := by
  refine F.okQ scLRow (fun vs H Q E h => ?_) (fun cdv A outer s H vs Q E hr h => ?_)
  · obtain ⟨a, ns, m, rfl, _⟩ := h
    rfl
  · obtain ⟨a, ns, m, rfl, hS, hm, hm60, q⟩ := h
    refine ⟨_, (qss_one (qs_ret (qe_comp (g := gName 0) (N := ["_law_pair"]) (src := [none]) rfl (comp_scope (defScope sLRow) ["_law_xs", "_law_many"] rfl rfl (by decide +kernel) rfl) (qi_list (qe_callB call_sortP (by rfl) T.sor (by decide +kernel) (qac (qe_comp (g := gName 0) (N := ["_law_k", "_law_xs"]) (src := [none, some 0]) rfl (comp_scope (defScope sLRow) ["_law_xs", "_law_many"] rfl rfl (by decide +kernel) rfl) (qi_range1 rfl T.range (qac (qv 1) qa_nil)) (fun _ _ _ _ _ => (qg_name (i := 0) (show (["_law_k", "_law_xs"] : List Str).Nodup by decide +kernel) rfl (Or.inl rfl) (Or.inr rfl))) (fun _ _ _ _ _ => qif_nil) (fun _ _ _ _ _ => (qe_tup (qac (qe_ix (show IxR _ (rIxL K) from ix_list) (qv 1) (qv 0) (fun _ _ => rfl)) (qac (qv 0) qa_nil))))) qa_nil))) (fun _ _ _ _ _ => (qg_name (i := 0) (show (["_law_pair"] : List Str).Nodup by decide +kernel) rfl (Or.inl rfl) (Or.inr rfl))) (fun _ _ _ _ _ => qif_nil) (fun _ _ _ _ _ => (qe_ix (show IxR _ (rIxT K) from ix_tup) (qv 0) qe_int (fun _ _ => rfl)))))), ?_⟩
    refine ⟨_, rfl, ((m : Nat) : Int), rfl, by omega, by omega, comp_rng (lo := 0) (n := m) (fun i ys H2 => Same H H2 ∧ ∃ ps : List (Int × Int), PrsAt H2 ys ps ∧ ps.map (·.2) = (List.range i).map fun k => ((k : Nat) : Int)) ⟨Same.refl _, [], trivial, rfl⟩ ?_ ?_⟩
    · rintro i ys H2 N hi ⟨s2, ps, hP, hps⟩ nx
      obtain ⟨x, e, _⟩ := at_ok (ns := ns) (i := i) (by omega)
      refine ⟨Weak.set (by intro v z; cases z), ⟨_, rfl, _, rfl, a, _, _, .int x, rfl, rfl, s2.seq hS, by rw [Int.zero_add]; exact e, _, rfl, by show 2 ≤ sizeLine; decide, fun t ht => ⟨?_, nx _ _ ⟨s2.trans (same_new ht), ps ++ [(x, ((i : Nat) : Int))], ?_, ?_⟩⟩⟩⟩
      · have h1 := hP.len
        have h2 := congrArg List.length hps
        rw [List.length_map, List.length_map, List.length_range] at h2
        exact Nat.lt_of_le_of_lt (show ys.length ≤ 60 by omega) (by decide)
      · refine (hP.same (same_new ht)).snoc ?_
        rw [Int.zero_add]
        exact upd_same
      · rw [List.map_append, hps, List.range_succ, List.map_append]
        rfl
    rintro ys H2 ⟨s2, ps, hP, hps⟩
    have hyl : ys.length = m := by
      have h1 := hP.len
      have h2 := congrArg List.length hps
      rw [List.length_map, List.length_map, List.length_range] at h2
      omega
    refine ⟨by rw [hyl]; exact Nat.le_trans hm60 (by decide), fun r hr => ?_⟩
    have w1 := same_new (o := .lst ys) hr
    refine ⟨r, ys, ps, rfl, SqL.of upd_same, hP.same w1, by omega, fun l vs' hl hpm => ?_⟩
    have w2 := same_new (o := .lst vs') hl
    obtain ⟨ps', hP', hpp⟩ := ((hP.same w1).same w2).perm hpm
    have hmem : ∀ p ∈ ps', ∃ k : Nat, p.2 = ((k : Nat) : Int) := fun p hp => by
      have : p.2 ∈ ps.map (·.2) := List.mem_map_of_mem (hpp.mem_iff.mp hp)
      rw [hps] at this
      obtain ⟨k, _, e⟩ := List.mem_map.mp this
      exact ⟨k, e.symm⟩
    refine ⟨l, rfl, ⟨_, SqL.of upd_same⟩, comp_list (K := K) (xs := vs') (fun i zs H3 => H3 = upd (upd H2 r (.lst ys)) l (.lst vs') ∧ zs = nats ((ps'.take i).map fun p => p.2.toNat)) ⟨rfl, rfl⟩ (fun i zs H3 _ ⟨e, _⟩ => SqL.of (e ▸ upd_same)) ?_ ?_⟩
    · rintro i v zs H3 N hi ⟨rfl, rfl⟩ nx
      obtain ⟨b, p, rfl, hp, hb⟩ := hP'.get hi
      obtain ⟨k, hk⟩ := hmem p (List.mem_of_getElem? hp)
      have hil : i < vs'.length := (List.getElem?_eq_some_iff.mp hi).1
      have hvl := hpm.length_eq
      refine ⟨Weak.set (by intro v z; cases z), ⟨_, rfl, b, _, 1, .int p.2, rfl, rfl, SqT.of hb, rfl, ?_, nx _ _ ⟨rfl, ?_⟩⟩⟩
      · rw [nats_len, List.length_map, List.length_take]
        exact Nat.lt_of_le_of_lt (show _ ≤ 60 by omega) (by decide)
      · rw [List.take_add_one, hp, Option.toList_some, List.map_append, List.map_cons, List.map_nil, nats_snoc, hk, Int.toNat_natCast]
    rintro zs H3 ⟨rfl, rfl⟩
    have hlen' : vs'.length = ps'.length := hP'.len
    have hvl := hpm.length_eq
    rw [hlen', List.take_length]
    refine ⟨by rw [nats_len, List.length_map]; exact Nat.le_trans (show ps'.length ≤ 60 by omega) (by decide), fun l2 hl2 => ?_⟩
    have w3 := same_new (o := .lst (nats (ps'.map fun p => p.2.toNat))) hl2
    have sA := s2.trans (w1.trans w2)
    refine q l2 _ _ (sA.free hl2) (sA.trans w3) upd_same ?_
    have h1 := hpp.map fun p : Int × Int => p.2.toNat
    have h2 : (ps.map fun p : Int × Int => p.2.toNat) = List.range m := by
      have : (ps.map fun p : Int × Int => p.2.toNat) = (ps.map (·.2)).map Int.toNat := by rw [List.map_map]; rfl
      rw [this, hps, List.map_map]
      conv => rhs; rw [← List.map_id (List.range m)]
      exact List.map_congr_left fun k _ => by simp
    rwa [h2] at h1
def spOfSize : Sp := fun vs H Q _ => ∃ (x : Int) (m : Nat) (z : Int), vs = [.int x, .int (m : Nat), .int z] ∧ 0 ≤ x ∧ m ≤ 60 ∧ 0 ≤ z ∧ ∀ (t : Addr) (b : List Nat) (H' : Hp), H t = none → Same H H' → H' t = some (.tup (nats b)) → Blk m b → Q (.ref t) H'
theorem scLOfSize : FnScope ["_law_x", "_law_many", "_law_size", "_law_left"] ["_law_x", "_law_many", "_law_size"] (defScope sLOfSize) := ⟨rfl, rfl, rfl, by decide +kernel, rfl, by decide +kernel, by decide +kernel⟩
theorem ok_ofsize {f : Addr} {fd : FuncData} (F : Fun K "_law_of_size" "_law_of_size" sLOfSize f fd) (T : TxtB mg) : FnOk P w K mg base CX0 1 f fd ["_law_x", "_law_many", "_law_size"] spOfSize := by
  refine F.okQ scLOfSize (fun vs H Q E h => ?_) (fun cdv A outer s H vs Q E hr h => ?_)
  · obtain ⟨x, m, z, rfl, _⟩ := h
    rfl
  · obtain ⟨x, m, z, rfl, hx, hm, hz, q⟩ := h
    refine ⟨_, (qss_cons (qs_set (i := 3) scLOfSize.nd rfl (Or.inl rfl) (qe_callTy (call_list_rng rfl) (by rfl) T.lst (by decide +kernel) (qac (qe_callTy call_rng1 (by rfl) T.range PyProof.Rows.boot_range (qac (qv 1) qa_nil)) qa_nil)))
      (qss_cons (qs_while PassesOwn.never (qt_cmpR op_gt (qe_callB call_len_seq (by rfl) T.len PySem.boot_len (qac (qv 3) qa_nil)) (qv 2) (nomark _))
        (qss_cons (qs_expr (qe_bm PySem.F.plainAttrs_list PySem.F.slot_list_pop PySem.F.type_list_pop mt_popAt (qv 3) (qac (qe_op op_mod (qv 0) (qe_callB call_len_seq (by rfl) T.len PySem.boot_len (qac (qv 3) qa_nil))) qa_nil)))
        (qss_one (qs_set (i := 0) scLOfSize.nd rfl (Or.inl rfl) (qe_op op_add (qe_op op_fdiv (qv 0) qe_int) qe_int)))))
      (qss_one (qs_ret (qe_callTy call_tuple_of (by rfl) T.tup (by decide +kernel) (qac (qv 3) qa_nil)))))), ?_⟩
    refine ⟨_, rfl, ((m : Nat) : Int), rfl, fun r hr' => ⟨r, m, rfl, upd_same, Nat.le_trans hm (by decide), fun l hl => ?_⟩⟩
    have w1 := same_new (o := .rng 0 ((m : Nat) : Int)) hr'
    have hl0 : H l = none := w1.free hl
    refine while_w (fun σ H2 => Same H H2 ∧ ∃ (y : Int) (b : List Nat), σ = [some (.int y), some (.int (m : Nat)), some (.int z), some (.ref l)] ∧ H2 l = some (.lst (nats b)) ∧ Blk m b ∧ 0 ≤ y)
      (fun σ H2 => match H2 l with | some (.lst xs) => xs.length | _ => 0)
      ⟨w1.trans (same_new hl), x, List.range m, rfl, upd_same, ⟨List.nodup_range, fun k hk => List.mem_range.mp hk⟩, hx⟩ ?_
    rintro mm σ H2 ⟨s2, y, b, rfl, hl2, hb, hy⟩ hmm
    refine ⟨_, rfl, l, _, rfl, .inl (SqL.of hl2), _, rfl, _, _, rfl, rfl, _, rfl, ?_⟩
    refine ite2 (fun hc => WTurn.of ?_) (fun hc => ?_)
    · have hc' : z < ((nats b).length : Int) := of_decide_eq_true hc
      have hbl : 0 < b.length := by
        rw [nats_len] at hc'
        omega
      have e1 := Int.emod_nonneg y (show ((nats b).length : Int) ≠ 0 by rw [nats_len]; omega)
      have e2 := Int.emod_lt_of_pos y (show (0 : Int) < ((nats b).length : Int) by rw [nats_len]; omega)
      have hkl : (y % ((nats b).length : Int)).toNat < (nats b).length := by omega
      have hb60 := hb.len
      refine ⟨_, rfl, .inl ⟨rfl, _, SqL.of hl2⟩, _, rfl, _, rfl, l, _, rfl, .inl (SqL.of hl2), _, _, rfl, rfl, by rw [nats_len]; omega, l, _, _, (y % ((nats b).length : Int)).toNat, (nats b)[(y % ((nats b).length : Int)).toNat], rfl, rfl, hl2, by omega, ?_, ?_, List.getElem?_eq_getElem hkl, ?_⟩
      · rw [nats_len] at e2 ⊢
        omega
      · exact PySem.seqIndex_of (by omega) (by omega)
      · have ee : (nats b).eraseIdx (y % ((nats b).length : Int)).toNat = nats (b.eraseIdx (y % ((nats b).length : Int)).toNat) := nats_erase b _
        refine ⟨_, rfl, _, _, rfl, rfl, ⟨by decide, by decide⟩, _, _, rfl, rfl, ⟨same_upd s2 hl0, _, _, rfl, by rw [ee]; exact upd_same, hb.erase _, ?_⟩, ?_⟩
        · have := Int.ediv_nonneg hy (show (0 : Int) ≤ 5 by decide)
          show 0 ≤ y / 5 + 7
          omega
        · rw [hmm, hl2]
          show (match upd H2 l _ l with | some (.lst xs) => xs.length | _ => 0) < _
          rw [upd_same]
          show ((nats b).eraseIdx _).length < (nats b).length
          rw [List.length_eraseIdx_of_lt hkl]
          omega
    · refine ⟨_, rfl, l, _, rfl, .inl ⟨SqL.of hl2, fun t ht => q t b _ (s2.free ht) (s2.trans (same_new ht)) upd_same hb⟩⟩
def BlsQ (m : Nat) (H : Hp) (Q : V → Hp → Prop) : Prop := ∀ (l : Addr) (ws : List V) (bs : List (List Nat)) (H' : Hp), H l = none → Same H H' → H' l = some (.lst ws) → TpAt H' ws bs → bs.length ≤ 60 → (∀ b ∈ bs, Blk m b) → Q (.ref l) H'
def spAllSets : Sp := fun vs H Q _ => ∃ (m : Nat) (z : Int), vs = [.int (m : Nat), .int z] ∧ m ≤ 5 ∧ BlsQ m H Q
theorem scLAllSets : FnScope ["_law_many", "_law_size"] ["_law_many", "_law_size"] (defScope sLAllSets) := ⟨rfl, rfl, rfl, by decide +kernel, rfl, by decide +kernel, by decide +kernel⟩
theorem ok_allsets {f : Addr} {fd : FuncData} (F : Fun K "_law_all_sets" "_law_all_sets" sLAllSets f fd) (T : TxtB mg) (pLMask : Pm P w K mg base CX0 1 "_law_mask" ["_law_x", "_law_many"] spMask) : FnOk P w K mg base CX0 2 f fd ["_law_many", "_law_size"] spAllSets := by
  refine F.okQ scLAllSets (fun vs H Q E h => ?_) (fun cdv A outer s H vs Q E hr1 h => ?_)
  · obtain ⟨m, z, rfl, _⟩ := h
    rfl
  · obtain ⟨m, z, rfl, hm, q⟩ := h
    refine ⟨_, (qss_one (qs_ret (qe_comp (g := gName 0) (N := ["_law_x", "_law_many", "_law_size"]) (src := [none, some 0, some 1]) rfl (comp_scope (defScope sLAllSets) ["_law_many", "_law_size"] rfl rfl (by decide +kernel) rfl) (qi_range1 rfl T.range (qac (qe_op op_shl qe_int (qv 0)) qa_nil)) (fun _ _ _ _ _ => (qg_name (i := 0) (show (["_law_x", "_law_many", "_law_size"] : List Str).Nodup by decide +kernel) rfl (Or.inl rfl) (Or.inr rfl))) (fun _ _ _ _ _ => (qif_one (qt_cmpR op_eq (qe_callB (show CallR _ _ (rLenQ K) from call_lenQ) (by rfl) T.len PySem.boot_len (qac (qe_callP pLMask hr1 rfl pass0 (qac (qv 0) (qac (qv 1) qa_nil))) qa_nil)) (qv 2) (nomark _)))) (fun _ _ _ _ _ => (qe_callP pLMask hr1 rfl pass0 (qac (qv 0) (qac (qv 1) qa_nil))))))), ?_⟩
    obtain ⟨n, hn, hn2⟩ : ∃ n : Nat, (1 : Int) * 2 ^ (((m : Nat) : Int)).toNat = (n : Int) ∧ n ≤ 32 := by
      have h : m = 0 ∨ m = 1 ∨ m = 2 ∨ m = 3 ∨ m = 4 ∨ m = 5 := by omega
      rcases h with rfl | rfl | rfl | rfl | rfl | rfl
      · exact ⟨1, by decide, by decide⟩
      · exact ⟨2, by decide, by decide⟩
      · exact ⟨4, by decide, by decide⟩
      · exact ⟨8, by decide, by decide⟩
      · exact ⟨16, by decide, by decide⟩
      · exact ⟨32, by decide, by decide⟩
    refine ⟨_, rfl, _, _, rfl, rfl, ⟨by omega, by omega, by decide⟩, ((n : Nat) : Int), congrArg (fun x => [V.int x]) hn, by omega, by omega, comp_rng (lo := 0) (n := n) (fun i ys H2 => Same H H2 ∧ ∃ bs : List (List Nat), TpAt H2 ys bs ∧ bs.length ≤ i ∧ ∀ b ∈ bs, Blk m b) ⟨Same.refl _, [], trivial, Nat.le_refl _, by simp⟩ ?_ ?_⟩
    · rintro i ys H2 N hi ⟨s2, bs, hT, hl, hb⟩ nx
      refine ⟨Weak.set (by intro v z; cases z), ?_⟩
      refine ⟨_, rfl, _, rfl, _, m, rfl, by omega, fun t b H3 ht s3 ht3 hb1 => ?_⟩
      refine ⟨t, _, rfl, .inr (SqT.of ht3), _, rfl, rfl, _, rfl, ?_⟩
      refine ite2 (fun _ => ⟨_, rfl, _, rfl, _, m, rfl, by omega, fun t2 b2 H4 ht2 s4 ht4 hb2 => ⟨?_, nx _ _ ⟨s2.trans (s3.trans s4), bs ++ [b2], ((hT.sm s3).sm s4).snoc ht4, ?_, all_snoc hb hb2⟩⟩⟩) (fun _ => nx _ _ ⟨s2.trans s3, bs, hT.sm s3, by omega, hb⟩)
      · rw [hT.len]
        exact Nat.lt_of_le_of_lt hl (Nat.lt_of_lt_of_le hi (Nat.le_trans hn2 (by decide)))
      · rw [List.length_append]
        exact Nat.succ_le_succ hl
    · rintro ys H2 ⟨s2, bs, hT, hl, hb⟩
      refine ⟨by rw [hT.len]; exact Nat.le_trans hl (Nat.le_trans hn2 (by decide)), fun r hr => ?_⟩
      have s1 := same_new (o := .lst ys) hr
      exact q r ys bs _ (s2.free hr) (s2.trans s1) upd_same (hT.sm s1) (by omega) hb
def spTBase (K : PySem.W.Frag) : Sp := fun vs H Q _ => ∃ (a : Addr) (b : List Nat) (m : Nat), vs = [.ref a, .int (m : Nat)] ∧ (H a = some (.lst (nats b)) ∨ H a = some (.tup (nats b))) ∧ Blk m b ∧ 0 < m ∧ m ≤ 21 ∧ BlsQ m H Q
theorem turn_blk {m : Nat} {b : List Nat} (hb : Blk m b) (hm : 0 < m) (k : Nat) : Blk m (b.map fun p => (p + k) % m) := by
  refine ⟨?_, fun x hx => ?_⟩
  · rw [List.nodup_iff_pairwise_ne, List.pairwise_map]
    refine (List.Pairwise.imp_of_mem ?_ hb.nd)
    intro x y hx hy hne e
    have h1 := hb.lt x hx
    have h2 := hb.lt y hy
    apply hne
    have h3 := Nat.mod_add_div (x + k) m
    have h4 := Nat.mod_add_div (y + k) m
    have h5 : (x + k) % m = (y + k) % m := e
    rw [h5] at h3
    have h6 : (x + k) / m = (y + k) / m ∨ (x + k) / m < (y + k) / m ∨ (y + k) / m < (x + k) / m := by omega
    rcases h6 with h6 | h6 | h6
    · rw [h6] at h3
      omega
    · have := Nat.mul_le_mul_left m (show (x + k) / m + 1 ≤ (y + k) / m from h6)
      rw [Nat.mul_add, Nat.mul_one] at this
      omega
    · have := Nat.mul_le_mul_left m (show (y + k) / m + 1 ≤ (x + k) / m from h6)
      rw [Nat.mul_add, Nat.mul_one] at this
      omega
  · obtain ⟨p, _, rfl⟩ := List.mem_map.mp hx
    exact Nat.mod_lt _ hm
theorem scLTurnedBase : FnScope ["_law_base", "_law_many"] ["_law_base", "_law_many"] (defScope sLTurnedBase) := ⟨rfl, rfl, rfl, by decide +kernel, rfl, by decide +kernel, by decide +kernel⟩
theorem ok_tbase {f : Addr} {fd : FuncData} (F : Fun K "_law_turned_base" "_law_turned_base" sLTurnedBase f fd) (T : TxtB mg) : FnOk P w K mg base CX0 1 f fd ["_law_base", "_law_many"] (spTBase K) := by
  refine F.okQ scLTurnedBase (fun vs H Q E h => ?_) (fun cdv A outer s H vs Q E hr1 h => ?_)
  · obtain ⟨a, b, m, rfl, _⟩ := h
    rfl
  · obtain ⟨a, b, m, rfl, ha, hb, hm0, hm, q⟩ := h
    refine ⟨_, (qss_one (qs_ret (qe_comp (g := gName 0) (N := ["_law_turn", "_law_base", "_law_many"]) (src := [none, some 0, some 1]) rfl (comp_scope (defScope sLTurnedBase) ["_law_base", "_law_many"] rfl rfl (by decide +kernel) rfl) (qi_range1 rfl T.range (qac (qv 1) qa_nil)) (fun _ _ _ _ _ => (qg_name (i := 0) (show (["_law_turn", "_law_base", "_law_many"] : List Str).Nodup by decide +kernel) rfl (Or.inr rfl) (Or.inl rfl))) (fun _ _ _ _ _ => qif_nil) (fun _ _ _ _ _ => (qe_callTy (show CallR _ _ (rTupQ K) from call_tupQ) (by rfl) T.tup (by decide +kernel) (qac (qe_callB (show CallR _ _ (rSortI K) from call_sortI) (by rfl) T.sor (by decide +kernel) (qac (qe_comp (g := gName 0) (N := ["_law_point", "_law_turn", "_law_many"]) (src := [none, some 0, some 2]) rfl (comp_scopeX ["_law_turn", "_law_base", "_law_many"] rfl rfl rfl) (show QI _ _ _ (iSeq K _) from qi_seq (qv 1)) (fun _ _ _ _ _ => (qg_name (i := 0) (show (["_law_point", "_law_turn", "_law_many"] : List Str).Nodup by decide +kernel) rfl (Or.inl rfl) (Or.inr rfl))) (fun _ _ _ _ _ => qif_nil) (fun _ _ _ _ _ => (qe_op op_mod (qe_op op_add (qv 0) (qv 1)) (qv 2)))) qa_nil)) qa_nil)))))), ?_⟩
    have hbl := hb.len
    refine ⟨_, rfl, ((m : Nat) : Int), rfl, by omega, by omega, comp_rng (lo := 0) (n := m) (fun i ys H2 => Same H H2 ∧ ∃ bs : List (List Nat), TpAt H2 ys bs ∧ bs.length = i ∧ ∀ b ∈ bs, Blk m b) ⟨Same.refl _, [], trivial, rfl, by simp⟩ ?_ ?_⟩
    · rintro i ys H2 N hi ⟨s2, bs, hT, hl, hb'⟩ nx
      refine ⟨Weak.set (by intro v z; cases z), ?_⟩
      have hlz : ys.length < sizeLine := by
        rw [hT.len, hl]
        exact Nat.lt_of_lt_of_le hi (Nat.le_trans hm (by decide))
      have fin : (nats ((b.take (nats b).length).map fun p => (p + i) % m)).length ≤ sizeLine ∧ ∀ r, H2 r = none → rSortI K [V.ref r] (upd H2 r (.lst (nats ((b.take (nats b).length).map fun p => (p + i) % m)))) fun x H1 => rTupQ K [x] H1 fun y H6 => ys.length < sizeLine ∧ N (ys ++ [y]) H6 := by
        rw [show b.take (nats b).length = b by rw [nats_len, List.take_length]]
        refine ⟨by rw [nats_len, List.length_map]; exact Nat.le_trans hbl (Nat.le_trans hm (by decide)), fun r hr => ?_⟩
        have w1 := same_new (o := .lst (nats (b.map fun p => (p + i) % m))) hr
        refine ⟨r, (b.map fun p => (p + i) % m).map fun p => ((p : Nat) : Int), rfl, SqL.of (by rw [← nats_ints]; exact upd_same), by rw [List.length_map, List.length_map]; omega, fun l ns hl' hp hs => ?_⟩
        obtain ⟨c, e, hp', hs'⟩ := back_nats hp hs
        rw [e]
        have w2 := same_new (o := .lst (nats c)) hl'
        refine ⟨l, _, rfl, .inl ⟨SqL.of upd_same, fun t ht => ⟨hlz, nx _ _ ⟨s2.trans (w1.trans (w2.trans (same_new ht))), bs ++ [c], ((((hT.sm w1).sm w2).sm (same_new ht)).snoc upd_same), ?_, all_snoc hb' ((turn_blk hb hm0 i).perm hp')⟩⟩⟩⟩
        rw [List.length_append, hl]
        rfl
      rcases ha with ha | ha
      · refine ⟨_, rfl, a, rfl, .inl ⟨⟨_, SqL.of (s2 _ _ ha)⟩, comp_list (K := K) (xs := nats b) (fun j zs H3 => H3 = H2 ∧ zs = nats ((b.take j).map fun p => (p + i) % m)) ⟨rfl, rfl⟩ (fun j zs H3 _ ⟨e, _⟩ => SqL.of (e ▸ s2 _ _ ha)) ?_ ?_⟩⟩
        · rintro j x zs H3 N3 hj ⟨rfl, rfl⟩ nx3
          obtain ⟨p, hp, rfl⟩ := nats_get hj
          refine ⟨Weak.set (by intro v z; cases z), ⟨_, rfl, _, rfl, _, _, rfl, rfl, _, rfl, _, _, rfl, rfl, by omega, ?_, nx3 _ _ ⟨rfl, ?_⟩⟩⟩
          · rw [nats_len, List.length_map, List.length_take]
            exact Nat.lt_of_le_of_lt (show _ ≤ 21 by omega) (by decide)
          · rw [List.take_add_one, hp, Option.toList_some, List.map_append, List.map_cons, List.map_nil, nats_snoc, Int.zero_add]
            rfl
        · rintro zs H3 ⟨rfl, rfl⟩
          exact fin
      · refine ⟨_, rfl, a, rfl, .inr ⟨⟨_, SqT.of (s2 _ _ ha)⟩, comp_tup (K := K) (xs := nats b) (fun j zs H3 => H3 = H2 ∧ zs = nats ((b.take j).map fun p => (p + i) % m)) ⟨rfl, rfl⟩ (fun j zs H3 _ ⟨e, _⟩ => SqT.of (e ▸ s2 _ _ ha)) ?_ ?_⟩⟩
        · rintro j x zs H3 N3 hj ⟨rfl, rfl⟩ nx3
          obtain ⟨p, hp, rfl⟩ := nats_get hj
          refine ⟨Weak.set (by intro v z; cases z), ⟨_, rfl, _, rfl, _, _, rfl, rfl, _, rfl, _, _, rfl, rfl, by omega, ?_, nx3 _ _ ⟨rfl, ?_⟩⟩⟩
          · rw [nats_len, List.length_map, List.length_take]
            exact Nat.lt_of_le_of_lt (show _ ≤ 21 by omega) (by decide)
          · rw [List.take_add_one, hp, Option.toList_some, List.map_append, List.map_cons, List.map_nil, nats_snoc, Int.zero_add]
            rfl
        · rintro zs H3 ⟨rfl, rfl⟩
          exact fin
    · rintro ys H2 ⟨s2, bs, hT, hl, hb'⟩
      refine ⟨by rw [hT.len, hl]; exact Nat.le_trans hm (by decide), fun r hr => ?_⟩
      have s1 := same_new (o := .lst ys) hr
      exact q r ys bs _ (s2.free hr) (s2.trans s1) upd_same (hT.sm s1) (by omega) hb'
def LayQ (H : Hp) (Q : V → Hp → Prop) : Prop := ∀ (t l : Addr) (m : Nat) (ws : List V) (bs : List (List Nat)) (H' : Hp), H t = none → H l = none → Same H H' → H' t = some (.tup [.int (m : Nat), .ref l]) → H' l = some (.lst ws) → TpAt H' ws bs → 1 ≤ m → m ≤ 9 → bs.length ≤ 60 → (∀ b ∈ bs, Blk m b) → Q (.ref t) H'
def spEven : Sp := fun vs H Q _ => ∃ (x y : Int), vs = [.int x, .int y] ∧ LayQ H Q
theorem scLEvenBlocks : FnScope ["_law_x", "_law_y", "_law_way", "_law_blocks", "_law_many"] ["_law_x", "_law_y"] (defScope sLEvenBlocks) := ⟨rfl, rfl, rfl, by decide +kernel, rfl, by decide +kernel, by decide +kernel⟩
theorem ok_even {f : Addr} {fd : FuncData} (F : Fun K "_law_even_blocks" "_law_even_blocks" sLEvenBlocks f fd) (T : TxtB mg) (pLMask : Pm P w K mg base CX0 1 "_law_mask" ["_law_x", "_law_many"] spMask) (pLTurnedBase : Pm P w K mg base CX0 1 "_law_turned_base" ["_law_base", "_law_many"] (spTBase K)) (pLAllSets : Pm P w K mg base CX0 2 "_law_all_sets" ["_law_many", "_law_size"] spAllSets) : FnOk P w K mg base CX0 3 f fd ["_law_x", "_law_y"] spEven := by
  refine F.okQ scLEvenBlocks (fun vs H Q E h => ?_) (fun cdv A outer s H vs Q E hr2 h => ?_)
  · obtain ⟨x, y, rfl, _⟩ := h
    rfl
  · obtain ⟨x, y, rfl, q⟩ := h
    have hr1 := hr2.mono (show 1 ≤ 2 by decide)
    refine ⟨_, (qss_cons (qs_set (i := 2) scLEvenBlocks.nd rfl (Or.inl rfl) (qe_op op_mod (qv 0) qe_int))
      (qss_cons (qs_if (qt_cmpR op_eq (qv 2) qe_int (nomark _)) (qss_one (qs_ret (qe_tup (qac qe_int (qac (qe_callP pLTurnedBase hr1 rfl pass0 (qac (qe_lst (qac qe_int (qac qe_int (qac qe_int qa_nil)))) (qac qe_int qa_nil))) qa_nil))))) qss_nil)
      (qss_cons (qs_if (qt_cmpR op_eq (qv 2) qe_int (nomark _)) (qss_cons (qs_setComp (i := 3) (g := gTup K 2 (gCons (gName 0) (gCons (gName 1) gNil))) (N := ["_law_m", "_law_c"]) (src := [none, none]) rfl (comp_scope (defScope sLEvenBlocks) ["_law_x", "_law_y", "_law_way", "_law_blocks", "_law_many"] rfl rfl (by decide +kernel) rfl) (qi_list (qe_comp (g := gName 0) (N := ["_law_j"]) (src := [none]) rfl (comp_scope (defScope sLEvenBlocks) ["_law_x", "_law_y", "_law_way", "_law_blocks", "_law_many"] rfl rfl (by decide +kernel) rfl) (qi_range1 rfl T.range (qac qe_int qa_nil)) (fun _ _ _ _ _ => (qg_name (i := 0) (show (["_law_j"] : List Str).Nodup by decide +kernel) rfl (Or.inl rfl) (Or.inr rfl))) (fun _ _ _ _ _ => qif_nil) (fun _ _ _ _ _ => (qe_tup (qac (qe_op op_fdiv (qv 0) qe_int) (qac (qe_op op_mod (qv 0) qe_int) qa_nil)))))) (fun _ _ _ _ _ => (show QG _ _ (gTup K 2 _) from qg_tup rfl (qgs_cons (qg_name (i := 0) (show (["_law_m", "_law_c"] : List Str).Nodup by decide +kernel) rfl (Or.inr rfl) (Or.inl rfl)) (qgs_cons (qg_name (i := 1) (show (["_law_m", "_law_c"] : List Str).Nodup by decide +kernel) rfl (Or.inr rfl) (Or.inl rfl)) qgs_nil)))) (fun _ _ _ _ _ => qif_nil) (fun _ _ _ _ _ => (qe_callTy (show CallR _ _ (rTupQ K) from call_tupQ) (by rfl) T.tup (by decide +kernel) (qac (qe_comp (g := gName 0) (N := ["_law_k", "_law_m", "_law_c"]) (src := [none, some 0, some 1]) rfl (comp_scopeX ["_law_m", "_law_c"] rfl rfl rfl) (qi_range1 rfl T.range (qac qe_int qa_nil)) (fun _ _ _ _ _ => (qg_name (i := 0) (show (["_law_k", "_law_m", "_law_c"] : List Str).Nodup by decide +kernel) rfl (Or.inl rfl) (Or.inr rfl))) (fun _ _ _ _ _ => qif_nil) (fun _ _ _ _ _ => (qe_op op_add (qe_op op_mul qe_int (qv 0)) (qe_op op_mod (qe_op op_add (qe_op op_mul (qv 1) (qv 0)) (qv 2)) qe_int)))) qa_nil))) (qg_name (i := 3) scLEvenBlocks.nd rfl (Or.inl rfl)))
        (qss_one (qs_ret (qe_tup (qac qe_int (qac (qe_op op_cat (qv 3) (qe_comp (g := gName 0) (N := ["_law_c"]) (src := [none]) rfl (comp_scope (defScope sLEvenBlocks) ["_law_x", "_law_y", "_law_way", "_law_blocks", "_law_many"] rfl rfl (by decide +kernel) rfl) (qi_range1 rfl T.range (qac qe_int qa_nil)) (fun _ _ _ _ _ => (qg_name (i := 0) (show (["_law_c"] : List Str).Nodup by decide +kernel) rfl (Or.inr rfl) (Or.inl rfl))) (fun _ _ _ _ _ => qif_nil) (fun _ _ _ _ _ => (qe_callTy (show CallR _ _ (rTupQ K) from call_tupQ) (by rfl) T.tup (by decide +kernel) (qac (qe_comp (g := gName 0) (N := ["_law_j", "_law_c"]) (src := [none, some 0]) rfl (comp_scopeX ["_law_c"] rfl rfl rfl) (qi_range1 rfl T.range (qac qe_int qa_nil)) (fun _ _ _ _ _ => (qg_name (i := 0) (show (["_law_j", "_law_c"] : List Str).Nodup by decide +kernel) rfl (Or.inl rfl) (Or.inr rfl))) (fun _ _ _ _ _ => qif_nil) (fun _ _ _ _ _ => (qe_op op_add (qe_op op_mul qe_int (qv 1)) (qv 0)))) qa_nil))))) qa_nil)))))) qss_nil)
      (qss_cons (qs_if (qt_cmpR op_eq (qv 2) qe_int (nomark _)) (qss_cons (qs_set (i := 4) scLEvenBlocks.nd rfl (Or.inl rfl) (qe_op op_add qe_int (qe_op op_mod (qe_op op_fdiv (qv 0) qe_int) qe_int)))
        (qss_one (qs_ret (qe_tup (qac (qv 4) (qac (qe_callP pLAllSets hr2 rfl pass0 (qac (qv 4) (qac (qe_op op_mod (qv 1) (qe_op op_add (qv 4) qe_int)) qa_nil))) qa_nil)))))) qss_nil)
      (qss_cons (qs_set (i := 4) scLEvenBlocks.nd rfl (Or.inl rfl) (qe_op op_add qe_int (qe_op op_mod (qe_op op_fdiv (qv 0) qe_int) qe_int)))
      (qss_one (qs_ret (qe_tup (qac (qv 4) (qac (qe_callP pLTurnedBase hr1 rfl pass0 (qac (qe_callP pLMask hr1 rfl pass0 (qac (qe_op op_mod (qv 1) (qe_op op_shl qe_int (qv 4))) (qac (qv 4) qa_nil))) (qac (qv 4) qa_nil))) qa_nil)))))))))), ?_⟩
    have fin : ∀ (m : Nat) (H1 : Hp), Same H H1 → 1 ≤ m → m ≤ 9 → ∀ (l : Addr) (ws : List V) (bs : List (List Nat)) (H' : Hp), H1 l = none → Same H1 H' → H' l = some (.lst ws) → TpAt H' ws bs → bs.length ≤ 60 → (∀ b ∈ bs, Blk m b) → ∀ t, H' t = none → Q (.ref t) (upd H' t (.tup [.int (m : Nat), .ref l])) := by
      intro m H1 s1 h1 h9 l ws bs H' hl s' hl' hT hn hb t ht
      have w := same_new (o := .tup [.int (m : Nat), .ref l]) ht
      have sA := s1.trans s'
      exact q t l m ws bs _ (sA.free ht) (s1.free hl) (sA.trans w) upd_same (w _ _ hl') (hT.sm w) h1 h9 hn hb
    have many : ∀ n : Int, 0 < n → n ≤ 9 → ∃ m : Nat, 1 + x / 5 % n = (m : Int) ∧ 1 ≤ m ∧ (m : Int) ≤ n := fun n h0 h9 => by
      have h1 := Int.emod_nonneg (x / 5) (show n ≠ 0 by omega)
      have h2 := Int.emod_lt_of_pos (x / 5) h0
      exact ⟨(1 + x / 5 % n).toNat, by omega, by omega, by omega⟩
    refine ⟨_, rfl, _, _, rfl, rfl, (by decide : (0 : Int) < 5), ?_⟩
    refine ⟨_, rfl, rfl, _, rfl, ?_⟩
    refine ite2 (fun _ => ?_) (fun _ => ?_)
    · refine ⟨by show 3 ≤ sizeLine; decide, fun d hd => ⟨d, [0, 1, 3], 7, rfl, .inl upd_same, ⟨by decide, by decide⟩, by decide, by decide, fun l ws bs H' hl s' hl' hT hn hb => ⟨by show 2 ≤ sizeLine; decide, fun t ht => ?_⟩⟩⟩
      exact fin 7 _ (same_new hd) (by decide) (by decide) l ws bs H' hl s' hl' hT hn hb t ht
    refine ⟨_, rfl, rfl, _, rfl, ?_⟩
    refine ite2 (fun _ => ?_) (fun _ => ?_)
    · refine ⟨9, rfl, by decide, by decide, comp_rng (lo := 0) (n := 9) (fun i ys H2 => Same H H2 ∧ ∃ ps : List (Int × Int), PrsAt H2 ys ps ∧ ps.length = i ∧ ∀ p ∈ ps, 0 ≤ p.1 ∧ p.1 < 3 ∧ 0 ≤ p.2 ∧ p.2 < 3) ⟨Same.refl _, [], trivial, rfl, by simp⟩ ?_ ?_⟩
      · rintro i ys H2 N hi ⟨s2, ps, hP, hl, hb⟩ nx
        refine ⟨Weak.set (by intro v z; cases z), ⟨_, rfl, _, _, rfl, rfl, ⟨by decide, by decide⟩, _, rfl, _, _, rfl, rfl, (by decide : (0 : Int) < 3), by show 2 ≤ sizeLine; decide, fun t ht => ⟨?_, nx _ _ ⟨s2.trans (same_new ht), ps ++ [((0 + (i : Int)) / 3, (0 + (i : Int)) % 3)], PrsAt.snoc (p := ((0 + (i : Int)) / 3, (0 + (i : Int)) % 3)) upd_same (hP.same (same_new ht)), by rw [List.length_append, hl]; rfl, ?_⟩⟩⟩⟩
        · rw [hP.len, hl]
          exact Nat.lt_trans hi (by decide)
        · intro p hp
          rcases List.mem_append.mp hp with z | z
          · exact hb p z
          · rw [List.mem_singleton.mp z]
            exact ⟨by show 0 ≤ (0 + (i : Int)) / 3; omega, by show (0 + (i : Int)) / 3 < 3; omega, by show 0 ≤ (0 + (i : Int)) % 3; omega, by show (0 + (i : Int)) % 3 < 3; omega⟩
      rintro ys H2 ⟨s2, ps, hP, hl, hb⟩
      have hyl : ys.length = 9 := hP.len.trans hl
      refine ⟨by rw [hyl]; decide, fun r hr => ?_⟩
      have w1 := same_new (o := .lst ys) hr
      refine ⟨r, rfl, ⟨_, SqL.of upd_same⟩, comp_list (K := K) (xs := ys) (fun i zs H3 => Same (upd H2 r (.lst ys)) H3 ∧ ∃ bs : List (List Nat), TpAt H3 zs bs ∧ bs.length = i ∧ ∀ b ∈ bs, Blk 9 b) ⟨Same.refl _, [], trivial, rfl, by simp⟩ (fun i zs H3 _ ⟨s3, _⟩ => SqL.of (s3 _ _ upd_same)) ?_ ?_⟩
      · rintro i v zs H3 N3 hi ⟨s3, bs, hT, hl3, hbb⟩ nx3
        have hi9 : i < 9 := by
          have := (List.getElem?_eq_some_iff.mp hi).1
          omega
        obtain ⟨a, p, rfl, hp, ha⟩ := ((hP.same w1).same s3).get hi
        obtain ⟨b1, b2, b3, b4⟩ := hb p (List.mem_of_getElem? hp)
        have hzl : zs.length < sizeLine := by
          rw [hT.len, hl3]
          exact Nat.lt_trans hi9 (by decide)
        refine ⟨a, _, rfl, SqT.of ha, rfl, _, _, rfl, _, _, rfl, rfl, (Weak.set (by intro v z; cases z)).trans (Weak.set (by intro v z; cases z)), ?_⟩
        refine ⟨3, rfl, by decide, by decide, comp_rng (lo := 0) (n := 3) (fun j us H4 => H4 = H3 ∧ ∃ c : List Nat, us = nats c ∧ c.length = j ∧ Blk (3 * j) c) ⟨rfl, [], rfl, rfl, ⟨by simp, by simp⟩⟩ ?_ ?_⟩
        · rintro j us H4 N4 hj ⟨rfl, c, rfl, hcl, hc⟩ nx4
          refine ⟨Weak.set (by intro v z; cases z), ⟨_, rfl, _, _, rfl, rfl, .inl ⟨by decide, by decide⟩, _, rfl, _, rfl, _, _, rfl, rfl, ?_, _, rfl, _, _, rfl, rfl, _, _, rfl, rfl, (by decide : (0 : Int) < 3), _, _, rfl, rfl, ?_, nx4 _ _ ⟨rfl, c ++ [(3 * (0 + (j : Int)) + (p.1 * (0 + (j : Int)) + p.2) % 3).toNat], ?_, ?_, ?_⟩⟩⟩
          · exact .inl ⟨by omega, by omega⟩
          · rw [nats_len, hcl]
            exact Nat.lt_trans hj (by decide)
          · have e1 := Int.emod_nonneg (p.1 * (0 + (j : Int)) + p.2) (show (3 : Int) ≠ 0 by decide)
            rw [nats_snoc, Int.toNat_of_nonneg (by omega)]
          · rw [List.length_append, hcl]
            rfl
          · have e1 := Int.emod_nonneg (p.1 * (0 + (j : Int)) + p.2) (show (3 : Int) ≠ 0 by decide)
            have e2 := Int.emod_lt_of_pos (p.1 * (0 + (j : Int)) + p.2) (show (0 : Int) < 3 by decide)
            exact hc.snocLt (by omega) (by omega)
        · rintro us H4 ⟨rfl, c, rfl, hcl, hc⟩
          refine ⟨by rw [nats_len, hcl]; decide, fun r2 hr2' => ?_⟩
          have w2 := same_new (o := .lst (nats c)) hr2'
          refine ⟨r2, _, rfl, .inl ⟨SqL.of upd_same, fun t ht => ⟨hzl, nx3 _ _ ⟨s3.trans (w2.trans (same_new ht)), bs ++ [c], ((hT.sm w2).sm (same_new ht)).snoc upd_same, by rw [List.length_append, hl3]; rfl, all_snoc hbb hc⟩⟩⟩⟩
      rintro zs H3 ⟨s3, bs, hT, hl3, hbb⟩
      have hzl : zs.length = 9 := by rw [hT.len, hl3, hyl]
      refine ⟨by rw [hzl]; decide, fun r3 hr3 => ?_⟩
      have w3 := same_new (o := .lst zs) hr3
      refine ⟨_, rfl, 3, rfl, by decide, by decide, comp_rng (lo := 0) (n := 3) (fun i us H4 => Same (upd H3 r3 (.lst zs)) H4 ∧ ∃ cs : List (List Nat), TpAt H4 us cs ∧ cs.length = i ∧ ∀ b ∈ cs, Blk 9 b) ⟨Same.refl _, [], trivial, rfl, by simp⟩ ?_ ?_⟩
      · rintro i us H4 N4 hi ⟨s4, cs, hT4, hl4, hb4⟩ nx4
        have hul : us.length < sizeLine := by
          rw [hT4.len, hl4]
          exact Nat.lt_trans hi (by decide)
        refine ⟨Weak.set (by intro v z; cases z), ?_⟩
        refine ⟨3, rfl, by decide, by decide, comp_rng (lo := 0) (n := 3) (fun j xs H5 => H5 = H4 ∧ ∃ c : List Nat, xs = nats c ∧ c.length = j ∧ Blk (3 * i + j) c) ⟨rfl, [], rfl, rfl, ⟨by simp, by simp⟩⟩ ?_ ?_⟩
        · rintro j xs H5 N5 hj ⟨rfl, c, rfl, hcl, hc⟩ nx5
          refine ⟨Weak.set (by intro v z; cases z), ⟨_, rfl, _, _, rfl, rfl, .inl ⟨by decide, by decide⟩, _, rfl, _, _, rfl, rfl, ?_, nx5 _ _ ⟨rfl, c ++ [3 * i + j], ?_, ?_, hc.snoc⟩⟩⟩
          · rw [nats_len, hcl]
            exact Nat.lt_trans hj (by decide)
          · rw [nats_snoc, show ((3 * i + j : Nat) : Int) = 3 * (0 + (i : Int)) + (0 + (j : Int)) by omega]
          · rw [List.length_append, hcl]
            rfl
        · rintro xs H5 ⟨rfl, c, rfl, hcl, hc⟩
          refine ⟨by rw [nats_len, hcl]; decide, fun r2 hr2' => ?_⟩
          have w2 := same_new (o := .lst (nats c)) hr2'
          refine ⟨r2, _, rfl, .inl ⟨SqL.of upd_same, fun t ht => ⟨hul, nx4 _ _ ⟨s4.trans (w2.trans (same_new ht)), cs ++ [c], ((hT4.sm w2).sm (same_new ht)).snoc upd_same, by rw [List.length_append, hl4]; rfl, all_snoc hb4 (hc.mono (by omega))⟩⟩⟩⟩
      rintro us H4 ⟨s4, cs, hT4, hl4, hb4⟩
      have hul : us.length = 3 := hT4.len.trans hl4
      refine ⟨by rw [hul]; decide, fun r4 hr4 => ?_⟩
      have w4 := same_new (o := .lst us) hr4
      refine ⟨r3, r4, zs, us, rfl, rfl, (s4.trans w4) _ _ upd_same, upd_same, by rw [hzl, hul]; decide, fun l hl' => ⟨by show 2 ≤ sizeLine; decide, fun t ht => ?_⟩⟩
      have w5 := same_new (o := .lst (zs ++ us)) hl'
      refine fin 9 _ (s2.trans (w1.trans (s3.trans (w3.trans (s4.trans w4))))) (by decide) (by decide) l (zs ++ us) (bs ++ cs) _ hl' w5 upd_same ((((hT.sm w3).sm s4).sm w4).app (hT4.sm w4) |>.sm w5) (by rw [List.length_append, hl3, hl4, hyl]; decide) (fun b hb' => ?_) t ht
      rcases List.mem_append.mp hb' with z | z
      · exact hbb b z
      · exact hb4 b z
    refine ⟨_, rfl, rfl, _, rfl, ?_⟩
    refine ite2 (fun _ => ?_) (fun _ => ?_)
    · obtain ⟨m, hm, h1, h5⟩ := many 5 (by decide) (by decide)
      refine ⟨_, rfl, _, _, rfl, rfl, ⟨by decide, by decide⟩, _, _, rfl, rfl, (by decide : (0 : Int) < 5), _, _, rfl, rfl, ?_⟩
      dsimp only
      rw [hm]
      refine ⟨_, rfl, _, rfl, _, rfl, _, rfl, _, _, rfl, rfl, _, _, rfl, rfl, by show (0 : Int) < (m : Int) + 1; omega, m, _, rfl, by omega, fun l ws bs H' hl s' hl' hT hn hb => ⟨by show 2 ≤ sizeLine; decide, fun t ht => ?_⟩⟩
      exact fin m _ (Same.refl _) h1 (by omega) l ws bs H' hl s' hl' hT hn hb t ht
    · obtain ⟨m, hm, h1, h9⟩ := many 9 (by decide) (by decide)
      refine ⟨_, rfl, _, _, rfl, rfl, ⟨by decide, by decide⟩, _, _, rfl, rfl, (by decide : (0 : Int) < 9), _, _, rfl, rfl, ?_⟩
      dsimp only
      rw [hm]
      have hpw : (0 : Int) < 1 * 2 ^ (((m : Nat) : Int)).toNat := by
        rw [Int.one_mul]
        exact Int.pow_pos (by decide)
      refine ⟨_, rfl, _, rfl, _, rfl, _, _, rfl, rfl, ⟨by omega, by omega, by decide⟩, _, _, rfl, rfl, hpw, _, rfl, _, m, rfl, by omega, fun t1 b1 H1 ht1 s1 ht1' hb1 => ?_⟩
      refine ⟨_, rfl, t1, b1, m, rfl, .inr ht1', hb1, h1, by omega, fun l ws bs H' hl s' hl' hT hn hb => ⟨by show 2 ≤ sizeLine; decide, fun t ht => ?_⟩⟩
      exact fin m _ s1 h1 (by omega) l ws bs H' hl s' hl' hT hn hb t ht
def LayT (K : PySem.W.Frag) (H : Hp) (Q : V → Hp → Prop) : Prop := ∀ (t l : Addr) (m : Nat) (ws : List V) (bs : List (List Nat)) (H' : Hp), H t = none → Same H H' → H' t = some (.tup [.int (m : Nat), .ref l]) → H' l = some (.tup ws) → TpAt H' ws bs → 1 ≤ m → m ≤ 9 → bs.length ≤ 60 → (∀ b ∈ bs, Blk m b) → Q (.ref t) H'
def spLLayout (K : PySem.W.Frag) : Sp := fun vs H Q _ => ∃ (a : Addr) (ns : List Int) (k : Nat), vs = [.ref a, .int (k : Int)] ∧ SqL K H a (ns.map V.int) ∧ k ≤ 900 ∧ LayT K H Q
theorem scLLayout : FnScope ["_law_script", "_law_at", "_law_xs", "_law_ys", "_law_many", "_law_blocks", "_law_k", "_law_point", "_law_block", "_law_row_here"] ["_law_script", "_law_at"] (defScope sLLayout) := ⟨rfl, rfl, rfl, by decide +kernel, rfl, by decide +kernel, by decide +kernel⟩
theorem edit_blk {m : Nat} {b : List Nat} (hb : Blk m b) {p : Nat} (hp : p < m) (n : Nat) (hn : n ≤ 1) : Blk m (b.filter (fun x => decide (x ≠ p)) ++ List.replicate n p) := by
  refine ⟨?_, fun x hx => ?_⟩
  · rw [List.nodup_append]
    refine ⟨hb.nd.filter _, ?_, fun x hx y hy e => ?_⟩
    · rcases (show n = 0 ∨ n = 1 by omega) with rfl | rfl <;> simp
    · have h1 : x ≠ p := of_decide_eq_true (List.mem_filter.mp hx).2
      exact h1 (e.trans (List.eq_of_mem_replicate hy))
  · rcases List.mem_append.mp hx with z | z
    · exact hb.lt x (List.mem_filter.mp z).1
    · rw [List.eq_of_mem_replicate z]
      exact hp
theorem nodup_inj : ∀ {r : List Nat}, r.Nodup → ∀ {x y : Nat} (h1 : x < r.length) (h2 : y < r.length), r[x] = r[y] → x = y
  | [], _, _, _, h1, _, _ => absurd h1 (Nat.not_lt_zero _)
  | a :: r, hn, 0, 0, _, _, _ => rfl
  | a :: r, hn, 0, y + 1, _, h2, e => by
    have : a = r[y]'(by simpa using h2) := e
    exact absurd (this ▸ List.getElem_mem _) (List.nodup_cons.mp hn).1
  | a :: r, hn, x + 1, 0, h1, _, e => by
    have : r[x]'(by simpa using h1) = a := e
    exact absurd (this ▸ List.getElem_mem _) (List.nodup_cons.mp hn).1
  | a :: r, hn, x + 1, y + 1, h1, h2, e => congrArg (· + 1) (nodup_inj (List.nodup_cons.mp hn).2 (by simpa using h1) (by simpa using h2) e)
theorem perm_blk {m : Nat} {b r : List Nat} (hb : Blk m b) (hr : r.Perm (List.range m)) : Blk m (b.map fun p => r.getD p 0) := by
  have hl : r.length = m := by rw [hr.length_eq, List.length_range]
  have hnd : r.Nodup := hr.nodup_iff.mpr List.nodup_range
  have hg : ∀ x, x < m → r.getD x 0 = r[x]?.getD 0 := fun x _ => by rw [List.getD_eq_getElem?_getD]
  have he : ∀ x (h : x < m), r.getD x 0 = r[x]'(by omega) := fun x h => by
    rw [hg x h, List.getElem?_eq_getElem (by omega), Option.getD_some]
  refine ⟨?_, fun x hx => ?_⟩
  · rw [List.nodup_iff_pairwise_ne, List.pairwise_map]
    refine (List.Pairwise.imp_of_mem ?_ hb.nd)
    intro x y hx hy hne e
    rw [he x (hb.lt x hx), he y (hb.lt y hy)] at e
    have h1 := hb.lt x hx
    have h2 := hb.lt y hy
    exact hne (nodup_inj hnd (by omega) (by omega) e)
  · obtain ⟨p, hp, rfl⟩ := List.mem_map.mp hx
    rw [he p (hb.lt p hp)]
    exact List.mem_range.mp (hr.mem_iff.mp (List.getElem_mem _))
theorem tp_edit {HZ : Hp} {l t : Addr} {ws : List V} {bs : List (List Nat)} {b : List Nat} (hT : TpAt HZ ws bs) (hl : HZ l = some (.lst ws)) (ht : HZ t = some (.tup (nats b))) (j : Nat) : TpAt (upd HZ l (.lst (ws.set j (.ref t)))) (ws.set j (.ref t)) (bs.set j b) := by
  have hne : ∀ (x : Addr) xs, HZ x = some (.tup xs) → x ≠ l := fun x xs hx z => by
    rw [z, hl] at hx
    cases hx
  refine TpAt.set ?_ j (hT.same fun x xs hx => ?_)
  · rw [upd_ne (hne t _ ht)]
    exact ht
  · rw [upd_ne (hne x xs hx)]
    exact hx
def LSt (H : Hp) (a : Addr) (k : Int) (lx ly : Addr) (ns ny : List Int) (σ : St) (H' : Hp) : Prop := Same H H' ∧ H' lx = some (.lst (ns.map V.int)) ∧ H' ly = some (.lst (ny.map V.int)) ∧ ∃ (m : Nat) (l : Addr) (ws : List V) (bs : List (List Nat)) (x6 x7 x8 : Option V), σ = [some (.ref a), some (.int k), some (.ref lx), some (.ref ly), some (.int (m : Nat)), some (.ref l), x6, x7, x8, none] ∧ H' l = some (.lst ws) ∧ H l = none ∧ l ≠ lx ∧ l ≠ ly ∧ TpAt H' ws bs ∧ 1 ≤ m ∧ m ≤ 9 ∧ bs.length ≤ 60 ∧ ∀ b ∈ bs, Blk m b
theorem ok_llayout {f : Addr} {fd : FuncData} (F : Fun K "_law_layout" "_law_layout" sLLayout f fd) (T : TxtB mg) (pCell : Pm P w K mg base CX0 1 "_law_cell" ["_law_script", "_law_k"] (spCell2 K)) (pLNumbers : Pm P w K mg base CX0 1 "_law_numbers" ["_law_cell_here", "_law_many"] spNums) (pLMask : Pm P w K mg base CX0 1 "_law_mask" ["_law_x", "_law_many"] spMask) (pLOfSize : Pm P w K mg base CX0 1 "_law_of_size" ["_law_x", "_law_many", "_law_size"] spOfSize) (pLRow : Pm P w K mg base CX0 1 "_law_row" ["_law_xs", "_law_many"] (spRow K)) (pLEvenBlocks : Pm P w K mg base CX0 3 "_law_even_blocks" ["_law_x", "_law_y"] spEven) : FnOk P w K mg base CX0 4 f fd ["_law_script", "_law_at"] (spLLayout K) := by
  refine F.okQ scLLayout (fun vs H Q E h => ?_) (fun cdv A outer s H vs Q E hr3 h => ?_)
  · obtain ⟨a, ns, k, rfl, _⟩ := h
    rfl
  · obtain ⟨a, sn, k, rfl, hS, hk, q⟩ := h
    have hr1 := hr3.mono (show 1 ≤ 3 by decide)
    refine ⟨_, (qss_cons (qs_set (i := 2) scLLayout.nd rfl (Or.inr rfl) (qe_callP pLNumbers hr1 rfl pass0 (qac (qe_callP pCell hr1 rfl pass0 (qac (qv 0) (qac (qv 1) qa_nil))) (qac qe_int qa_nil))))
      (qss_cons (qs_set (i := 3) scLLayout.nd rfl (Or.inl rfl) (qe_callP pLNumbers hr1 rfl pass0 (qac (qe_callP pCell hr1 rfl pass0 (qac (qv 0) (qac (qe_op op_add (qv 1) qe_int) qa_nil))) (qac qe_int qa_nil))))
      (qss_cons (qs_set (i := 4) scLLayout.nd rfl (Or.inr rfl) (qe_op op_add qe_int (qe_op op_mod (qe_ix ix_list (qv 2) qe_int (fun _ _ => rfl)) qe_int)))
      (qss_cons (qs_setComp (i := 5) (g := gName 0) (N := ["_law_y", "_law_many"]) (src := [none, some 4]) rfl (comp_scope (defScope sLLayout) ["_law_script", "_law_at", "_law_xs", "_law_ys", "_law_many", "_law_blocks", "_law_k", "_law_point", "_law_block", "_law_row_here"] rfl rfl (by decide +kernel) rfl) (qi_list (qe_slice sl_list (qv 3) qo_none (qo_some (qe_op op_mod (qe_ix ix_list (qv 2) qe_int (fun _ _ => rfl)) qe_int)))) (fun _ _ _ _ _ => (qg_name (i := 0) (show (["_law_y", "_law_many"] : List Str).Nodup by decide +kernel) rfl (Or.inl rfl) (Or.inr rfl))) (fun _ _ _ _ _ => qif_nil) (fun _ _ _ _ _ => (qe_callP pLMask hr1 rfl pass0 (qac (qe_op op_mod (qv 0) (qe_op op_shl qe_int (qv 1))) (qac (qv 1) qa_nil)))) (qg_name (i := 5) scLLayout.nd rfl (Or.inl rfl)))
      (qss_cons (qs_if (qt_cmpR op_eq (qe_op op_mod (qe_ix ix_list (qv 2) qe_int (fun _ _ => rfl)) qe_int) qe_int (nomark _)) (qss_one (qs_setComp (i := 5) (g := gName 0) (N := ["_law_y", "_law_xs", "_law_many"]) (src := [none, some 2, some 4]) rfl (comp_scope (defScope sLLayout) ["_law_script", "_law_at", "_law_xs", "_law_ys", "_law_many", "_law_blocks", "_law_k", "_law_point", "_law_block", "_law_row_here"] rfl rfl (by decide +kernel) rfl) (qi_list (qe_slice sl_list (qv 3) qo_none (qo_some (qe_op op_mod (qe_ix ix_list (qv 2) qe_int (fun _ _ => rfl)) qe_int)))) (fun _ _ _ _ _ => (qg_name (i := 0) (show (["_law_y", "_law_xs", "_law_many"] : List Str).Nodup by decide +kernel) rfl (Or.inl rfl) (Or.inr rfl))) (fun _ _ _ _ _ => qif_nil) (fun _ _ _ _ _ => (qe_callP pLOfSize hr1 rfl pass0 (qac (qv 0) (qac (qv 2) (qac (qe_op op_mod (qe_ix (show IxR _ (rIxL K) from ix_list) (qv 1) qe_int (fun _ _ => rfl)) (qe_op op_add (qv 2) qe_int)) qa_nil))))) (qg_name (i := 5) scLLayout.nd rfl (Or.inl rfl)))) qss_nil)
      (qss_cons (qs_if (qt_cmpR op_gt (qe_op op_mod (qe_ix ix_list (qv 2) qe_int (fun _ _ => rfl)) qe_int) qe_int (nomark _)) (qss_one (qs_asg (qe_callP pLEvenBlocks hr3 rfl pass0 (qac (qe_ix ix_list (qv 2) qe_int (fun _ _ => rfl)) (qac (qe_ix ix_list (qv 2) qe_int (fun _ _ => rfl)) qa_nil))) (qg_tup rfl (qgs_cons (qg_name (i := 4) scLLayout.nd rfl (Or.inr rfl)) (qgs_cons (qg_name (i := 5) scLLayout.nd rfl (Or.inl rfl)) qgs_nil))))) qss_nil)
      (qss_cons (qs_if (qt_cmpR op_eq (qe_op op_mod (qe_ix ix_list (qv 2) qe_int (fun _ _ => rfl)) qe_int) qe_int (nomark _)) (qss_one (qs_set (i := 5) scLLayout.nd rfl (Or.inl rfl) (qe_slice sl_list (qe_op op_cat (qv 5) (qv 5)) qo_none (qo_some qe_int)))) qss_nil)
      (qss_cons (qs_if (QW.pt (qw_and (qt_cmpR op_eq (qe_op op_mod (qe_ix ix_list (qv 2) qe_int (fun _ _ => rfl)) qe_int) qe_int (nomark _)) (qw_and1 (qt_cmpR (op_neD hr3.units) (qv 5) (qe_lst qa_nil) (nomark _))))) (qss_cons (qs_set (i := 6) scLLayout.nd rfl (Or.inl rfl) (qe_op op_mod (qe_ix ix_list (qv 2) qe_int (fun _ _ => rfl)) (qe_callB call_len_seq (by rfl) T.len PySem.boot_len (qac (qv 5) qa_nil))))
        (qss_cons (qs_set (i := 7) scLLayout.nd rfl (Or.inr rfl) (qe_op op_mod (qe_ix ix_list (qv 2) qe_int (fun _ _ => rfl)) (qv 4)))
        (qss_cons (qs_set (i := 8) scLLayout.nd rfl (Or.inl rfl) (qe_op op_cat (qe_comp (g := gName 0) (N := ["_law_other", "_law_point"]) (src := [none, some 7]) rfl (comp_scope (defScope sLLayout) ["_law_script", "_law_at", "_law_xs", "_law_ys", "_law_many", "_law_blocks", "_law_k", "_law_point", "_law_block", "_law_row_here"] rfl rfl (by decide +kernel) rfl) (qi_seq (qe_ix ix_list (qv 5) (qv 6) (fun _ _ => rfl))) (fun _ _ _ _ _ => (qg_name (i := 0) (show (["_law_other", "_law_point"] : List Str).Nodup by decide +kernel) rfl (Or.inl rfl) (Or.inr rfl))) (fun _ _ _ _ _ => (qif_one (qt_cmpR op_ne (qv 0) (qv 1) (nomark _)))) (fun _ _ _ _ _ => (qv 0))) (qe_op op_mulL (qe_lst (qac (qv 7) qa_nil)) (qe_callTy call_int1 (by rfl) T.int (by decide +kernel) (qac (qe_cmpR op_notIn_seq (qv 7) (qe_ix ix_list (qv 5) (qv 6) (fun _ _ => rfl)) rfl) qa_nil)))))
        (qss_one (qs_asg (qe_callTy call_tuple_of (by rfl) T.tup (by decide +kernel) (qac (qe_callB call_sortI (by rfl) T.sor (by decide +kernel) (qac (qv 8) qa_nil)) qa_nil)) (qg_sub (qv 5) (qv 6) set_list (fun _ => rfl))))))) qss_nil)
      (qss_cons (qs_set (i := 9) scLLayout.nd rfl (Or.inr rfl) (qe_callP pLRow hr1 rfl pass0 (qac (qe_slice sl_list (qv 2) (qo_some qe_int) qo_none) (qac (qv 4) qa_nil))))
      (qss_cons (qs_if (qt_cmpR op_eq (qe_op op_mod (qe_op op_fdiv (qe_ix ix_list (qv 2) qe_int (fun _ _ => rfl)) qe_int) qe_int) qe_int (nomark _)) (qss_one (qs_setComp (i := 5) (g := gName 0) (N := ["_law_block", "_law_row_here"]) (src := [none, some 9]) rfl (comp_scope (defScope sLLayout) ["_law_script", "_law_at", "_law_xs", "_law_ys", "_law_many", "_law_blocks", "_law_k", "_law_point", "_law_block", "_law_row_here"] rfl rfl (by decide +kernel) rfl) (qi_list (qv 5)) (fun _ _ _ _ _ => (qg_name (i := 0) (show (["_law_block", "_law_row_here"] : List Str).Nodup by decide +kernel) rfl (Or.inl rfl) (Or.inr rfl))) (fun _ _ _ _ _ => qif_nil) (fun _ _ _ _ _ => (qe_callTy (show CallR _ _ (rTupQ K) from call_tupQ) (by rfl) T.tup (by decide +kernel) (qac (qe_callB (show CallR _ _ (rSortI K) from call_sortI) (by rfl) T.sor (by decide +kernel) (qac (qe_comp (g := gName 0) (N := ["_law_point", "_law_row_here"]) (src := [none, some 1]) rfl (comp_scopeX ["_law_block", "_law_row_here"] rfl rfl rfl) (show QI _ _ _ (iSeq K _) from qi_seq (qv 0)) (fun _ _ _ _ _ => (qg_name (i := 0) (show (["_law_point", "_law_row_here"] : List Str).Nodup by decide +kernel) rfl (Or.inl rfl) (Or.inr rfl))) (fun _ _ _ _ _ => qif_nil) (fun _ _ _ _ _ => (qe_ix (show IxR _ (rIxL K) from ix_list) (qv 1) (qv 0) (fun _ _ => rfl)))) qa_nil)) qa_nil))) (qg_name (i := 5) scLLayout.nd rfl (Or.inl rfl)))) qss_nil)
      (qss_one (qs_ret (qe_tup (qac (qv 4) (qac (qe_callTy call_tuple_of (by rfl) T.tup (by decide +kernel) (qac (qv 5) qa_nil)) qa_nil))))))))))))))), ?_⟩
    refine ⟨_, rfl, _, rfl, a, sn, k, rfl, hS, by omega, fun c1 H1 s1 => ⟨c1, 18, rfl, by decide, fun lx ns H2 hlx s2 hx2 hn hns => ?_⟩⟩
    have hS2 : SqL K H2 a (sn.map V.int) := (s1.trans s2).seq hS
    refine ⟨_, rfl, _, rfl, _, _, rfl, rfl, a, sn, k + 1, rfl, hS2, by omega, fun c2 H3 s3 => ⟨c2, 14, rfl, by decide, fun ly ny H4 hly s4 hy4 hny hnys => ?_⟩⟩
    have g : ∀ j : Nat, j < 18 → ∃ x : Int, atI (ns.map V.int) (j : Int) = some (.int x) ∧ 0 ≤ x ∧ x < 2000000000 := fun j hj => by
      obtain ⟨x, e, m⟩ := at_ok (ns := ns) (i := j) (by omega)
      exact ⟨x, e, hns x m⟩
    have m0 : ∀ (u : Int) (n : Int), 0 < n → 0 ≤ u % n ∧ u % n < n := fun u n h => ⟨Int.emod_nonneg _ (by omega), Int.emod_lt_of_pos _ h⟩
    obtain ⟨y0, e0, p0, _⟩ := g 0 (by decide)
    obtain ⟨y1, e1, p1, _⟩ := g 1 (by decide)
    obtain ⟨y2, e2, p2, _⟩ := g 2 (by decide)
    obtain ⟨y3, e3, p3, _⟩ := g 3 (by decide)
    obtain ⟨y4, e4, p4, _⟩ := g 4 (by decide)
    obtain ⟨y5, e5, p5, _⟩ := g 5 (by decide)
    obtain ⟨y6, e6, p6, _⟩ := g 6 (by decide)
    obtain ⟨y7, e7, p7, _⟩ := g 7 (by decide)
    obtain ⟨y8, e8, p8, _⟩ := g 8 (by decide)
    have sA : Same H H4 := s1.trans (s2.trans (s3.trans s4))
    have hx4 := (s3.trans s4) _ _ hx2
    have hlx0 : H lx = none := s1.free hlx
    have hly0 : H ly = none := (s1.trans (s2.trans s3)).free hly
    obtain ⟨m, hme, hm1, hm9⟩ : ∃ m : Nat, 1 + y1 % 9 = (m : Int) ∧ 1 ≤ m ∧ m ≤ 9 := by
      have := m0 y1 9 (by decide)
      exact ⟨(1 + y1 % 9).toNat, by omega, by omega, by omega⟩
    obtain ⟨j, hje, hj⟩ : ∃ j : Nat, y2 % 15 = (j : Int) ∧ j ≤ 14 := by
      have := m0 y2 15 (by decide)
      exact ⟨(y2 % 15).toNat, by omega, by omega⟩
    have hcut : cutV (ny.map V.int) none (some (y2 % 15)) = (ny.take j).map V.int := by
      rw [hje, cut_to (by rw [List.length_map]; omega), List.map_take]
    have hpw : (0 : Int) < 1 * 2 ^ (((m : Nat) : Int)).toNat := by
      rw [Int.one_mul]
      exact Int.pow_pos (by decide)
    refine ⟨_, rfl, lx, _, 1, .int y1, rfl, rfl, SqL.of hx4, e1, _, _, rfl, rfl, (by decide : (0 : Int) < 9), _, _, rfl, rfl, ?_⟩
    dsimp only
    rw [hme]
    refine seqVia (LSt H a k lx ly ns ny) ?_ (fun D' go => ?_)
    rotate_left
    · refine ⟨_, rfl, _, rfl, lx, _, 2, .int y2, rfl, rfl, SqL.of hx4, e2, _, _, rfl, rfl, (by decide : (0 : Int) < 15), _, rfl, ly, _, rfl, SqL.of hy4, fun u hu => ?_⟩
      rw [hcut]
      have w1 := same_new (o := .lst ((ny.take j).map V.int)) hu
      refine ⟨u, rfl, ⟨_, SqL.of upd_same⟩, comp_list (K := K) (xs := (ny.take j).map V.int) (fun i zs H5 => Same (upd H4 u (.lst ((ny.take j).map V.int))) H5 ∧ ∃ bs : List (List Nat), TpAt H5 zs bs ∧ bs.length = i ∧ ∀ b ∈ bs, Blk m b) ⟨Same.refl _, [], trivial, rfl, by simp⟩ (fun i zs H5 _ ⟨s5, _⟩ => SqL.of (s5 _ _ upd_same)) ?_ ?_⟩
      · rintro i v zs H5 N5 hi ⟨s5, bs, hT, hl, hb⟩ nx
        have hil : i < 15 := by
          have := (List.getElem?_eq_some_iff.mp hi).1
          rw [List.length_map, List.length_take] at this
          omega
        obtain ⟨z, _, rfl⟩ := ints_get hi
        refine ⟨Weak.set (by intro v z; cases z), ⟨_, rfl, _, rfl, _, _, rfl, rfl, ⟨by omega, by omega, by decide⟩, _, _, rfl, rfl, hpw, _, rfl, _, m, rfl, by omega, fun t b H6 ht s6 ht6 hb6 => ⟨?_, nx _ _ ⟨s5.trans s6, bs ++ [b], (hT.sm s6).snoc ht6, by rw [List.length_append, hl]; rfl, all_snoc hb hb6⟩⟩⟩⟩
        rw [hT.len, hl]
        exact Nat.lt_trans hil (by decide)
      · rintro zs H5 ⟨s5, bs, hT, hl, hb⟩
        have hl' : bs.length ≤ 14 := by
          rw [hl, List.length_map, List.length_take]
          omega
        refine ⟨by rw [hT.len]; exact Nat.le_trans hl' (by decide), fun r hr => go _ _ ?_⟩
        have w2 := same_new (o := .lst zs) hr
        have sB := w1.trans s5
        exact ⟨sA.trans (sB.trans w2), (sB.trans w2) _ _ hx4, (sB.trans w2) _ _ hy4, m, r, zs, bs, none, none, none, rfl, upd_same, (sA.trans sB).free hr, (ne_of_none (sB _ _ hx4) hr).symm, (ne_of_none (sB _ _ hy4) hr).symm, hT.sm w2, hm1, hm9, by omega, hb⟩
    rintro σ H5 ⟨sB, hx5, hy5, m, l, ws, bs, x6, x7, x8, rfl, hl5, hl0, hnx, hnly, hT, hm1, hm9, hlen, hb⟩
    refine ⟨_, rfl, lx, _, 0, .int y0, rfl, rfl, SqL.of hx5, e0, _, _, rfl, rfl, (by decide : (0 : Int) < 4), rfl, _, rfl, ?_⟩
    refine iteV (LSt H a k lx ly ns ny) ?_ (fun _ go => ?_) (fun _ go => go _ _ ⟨sB, hx5, hy5, m, l, ws, bs, x6, x7, x8, rfl, hl5, hl0, hnx, hnly, hT, hm1, hm9, hlen, hb⟩)
    rotate_left
    · refine ⟨_, rfl, _, rfl, lx, _, 2, .int y2, rfl, rfl, SqL.of hx5, e2, _, _, rfl, rfl, (by decide : (0 : Int) < 15), _, rfl, ly, _, rfl, SqL.of hy5, fun u hu => ?_⟩
      rw [hcut]
      have w1 := same_new (o := .lst ((ny.take j).map V.int)) hu
      refine ⟨u, rfl, ⟨_, SqL.of upd_same⟩, comp_list (K := K) (xs := (ny.take j).map V.int) (fun i zs H6 => Same (upd H5 u (.lst ((ny.take j).map V.int))) H6 ∧ ∃ bs : List (List Nat), TpAt H6 zs bs ∧ bs.length = i ∧ ∀ b ∈ bs, Blk m b) ⟨Same.refl _, [], trivial, rfl, by simp⟩ (fun i zs H6 _ ⟨s6, _⟩ => SqL.of (s6 _ _ upd_same)) ?_ ?_⟩
      · rintro i v zs H6 N6 hi ⟨s6, bs', hT', hl', hb'⟩ nx
        have hil : i < 15 := by
          have := (List.getElem?_eq_some_iff.mp hi).1
          rw [List.length_map, List.length_take] at this
          omega
        obtain ⟨z, hz, rfl⟩ := ints_get hi
        have hz0 := (hnys z (List.mem_of_mem_take hz)).1
        refine ⟨Weak.set (by intro v z; cases z), ⟨_, rfl, _, rfl, _, rfl, lx, _, 3, .int y3, rfl, rfl, SqL.of (s6 _ _ (w1 _ _ hx5)), e3, _, rfl, _, _, rfl, rfl, _, _, rfl, rfl, by show (0 : Int) < (m : Int) + 1; omega, z, m, y3 % ((m : Int) + 1), rfl, hz0, by omega, (m0 y3 ((m : Int) + 1) (by omega)).1, fun t b H7 ht s7 ht7 hb7 => ⟨?_, nx _ _ ⟨s6.trans s7, bs' ++ [b], (hT'.sm s7).snoc ht7, by rw [List.length_append, hl']; rfl, all_snoc hb' hb7⟩⟩⟩⟩
        rw [hT'.len, hl']
        exact Nat.lt_trans hil (by decide)
      · rintro zs H6 ⟨s6, bs', hT', hl', hb'⟩
        have hl'' : bs'.length ≤ 14 := by
          rw [hl', List.length_map, List.length_take]
          omega
        refine ⟨by rw [hT'.len]; exact Nat.le_trans hl'' (by decide), fun r hr => go _ _ ?_⟩
        have w2 := same_new (o := .lst zs) hr
        have sC := w1.trans s6
        exact ⟨sB.trans (sC.trans w2), (sC.trans w2) _ _ hx5, (sC.trans w2) _ _ hy5, m, r, zs, bs', x6, x7, x8, rfl, upd_same, (sB.trans sC).free hr, (ne_of_none (sC _ _ hx5) hr).symm, (ne_of_none (sC _ _ hy5) hr).symm, hT'.sm w2, hm1, hm9, by omega, hb'⟩
    clear hx5 hy5 hl5 hT hb sB hlen hm1 hm9 hl0 hnx hnly
    rintro σ H6 ⟨sB, hx5, hy5, m, l, ws, bs, x6, x7, x8, rfl, hl5, hl0, hnx, hnly, hT, hm1, hm9, hlen, hb⟩
    refine ⟨_, rfl, lx, _, 0, .int y0, rfl, rfl, SqL.of hx5, e0, _, _, rfl, rfl, (by decide : (0 : Int) < 4), _, _, rfl, rfl, _, rfl, ?_⟩
    refine iteV (LSt H a k lx ly ns ny) ?_ (fun _ go => ?_) (fun _ go => go _ _ ⟨sB, hx5, hy5, m, l, ws, bs, x6, x7, x8, rfl, hl5, hl0, hnx, hnly, hT, hm1, hm9, hlen, hb⟩)
    rotate_left
    · refine ⟨_, rfl, lx, _, 4, .int y4, rfl, rfl, SqL.of hx5, e4, _, rfl, lx, _, 5, .int y5, rfl, rfl, SqL.of hx5, e5, y4, y5, rfl, fun t l' m' ws' bs' H7 ht hl' s7 ht7 hl7 hT7 h1 h9 hn7 hb7 => ⟨t, _, rfl, SqT.of ht7, rfl, _, _, rfl, _, _, rfl, rfl, go _ _ ?_⟩⟩
      exact ⟨sB.trans s7, s7 _ _ hx5, s7 _ _ hy5, m', l', ws', bs', x6, x7, x8, rfl, hl7, sB.free hl', (ne_of_none hx5 hl').symm, (ne_of_none hy5 hl').symm, hT7, h1, h9, hn7, hb7⟩
    clear hx5 hy5 hl5 hT hb sB hlen hm1 hm9 hl0 hnx hnly
    rintro σ H7 ⟨sB, hx5, hy5, m, l, ws, bs, x6, x7, x8, rfl, hl5, hl0, hnx, hnly, hT, hm1, hm9, hlen, hb⟩
    refine ⟨_, rfl, lx, _, 6, .int y6, rfl, rfl, SqL.of hx5, e6, _, _, rfl, rfl, (by decide : (0 : Int) < 4), rfl, _, rfl, ?_⟩
    refine iteV (LSt H a k lx ly ns ny) ?_ (fun _ go => ?_) (fun _ go => go _ _ ⟨sB, hx5, hy5, m, l, ws, bs, x6, x7, x8, rfl, hl5, hl0, hnx, hnly, hT, hm1, hm9, hlen, hb⟩)
    rotate_left
    · refine ⟨_, rfl, _, rfl, l, l, ws, ws, rfl, rfl, hl5, hl5, by rw [hT.len]; exact Nat.le_trans (show bs.length + bs.length ≤ 120 by omega) (by decide), fun c hc => ?_⟩
      have w1 := same_new (o := .lst (ws ++ ws)) hc
      refine ⟨_, rfl, c, _, rfl, SqL.of upd_same, fun r hr => go _ _ ?_⟩
      rw [show cutV (ws ++ ws) none (some 14) = (ws ++ ws).take 14 from cut_le (k := 14)]
      have w2 := same_new (o := .lst ((ws ++ ws).take 14)) hr
      refine ⟨sB.trans (w1.trans w2), (w1.trans w2) _ _ hx5, (w1.trans w2) _ _ hy5, m, r, _, (bs ++ bs).take 14, x6, x7, x8, rfl, upd_same, (sB.trans w1).free hr, (ne_of_none (w1 _ _ hx5) hr).symm, (ne_of_none (w1 _ _ hy5) hr).symm, (((hT.app hT).take 14).sm w1).sm w2, hm1, hm9, by rw [List.length_take]; omega, fun b hb' => ?_⟩
      rcases List.mem_append.mp (List.mem_of_mem_take hb') with z | z
      · exact hb b z
      · exact hb b z
    clear hx5 hy5 hl5 hT hb sB hlen hm1 hm9 hl0 hnx hnly
    rintro σ H8 ⟨sB, hx5, hy5, m, l, ws, bs, x6, x7, x8, rfl, hl5, hl0, hnx, hnly, hT, hm1, hm9, hlen, hb⟩
    dsimp only
    refine seqVia (LSt H a k lx ly ns ny) ?_ (fun D' go => ?_)
    rotate_left
    · have st : LSt H a k lx ly ns ny [some (.ref a), some (.int k), some (.ref lx), some (.ref ly), some (.int (m : Nat)), some (.ref l), x6, x7, x8, none] H8 := ⟨sB, hx5, hy5, m, l, ws, bs, x6, x7, x8, rfl, hl5, hl0, hnx, hnly, hT, hm1, hm9, hlen, hb⟩
      refine ⟨_, rfl, lx, _, 6, .int y6, rfl, rfl, SqL.of hx5, e6, _, _, rfl, rfl, (by decide : (0 : Int) < 4), rfl, _, rfl, ?_⟩
      by_cases hc : V.int (y6 % 4) = V.int 2
      · refine ifT hc ⟨_, rfl, by show 0 ≤ sizeLine; decide, fun d hd => ?_⟩
        have w1 := same_new (o := .lst []) hd
        refine ⟨dTps bs, .list [], by simp only [dTps, IsD]; exact ⟨l, _, rfl, SqL.of (w1 _ _ hl5), tps_isD (hT.sm w1)⟩, by simp only [IsD]; exact ⟨d, _, rfl, SqL.of upd_same, by simp [IsDs]⟩, shaped_tps bs, rfl, _, rfl, ?_⟩
        show if (!PyData.eqv (dTps bs) (.list [])) = true then _ else _
        by_cases hbe : bs = []
        · rw [show PyData.eqv (dTps bs) (.list []) = true by rw [hbe]; rfl]
          exact iteF (go _ _ ⟨sB.trans w1, w1 _ _ hx5, w1 _ _ hy5, m, l, ws, bs, x6, x7, x8, rfl, w1 _ _ hl5, hl0, hnx, hnly, hT.sm w1, hm1, hm9, hlen, hb⟩)
        · have hlen0 : 0 < bs.length := List.length_pos_iff.mpr hbe
          rw [show PyData.eqv (dTps bs) (.list []) = false by
            cases bs with
            | nil => exact absurd rfl hbe
            | cons y r => simp [dTps, PyData.eqv, PyData.eqvAll]]
          have hwl : ws.length = bs.length := hT.len
          have hm2 := m0 y7 (ws.length : Int) (by omega)
          obtain ⟨jj, hjje, hjjl⟩ : ∃ jj : Nat, y7 % (ws.length : Int) = (jj : Int) ∧ jj < ws.length := ⟨(y7 % (ws.length : Int)).toNat, by omega, by omega⟩
          have hget : ws[jj]? = some ws[jj] := List.getElem?_eq_getElem hjjl
          obtain ⟨ab, bb, eab, hbs, hab⟩ := (hT.sm w1).get hget
          have hbb : Blk m bb := hb bb (List.mem_of_getElem? hbs)
          have hbl := hbb.len
          have hpm := m0 y8 (m : Int) (by omega)
          obtain ⟨pt, hpte, hptl⟩ : ∃ pt : Nat, y8 % (m : Int) = (pt : Int) ∧ pt < m := ⟨(y8 % (m : Int)).toNat, by omega, by omega⟩
          have hatI : atI ws (y7 % (ws.length : Int)) = some (.ref ab) := by rw [hjje]; exact atI_nat (hget.trans (congrArg some eab))
          refine iteT ⟨_, rfl, lx, _, 7, .int y7, rfl, rfl, SqL.of (w1 _ _ hx5), e7, _, rfl, l, _, rfl, .inl (SqL.of (w1 _ _ hl5)), _, _, rfl, rfl, by omega, ?_⟩
          refine ⟨_, rfl, lx, _, 8, .int y8, rfl, rfl, SqL.of (w1 _ _ hx5), e8, _, rfl, _, _, rfl, rfl, by show (0 : Int) < (m : Int); omega, ?_⟩
          refine ⟨_, rfl, _, rfl, l, ws, _, .ref ab, rfl, rfl, SqL.of (w1 _ _ hl5), hatI, ab, rfl, .inr ⟨⟨_, SqT.of hab⟩, comp_tup (K := K) (xs := nats bb) (fun i zs H9 => H9 = upd H8 d (.lst []) ∧ zs = nats ((bb.take i).filter fun x => decide (x ≠ pt))) ⟨rfl, rfl⟩ (fun i zs H9 _ ⟨e, _⟩ => SqT.of (e ▸ hab)) ?_ ?_⟩⟩
          · rintro i v zs H9 N9 hi ⟨rfl, rfl⟩ nx
            obtain ⟨p, hp, rfl⟩ := nats_get hi
            refine ⟨Weak.set (by intro v z; cases z), ⟨_, rfl, _, rfl, rfl, _, rfl, ?_⟩⟩
            have htk : (bb.take (i + 1)).filter (fun x => decide (x ≠ pt)) = (bb.take i).filter (fun x => decide (x ≠ pt)) ++ [p].filter (fun x => decide (x ≠ pt)) := by
              rw [List.take_add_one, hp, Option.toList_some, List.filter_append]
            refine ite2 (fun hne => ⟨_, rfl, ?_, nx _ _ ⟨rfl, ?_⟩⟩) (fun hne => nx _ _ ⟨rfl, ?_⟩)
            · rw [nats_len]
              refine Nat.lt_of_le_of_lt (Nat.le_trans (List.length_filter_le ..) (show _ ≤ 9 from ?_)) (by decide)
              rw [List.length_take]
              omega
            · have hpp : p ≠ pt := fun z => by
                rw [z, ← hpte] at hne
                simp at hne
              rw [htk, List.filter_cons_of_pos (by simpa using hpp), List.filter_nil, nats_snoc]
            · have hpp : p = pt := by
                have : (V.int ((p : Nat) : Int)) = V.int (y8 % (m : Int)) := by simpa using hne
                have e := V.int.inj this
                omega
              rw [htk, List.filter_cons_of_neg (by simpa using hpp), List.filter_nil, List.append_nil]
          rintro zs H9 ⟨rfl, rfl⟩
          have hfl : ((bb.take (nats bb).length).filter fun x => decide (x ≠ pt)) = bb.filter fun x => decide (x ≠ pt) := by rw [nats_len, List.take_length]
          rw [hfl]
          have hfle : (bb.filter fun x => decide (x ≠ pt)).length ≤ 9 := Nat.le_trans (List.length_filter_le ..) (by omega)
          refine ⟨by rw [nats_len]; exact Nat.le_trans hfle (by decide), fun r hr => ?_⟩
          have w2 := same_new (o := .lst (nats (bb.filter fun x => decide (x ≠ pt)))) hr
          refine ⟨_, rfl, by show 1 ≤ sizeLine; decide, fun d2 hd2 => ?_⟩
          have w3 := same_new (o := .lst [V.int (y8 % (m : Int))]) hd2
          have w13 := w1.trans (w2.trans w3)
          refine ⟨_, rfl, _, rfl, _, rfl, l, ws, _, .ref ab, rfl, rfl, SqL.of (w13 _ _ hl5), hatI, ab, nats bb, rfl, .inr (SqT.of ((w2.trans w3) _ _ hab)), rfl, by simp [nats, flatV], .inr ⟨_, rfl, ?_⟩⟩
          generalize (if (true : Bool) = true then !inV (V.int (y8 % (m : Int))) (nats bb) else inV (V.int (y8 % (m : Int))) (nats bb)) = kk
          obtain ⟨nn, hnn, hnn1⟩ : ∃ nn : Nat, (if kk = true then (1 : Int) else 0) = (nn : Int) ∧ nn ≤ 1 := by
            cases kk
            · exact ⟨0, rfl, by decide⟩
            · exact ⟨1, rfl, by decide⟩
          refine ⟨d2, [V.int (y8 % (m : Int))], (nn : Int), rfl, congrArg V.int hnn, SqL.of upd_same, by omega, by omega, by rw [List.length_singleton, Int.toNat_natCast]; omega, fun l2 hl2 => ?_⟩
          have erep : (List.replicate (nn : Int).toNat [V.int (y8 % (m : Int))]).flatten = nats (List.replicate nn pt) := by
            rw [Int.toNat_natCast, hpte]
            rcases (show nn = 0 ∨ nn = 1 by omega) with rfl | rfl <;> rfl
          rw [erep]
          have w4 := same_new (o := .lst (nats (List.replicate nn pt))) hl2
          have hbk := edit_blk hbb hptl nn hnn1
          refine ⟨r, l2, _, _, rfl, rfl, (w3.trans w4) _ _ upd_same, upd_same, by rw [nats_len, nats_len, List.length_replicate]; exact Nat.le_trans (show _ ≤ 10 by omega) (by decide), fun c hc' => ?_⟩
          rw [show nats (bb.filter fun x => decide (x ≠ pt)) ++ nats (List.replicate nn pt) = nats (bb.filter (fun x => decide (x ≠ pt)) ++ List.replicate nn pt) by unfold nats; rw [List.map_append]]
          generalize hB : bb.filter (fun x => decide (x ≠ pt)) ++ List.replicate nn pt = B at hbk ⊢
          have hBl := hbk.len
          have w5 := same_new (o := .lst (nats B)) hc'
          refine ⟨_, rfl, c, B.map fun p => ((p : Nat) : Int), rfl, SqL.of (by rw [← nats_ints]; exact upd_same), by rw [List.length_map]; omega, fun l3 ns' hl3 hp' hs' => ?_⟩
          obtain ⟨b', eb, hp2, hs2⟩ := back_nats hp' hs'
          rw [eb]
          have w6 := same_new (o := .lst (nats b')) hl3
          refine ⟨l3, _, rfl, .inl ⟨SqL.of upd_same, fun t ht => ?_⟩⟩
          have w7 := same_new (o := .tup (nats b')) ht
          have wA := w13.trans (w4.trans (w5.trans (w6.trans w7)))
          have hlA := wA _ _ hl5
          refine ⟨_, rfl, _, rfl, l, ws, _, jj, rfl, rfl, hlA, by rw [hjje]; unfold ixN; rw [if_pos (by omega), if_pos (by omega), Int.toNat_natCast], go _ _ ?_⟩
          refine ⟨same_upd (sB.trans wA) hl0, by rw [upd_ne hnx.symm]; exact wA _ _ hx5, by rw [upd_ne hnly.symm]; exact wA _ _ hy5, m, l, ws.set jj (.ref t), bs.set jj b', _, _, _, rfl, upd_same, hl0, hnx, hnly, tp_edit (hT.sm wA) hlA upd_same jj, hm1, hm9, by rw [List.length_set]; exact hlen, fun b hb' => ?_⟩
          · rcases List.mem_or_eq_of_mem_set hb' with z | z
            · exact hb b z
            · rw [z]
              exact hbk.perm hp2
      · exact ifF hc (go _ _ st)
    clear hx5 hy5 hl5 hT hb sB hlen hm1 hm9 hl0 hnx hnly
    rintro σ H9 ⟨sB, hx5, hy5, m, l, ws, bs, x6, x7, x8, rfl, hl5, hl0, hnx, hnly, hT, hm1, hm9, hlen, hb⟩
    refine ⟨_, rfl, _, rfl, lx, _, rfl, SqL.of hx5, fun u hu => ?_⟩
    rw [show cutV (ns.map V.int) (some 9) none = (ns.drop 9).map V.int by rw [show (9 : Int) = ((9 : Nat) : Int) from rfl, cut_from (by rw [List.length_map]; omega), List.map_drop]]
    have w1 := same_new (o := .lst ((ns.drop 9).map V.int)) hu
    refine ⟨_, rfl, u, ns.drop 9, m, rfl, SqL.of upd_same, by rw [List.length_drop]; omega, by omega, fun lr r HA hlr sR hlrA hperm => ?_⟩
    have sC := w1.trans sR
    have hxA := sC _ _ hx5
    have hlA := sC _ _ hl5
    have hTA := hT.sm sC
    have hrl : r.length = m := by rw [hperm.length_eq, List.length_range]
    refine ⟨_, rfl, lx, _, 6, .int y6, rfl, rfl, SqL.of hxA, e6, _, _, rfl, rfl, ⟨by decide, by decide⟩, _, _, rfl, rfl, (by decide : (0 : Int) < 2), rfl, _, rfl, ?_⟩
    refine iteV (fun σ' H' => Same H H' ∧ ∃ (l : Addr) (ws : List V) (bs : List (List Nat)) (x6 x7 x8 x9 : Option V), σ' = [some (.ref a), some (.int (k : Int)), some (.ref lx), some (.ref ly), some (.int (m : Nat)), some (.ref l), x6, x7, x8, x9] ∧ H' l = some (.lst ws) ∧ TpAt H' ws bs ∧ bs.length ≤ 60 ∧ ∀ b ∈ bs, Blk m b) ?_ (fun _ go => ?_) (fun _ go => go _ _ ⟨sB.trans sC, l, ws, bs, x6, x7, x8, _, rfl, hlA, hTA, hlen, hb⟩)
    · rintro σ' HB ⟨sD, l', ws', bs', z6, z7, z8, z9, rfl, hlB, hTB, hlenB, hbB⟩
      refine ⟨_, rfl, _, rfl, l', _, rfl, .inl ⟨SqL.of hlB, fun tl htl => ⟨by show 2 ≤ sizeLine; decide, fun t ht => ?_⟩⟩⟩
      have v1 := same_new (o := .tup ws') htl
      have v2 := same_new (o := .tup [.int (m : Nat), .ref tl]) ht
      exact q t tl m ws' bs' _ ((sD.trans v1).free ht) (sD.trans (v1.trans v2)) upd_same (v2 _ _ upd_same) ((hTB.sm v1).sm v2) hm1 hm9 hlenB hbB
    · refine ⟨_, rfl, l, rfl, ⟨_, SqL.of hlA⟩, comp_list (K := K) (xs := ws) (fun i zs H5 => Same HA H5 ∧ ∃ cs : List (List Nat), TpAt H5 zs cs ∧ cs.length = i ∧ ∀ b ∈ cs, Blk m b) ⟨Same.refl _, [], trivial, rfl, by simp⟩ (fun i zs H5 _ ⟨s5, _⟩ => SqL.of (s5 _ _ hlA)) ?_ ?_⟩
      · rintro i v zs H5 N5 hi ⟨s5, cs, hT5, hl5', hb5⟩ nx
        have hil : i < ws.length := (List.getElem?_eq_some_iff.mp hi).1
        obtain ⟨ab, bb, rfl, hbs, hab⟩ := (hTA.sm s5).get hi
        have hbb : Blk m bb := hb bb (List.mem_of_getElem? hbs)
        have hbl := hbb.len
        have hzl : zs.length < sizeLine := by
          rw [hT5.len, hl5']
          exact Nat.lt_of_lt_of_le hil (by rw [hTA.len]; exact Nat.le_trans hlen (by decide))
        refine ⟨Weak.set (by intro v z; cases z), ?_⟩
        refine ⟨_, rfl, ab, rfl, .inr ⟨⟨_, SqT.of hab⟩, comp_tup (K := K) (xs := nats bb) (fun j us H6 => H6 = H5 ∧ us = nats ((bb.take j).map fun p => r.getD p 0)) ⟨rfl, rfl⟩ (fun j us H6 _ ⟨e, _⟩ => SqT.of (e ▸ hab)) ?_ ?_⟩⟩
        · rintro j' x us H6 N6 hj' ⟨rfl, rfl⟩ nx6
          obtain ⟨p, hp, rfl⟩ := nats_get hj'
          have hpm : p < m := hbb.lt p (List.mem_of_getElem? hp)
          have hrp : (nats r)[p]? = some (.int ((r.getD p 0 : Nat) : Int)) := by
            unfold nats
            rw [List.getElem?_map, List.getElem?_eq_getElem (by omega), List.getD_eq_getElem?_getD, List.getElem?_eq_getElem (by omega)]
            rfl
          refine ⟨Weak.set (by intro v z; cases z), ⟨_, rfl, _, rfl, lr, nats r, _, .int ((r.getD p 0 : Nat) : Int), rfl, rfl, SqL.of (s5 _ _ hlrA), atI_nat hrp, ?_, nx6 _ _ ⟨rfl, ?_⟩⟩⟩
          · rw [nats_len, List.length_map, List.length_take]
            exact Nat.lt_of_le_of_lt (show _ ≤ 9 by omega) (by decide)
          · rw [List.take_add_one, hp, Option.toList_some, List.map_append, List.map_cons, List.map_nil, nats_snoc]
        · rintro us H6 ⟨rfl, rfl⟩
          rw [show bb.take (nats bb).length = bb by rw [nats_len, List.take_length]]
          have hbk := perm_blk hbb hperm
          have hbkl := hbk.len
          refine ⟨by rw [nats_len]; exact Nat.le_trans hbkl (Nat.le_trans hm9 (by decide)), fun r2 hr2 => ?_⟩
          have v1 := same_new (o := .lst (nats (bb.map fun p => r.getD p 0))) hr2
          refine ⟨r2, (bb.map fun p => r.getD p 0).map fun p => ((p : Nat) : Int), rfl, SqL.of (by rw [← nats_ints]; exact upd_same), by rw [List.length_map]; omega, fun l3 ns' hl3 hp' hs' => ?_⟩
          obtain ⟨b', eb, hp2, _⟩ := back_nats hp' hs'
          rw [eb]
          have v2 := same_new (o := .lst (nats b')) hl3
          refine ⟨l3, _, rfl, .inl ⟨SqL.of upd_same, fun t ht => ⟨hzl, nx _ _ ⟨s5.trans (v1.trans (v2.trans (same_new ht))), cs ++ [b'], (((hT5.sm v1).sm v2).sm (same_new ht)).snoc upd_same, by rw [List.length_append, hl5']; rfl, all_snoc hb5 (hbk.perm hp2)⟩⟩⟩⟩
      · rintro zs H5 ⟨s5, cs, hT5, hl5', hb5⟩
        have hcl : cs.length ≤ 60 := by
          rw [hl5', hTA.len]
          exact hlen
        refine ⟨by rw [hT5.len]; exact Nat.le_trans hcl (by decide), fun r2 hr2 => go _ _ ?_⟩
        have v1 := same_new (o := .lst zs) hr2
        exact ⟨sB.trans (sC.trans (s5.trans v1)), r2, zs, cs, x6, x7, x8, _, rfl, upd_same, hT5.sm v1, hcl, hb5⟩
def cnt (bs : List (List Nat)) (ps : List Nat) : Nat := (bs.filter fun b => ps.all fun p => decide (p ∈ b)).length
theorem inV_nats (p : Nat) : ∀ b : List Nat, inV (V.int ((p : Nat) : Int)) (nats b) = decide (p ∈ b)
  | [] => rfl
  | x :: b => by
    have ih := inV_nats p b
    unfold inV at ih ⊢
    unfold nats at ih ⊢
    rw [List.map_cons, List.any_cons, ih]
    by_cases h : x = p
    · subst h
      simp [eqV]
    · have : (eqV (V.int ((x : Nat) : Int)) (V.int ((p : Nat) : Int))) = false := by simp [eqV]; omega
      rw [this, Bool.false_or]
      simp [List.mem_cons, Ne.symm h]
theorem flat_nats (b : List Nat) : (nats b).all flatV = true := by simp [nats, flatV]
def LayA (H : Hp) (t : Addr) (m : Nat) (bs : List (List Nat)) : Prop := ∃ (l : Addr) (ws : List V), H t = some (.tup [.int (m : Nat), .ref l]) ∧ H l = some (.tup ws) ∧ TpAt H ws bs ∧ bs.length ≤ 200
theorem LayA.sm {H H' : Hp} (s : Same H H') {t : Addr} {m : Nat} {bs : List (List Nat)} (h : LayA H t m bs) : LayA H' t m bs := by
  obtain ⟨l, ws, h1, h2, h3, h4⟩ := h
  exact ⟨l, ws, s _ _ h1, s _ _ h2, h3.sm s, h4⟩
theorem cnt_snoc (bs : List (List Nat)) (b : List Nat) (ps : List Nat) : cnt (bs ++ [b]) ps = cnt bs ps + if (ps.all fun p => decide (p ∈ b)) = true then 1 else 0 := by
  unfold cnt
  rw [List.filter_append, List.length_append]
  by_cases h : (ps.all fun p => decide (p ∈ b)) = true
  · simp only [List.filter_cons, List.filter_nil, h, if_true]; rfl
  · simp only [List.filter_cons, List.filter_nil, h]; rfl
theorem cnt_le (bs : List (List Nat)) (ps : List Nat) : cnt bs ps ≤ bs.length := List.length_filter_le ..
theorem take_snoc {α : Type} {bs : List α} {i : Nat} {b : α} (h : bs[i]? = some b) : bs.take (i + 1) = bs.take i ++ [b] := by
  rw [List.take_add_one, h, Option.toList_some]
def mks (m : Nat) (b : List Nat) : List V := (List.range m).map fun p => V.bl (decide (p ∈ b))
theorem mks_len (m : Nat) (b : List Nat) : (mks m b).length = m := by unfold mks; rw [List.length_map, List.length_range]
theorem mks_get {m p : Nat} (b : List Nat) (h : p < m) : (mks m b)[p]? = some (.bl (decide (p ∈ b))) := by
  unfold mks
  rw [List.getElem?_map, List.getElem?_range h]
  rfl
theorem mks_set {m x : Nat} (c : List Nat) : (mks m c).set x (V.bl true) = mks m (c ++ [x]) := by
  unfold mks
  apply List.ext_getElem
  · simp
  intro i h1 h2
  rw [List.getElem_set]
  simp only [List.getElem_map, List.getElem_range]
  by_cases h : x = i
  · subst h
    simp
  · simp [h, Ne.symm h]
theorem mks_nil : ∀ m : Nat, (List.replicate m [V.bl false]).flatten = mks m []
  | 0 => rfl
  | m + 1 => by
    rw [List.replicate_succ', List.flatten_append, mks_nil m]
    unfold mks
    rw [List.range_succ, List.map_append]
    rfl
def spMarks : Sp := fun vs H Q _ => ∃ (a : Addr) (m : Nat) (b : List Nat), vs = [.int (m : Nat), .ref a] ∧ (H a = some (.lst (nats b)) ∨ H a = some (.tup (nats b))) ∧ m ≤ 60 ∧ (∀ x ∈ b, x < m) ∧ ∀ (l : Addr) (H' : Hp), H l = none → Same H H' → H' l = some (.lst (mks m b)) → Q (.ref l) H'
theorem scMarksOf : FnScope ["points", "block", "marks", "point"] ["points", "block"] (defScope sMarksOf) := ⟨rfl, rfl, rfl, by decide +kernel, rfl, by decide +kernel, by decide +kernel⟩
theorem ok_marks {f : Addr} {fd : FuncData} (F : Fun K "marks_of" "marks_of" sMarksOf f fd) (T : TxtB mg) : FnOk P w K mg base CX0 1 f fd ["points", "block"] spMarks := by
  refine F.okQ scMarksOf (fun vs H Q E h => ?_) (fun cdv A outer s H vs Q E hr h => ?_)
  · obtain ⟨a, m, b, rfl, _⟩ := h
    rfl
  · obtain ⟨a, m, b, rfl, ha, hm, hb, q⟩ := h
    refine ⟨_, (qss_cons (qs_set (i := 2) scMarksOf.nd rfl (Or.inl rfl) (qe_op op_mulL (qe_lst (qac qe_bl qa_nil)) (qv 0)))
      (qss_cons (qs_for PassesOwn.never rfl (qi_seq (qv 1)) (qg_name (i := 3) scMarksOf.nd rfl (Or.inl rfl))
        (qss_one (qs_asg qe_bl (qg_sub (qv 2) (qv 3) set_list))))
      (qss_one (qs_ret (qv 2))))), ?_⟩
    refine ⟨by show 1 ≤ sizeLine; decide, fun d hd => ⟨_, rfl, d, [V.bl false], (m : Int), rfl, rfl, SqL.of upd_same, by omega, by omega, by show 1 * (m : Int).toNat ≤ 65536; omega, fun l hl => ?_⟩⟩
    have w1 := same_new (o := .lst [V.bl false]) hd
    have w2 := same_new (o := .lst (List.replicate (m : Int).toNat [V.bl false]).flatten) hl
    have hl0 : H l = none := w1.free hl
    have key : ∀ i x σ (H3 : Hp), (nats b)[i]? = some x → (Same H H3 ∧ ∃ x3, σ = [some (V.int (m : Nat)), some (V.ref a), some (V.ref l), x3] ∧ H3 l = some (.lst (mks m (b.take i)))) → ∃ p : Nat, x = .int (p : Nat) ∧ ixN (mks m (b.take i)).length (p : Nat) = some p ∧ H3 l = some (.lst (mks m (b.take i))) ∧ Same H (upd H3 l (.lst ((mks m (b.take i)).set p (V.bl true)))) ∧ upd H3 l (.lst ((mks m (b.take i)).set p (V.bl true))) l = some (.lst (mks m (b.take (i + 1)))) := by
      rintro i x σ H3 hi ⟨s3, x3, _, hl3⟩
      obtain ⟨p, hp, rfl⟩ := L2.nats_get hi
      have hpm := hb p (List.mem_of_getElem? hp)
      refine ⟨p, rfl, ?_, hl3, same_upd s3 hl0, ?_⟩
      · unfold ixN
        rw [if_pos (by omega), if_pos (by rw [mks_len]; omega), Int.toNat_natCast]
      · rw [upd_same, mks_set, take_snoc hp]
    have st : Same H (upd (upd H d (.lst [V.bl false])) l (.lst (List.replicate (m : Int).toNat [V.bl false]).flatten)) ∧ ∃ x3, [some (V.int (m : Nat)), some (V.ref a), some (V.ref l), none] = [some (V.int (m : Nat)), some (V.ref a), some (V.ref l), x3] ∧ upd (upd H d (.lst [V.bl false])) l (.lst (List.replicate (m : Int).toNat [V.bl false]).flatten) l = some (.lst (mks m (b.take 0))) := by
      refine ⟨w1.trans w2, none, rfl, ?_⟩
      rw [upd_same, Int.toNat_natCast, mks_nil]
      rfl
    rcases ha with ha | ha
    · refine ⟨_, rfl, a, rfl, .inl ⟨⟨_, SqL.of ((w1.trans w2) _ _ ha)⟩, for_list (K := K) (xs := nats b) (fun i σ H3 => Same H H3 ∧ ∃ x3, σ = [some (V.int (m : Nat)), some (V.ref a), some (V.ref l), x3] ∧ H3 l = some (.lst (mks m (b.take i)))) st (fun i σ H3 _ ⟨s3, _⟩ => SqL.of (s3 _ _ ha)) ?_ ?_⟩⟩
      · rintro i x σ H3 hi hP
        obtain ⟨p, rfl, h1, h2, h3, h4⟩ := key i x σ H3 hi hP
        obtain ⟨s3, x3, rfl, hl3⟩ := hP
        exact ⟨_, rfl, _, rfl, l, _, _, p, rfl, rfl, h2, h1, h3, _, rfl, h4⟩
      · rintro σ H3 ⟨s3, x3, rfl, hl3⟩
        rw [nats_len, List.take_length] at hl3
        exact ⟨_, rfl, q l _ hl0 s3 hl3⟩
    · refine ⟨_, rfl, a, rfl, .inr ⟨⟨_, SqT.of ((w1.trans w2) _ _ ha)⟩, for_tup (K := K) (xs := nats b) (fun i σ H3 => Same H H3 ∧ ∃ x3, σ = [some (V.int (m : Nat)), some (V.ref a), some (V.ref l), x3] ∧ H3 l = some (.lst (mks m (b.take i)))) st (fun i σ H3 _ ⟨s3, _⟩ => SqT.of (s3 _ _ ha)) ?_ ?_⟩⟩
      · rintro i x σ H3 hi hP
        obtain ⟨p, rfl, h1, h2, h3, h4⟩ := key i x σ H3 hi hP
        obtain ⟨s3, x3, rfl, hl3⟩ := hP
        exact ⟨_, rfl, _, rfl, l, _, _, p, rfl, rfl, h2, h1, h3, _, rfl, h4⟩
      · rintro σ H3 ⟨s3, x3, rfl, hl3⟩
        rw [nats_len, List.take_length] at hl3
        exact ⟨_, rfl, q l _ hl0 s3 hl3⟩
/-- lists of marks, one for each block -/
def MkAt (H : Hp) (m : Nat) : List V → List (List Nat) → Prop
  | [], [] => True
  | v :: vs, b :: bs => (∃ a, v = .ref a ∧ H a = some (.lst (mks m b))) ∧ MkAt H m vs bs
  | _, _ => False
theorem MkAt.sm {H H' : Hp} {m : Nat} (s : Same H H') : ∀ {vs : List V} {bs : List (List Nat)}, MkAt H m vs bs → MkAt H' m vs bs
  | [], [], _ => trivial
  | _ :: _, _ :: _, ⟨⟨a, e, q⟩, r⟩ => ⟨⟨a, e, s _ _ q⟩, r.sm s⟩
theorem MkAt.len {H : Hp} {m : Nat} : ∀ {vs : List V} {bs : List (List Nat)}, MkAt H m vs bs → vs.length = bs.length
  | [], [], _ => rfl
  | _ :: _, _ :: _, h => by rw [List.length_cons, List.length_cons, MkAt.len h.2]
theorem MkAt.snoc {H : Hp} {m : Nat} {a : Addr} {b : List Nat} (e : H a = some (.lst (mks m b))) : ∀ {vs : List V} {bs : List (List Nat)}, MkAt H m vs bs → MkAt H m (vs ++ [.ref a]) (bs ++ [b])
  | [], [], _ => ⟨⟨a, rfl, e⟩, trivial⟩
  | _ :: _, _ :: _, h => ⟨h.1, h.2.snoc e⟩
theorem MkAt.get {H : Hp} {m : Nat} : ∀ {vs : List V} {bs : List (List Nat)} {i : Nat} {v : V}, MkAt H m vs bs → vs[i]? = some v → ∃ a b, v = .ref a ∧ bs[i]? = some b ∧ H a = some (.lst (mks m b))
  | v :: vs, b :: bs, 0, _, h, e => by
    cases e
    obtain ⟨a, e, q⟩ := h.1
    exact ⟨a, b, e, rfl, q⟩
  | _ :: vs, _ :: bs, i + 1, v, h, e => MkAt.get (i := i) h.2 e
def spMarked : Sp := fun vs H Q _ => ∃ (t : Addr) (m : Nat) (bs : List (List Nat)), vs = [.ref t] ∧ LayA H t m bs ∧ m ≤ 60 ∧ (∀ b ∈ bs, Blk m b) ∧ ∀ (l : Addr) (ws : List V) (H' : Hp), H l = none → Same H H' → H' l = some (.lst ws) → MkAt H' m ws bs → Q (.ref l) H'
theorem scMarkedBlocks : FnScope ["M"] ["M"] (defScope sMarkedBlocks) := ⟨rfl, rfl, rfl, by decide +kernel, rfl, by decide +kernel, by decide +kernel⟩
theorem ok_marked {f : Addr} {fd : FuncData} (F : Fun K "marked_blocks" "marked_blocks" sMarkedBlocks f fd) (T : TxtB mg) (pMarksOf : Pm P w K mg base CX0 1 "marks_of" ["points", "block"] spMarks) : FnOk P w K mg base CX0 2 f fd ["M"] spMarked := by
  refine F.okQ scMarkedBlocks (fun vs H Q E h => ?_) (fun cdv A outer s H vs Q E hr1 h => ?_)
  · obtain ⟨t, m, bs, rfl, _⟩ := h
    rfl
  · obtain ⟨t, m, bs, rfl, ⟨lb, ws, ht, hlb, hT, hlen⟩, hm, hb, q⟩ := h
    refine ⟨_, (qss_one (qs_ret (qe_comp (g := gName 0) (N := ["block", "M"]) (src := [none, some 0]) rfl (comp_scope (defScope sMarkedBlocks) ["M"] rfl rfl (by decide +kernel) rfl) (qi_tup (qe_ix ix_tup (qv 0) qe_int (fun _ _ => rfl))) (fun _ _ _ _ _ => (qg_name (i := 0) (show (["block", "M"] : List Str).Nodup by decide +kernel) rfl (Or.inl rfl) (Or.inr rfl))) (fun _ _ _ _ _ => qif_nil) (fun _ _ _ _ _ => (qe_callP pMarksOf hr1 rfl pass0 (qac (qe_ix (show IxR _ (rIxT K) from ix_tup) (qv 1) qe_int (fun _ _ => rfl)) (qac (qv 0) qa_nil))))))), ?_⟩
    refine ⟨_, rfl, t, _, 1, .ref lb, rfl, rfl, SqT.of ht, rfl, lb, rfl, ⟨_, SqT.of hlb⟩, comp_tup (K := K) (xs := ws) (fun i zs H2 => Same H H2 ∧ MkAt H2 m zs (bs.take i)) ⟨Same.refl _, trivial⟩ (fun i zs H2 _ ⟨e, _⟩ => SqT.of (e _ _ hlb)) ?_ ?_⟩
    · rintro i v zs H2 N hi ⟨s2, hz⟩ nx
      obtain ⟨a, b, rfl, hbs, hab⟩ := (hT.sm s2).get hi
      have hil := (List.getElem?_eq_some_iff.mp hbs).1
      refine ⟨Weak.set (by intro v z; cases z), ⟨_, rfl, t, _, 0, .int (m : Nat), rfl, rfl, SqT.of (s2 _ _ ht), rfl, _, rfl, a, m, b, rfl, .inr hab, hm, (hb b (List.mem_of_getElem? hbs)).lt, fun l H3 hl s3 hl3 => ⟨?_, nx _ _ ⟨s2.trans s3, ?_⟩⟩⟩⟩
      · rw [hz.len, List.length_take]
        exact Nat.lt_of_le_of_lt (show _ ≤ 200 by omega) (by decide)
      · rw [take_snoc hbs]
        exact (hz.sm s3).snoc hl3
    · rintro zs H2 ⟨s2, hz⟩
      rw [hT.len, List.take_length] at hz
      refine ⟨by rw [hz.len]; exact Nat.le_trans hlen (by decide), fun r hr => ?_⟩
      exact q r zs _ (s2.free hr) (s2.trans (same_new hr)) upd_same (hz.sm (same_new hr))
/-- the rows whose block has the point -/
def keep (p : Nat) : List V → List (List Nat) → List V
  | w :: ws, b :: bs => if p ∈ b then w :: keep p ws bs else keep p ws bs
  | _, _ => []
theorem keep_app {p : Nat} {ws' : List V} {bs' : List (List Nat)} : ∀ {ws : List V} {bs : List (List Nat)}, ws.length = bs.length → keep p (ws ++ ws') (bs ++ bs') = keep p ws bs ++ keep p ws' bs'
  | [], [], _ => rfl
  | w :: ws, b :: bs, h => by
    have ih := keep_app (p := p) (ws' := ws') (bs' := bs') (ws := ws) (bs := bs) (Nat.succ.inj h)
    simp only [List.cons_append, keep]
    by_cases hp : p ∈ b
    · simp only [hp, if_true, List.cons_append, ih]
    · simp only [hp, if_false, ih]
theorem keep_snoc {p : Nat} {ws : List V} {bs : List (List Nat)} {i : Nat} {w : V} {b : List Nat} (hl : ws.length = bs.length) (h : ws[i]? = some w) (h' : bs[i]? = some b) : keep p (ws.take (i + 1)) (bs.take (i + 1)) = keep p (ws.take i) (bs.take i) ++ if p ∈ b then [w] else [] := by
  rw [take_snoc h, take_snoc h', keep_app (by rw [List.length_take, List.length_take, hl])]
  by_cases hp : p ∈ b
  · simp [keep, hp]
  · simp [keep, hp]
theorem keep_le {p : Nat} : ∀ (ws : List V) (bs : List (List Nat)), (keep p ws bs).length ≤ bs.length
  | [], _ => by simp [keep]
  | _ :: _, [] => by simp [keep]
  | w :: ws, b :: bs => by
    have ih := keep_le (p := p) ws bs
    simp only [keep]
    by_cases hp : p ∈ b
    · simp only [hp, if_true, List.length_cons]; omega
    · simp only [hp, if_false, List.length_cons]; omega
theorem MkAt.keep {H : Hp} {m p : Nat} : ∀ {ws : List V} {bs : List (List Nat)}, MkAt H m ws bs → MkAt H m (keep p ws bs) (bs.filter fun b => decide (p ∈ b))
  | [], [], _ => trivial
  | w :: ws, b :: bs, h => by
    have ih := MkAt.keep (p := p) h.2
    simp only [E1.keep, List.filter_cons]
    by_cases hp : p ∈ b
    · simp only [hp, if_true, decide_true]
      exact ⟨h.1, ih⟩
    · simp only [hp, if_false, decide_false]
      exact ih
def spRowsWith : Sp := fun vs H Q _ => ∃ (l : Addr) (m p : Nat) (ws : List V) (bs : List (List Nat)), vs = [.ref l, .int (p : Nat)] ∧ H l = some (.lst ws) ∧ MkAt H m ws bs ∧ bs.length ≤ 200 ∧ p < m ∧ ∀ (r : Addr) (H' : Hp), H r = none → Same H H' → H' r = some (.lst (keep p ws bs)) → Q (.ref r) H'
theorem scRowsWith : FnScope ["rows", "point"] ["rows", "point"] (defScope sRowsWith) := ⟨rfl, rfl, rfl, by decide +kernel, rfl, by decide +kernel, by decide +kernel⟩
theorem ok_rowswith {f : Addr} {fd : FuncData} (F : Fun K "rows_with" "rows_with" sRowsWith f fd) (T : TxtB mg) : FnOk P w K mg base CX0 1 f fd ["rows", "point"] spRowsWith := by
  refine F.okQ scRowsWith (fun vs H Q E h => ?_) (fun cdv A outer s H vs Q E hr h => ?_)
  · obtain ⟨l, m, p, ws, bs, rfl, _⟩ := h
    rfl
  · obtain ⟨l, m, p, ws, bs, rfl, hl, hW, hn, hp, q⟩ := h
    refine ⟨_, (qss_one (qs_ret (qe_comp (g := gName 0) (N := ["row", "point"]) (src := [none, some 1]) rfl (comp_scope (defScope sRowsWith) ["rows", "point"] rfl rfl (by decide +kernel) rfl) (qi_list (qv 0)) (fun _ _ _ _ _ => (qg_name (i := 0) (show (["row", "point"] : List Str).Nodup by decide +kernel) rfl (Or.inl rfl) (Or.inr rfl))) (fun _ _ _ _ _ => (qif_one (qt_val (qe_ix (show IxR _ (rIxL K) from ix_list) (qv 0) (qv 1) (fun _ _ => rfl))))) (fun _ _ _ _ _ => (qv 0))))), ?_⟩
    refine ⟨_, rfl, l, rfl, ⟨_, SqL.of hl⟩, comp_list (K := K) (xs := ws) (fun i zs H2 => H2 = H ∧ zs = keep p (ws.take i) (bs.take i)) ⟨rfl, rfl⟩ (fun i zs H2 _ ⟨e, _⟩ => SqL.of (e ▸ hl)) ?_ ?_⟩
    · rintro i v zs H2 N hi ⟨rfl, rfl⟩ nx
      obtain ⟨a, b, rfl, hbs, hab⟩ := hW.get hi
      have hil := (List.getElem?_eq_some_iff.mp hbs).1
      refine ⟨Weak.set (by intro v z; cases z), ⟨_, rfl, _, rfl, a, _, _, _, rfl, rfl, SqL.of hab, atI_nat (mks_get b hp), _, rfl, ?_⟩⟩
      have e := keep_snoc (p := p) hW.len hi hbs
      by_cases hh : p ∈ b
      · rw [if_pos hh] at e
        refine ifT hh ⟨_, rfl, ?_, nx _ _ ⟨rfl, e.symm⟩⟩
        have := keep_le (p := p) (ws.take i) (bs.take i)
        rw [List.length_take] at this
        exact Nat.lt_of_le_of_lt (show _ ≤ 200 by omega) (by decide)
      · rw [if_neg hh, List.append_nil] at e
        exact ifF hh (nx _ _ ⟨rfl, e.symm⟩)
    · rintro zs H2 ⟨rfl, rfl⟩
      rw [List.take_length, hW.len, List.take_length]
      have := keep_le (p := p) ws bs
      exact ⟨Nat.le_trans (show _ ≤ 200 by omega) (by decide), fun r hr' => q r _ hr' (same_new hr') upd_same⟩
inductive Ans where
  | none
  | same (c : Nat)
  | unlike (p : List Nat) (c : Nat) (q : List Nat) (d : Nat)
def AnsAt (H : Hp) (v : V) : Ans → Prop
  | .none => ∃ t, v = .ref t ∧ H t = some (.tup [.str "none"])
  | .same c => ∃ t, v = .ref t ∧ H t = some (.tup [.str "same", .int ((c : Nat) : Int)])
  | .unlike p c q d => ∃ t a b, v = .ref t ∧ H t = some (.tup [.str "unlike", .ref a, .int ((c : Nat) : Int), .ref b, .int ((d : Nat) : Int)]) ∧ H a = some (.tup (nats p)) ∧ H b = some (.tup (nats q)) ∧ p.length ≤ 60 ∧ q.length ≤ 60
theorem AnsAt.sm {H H' : Hp} (s : Same H H') {v : V} : ∀ {A : Ans}, AnsAt H v A → AnsAt H' v A
  | .none, ⟨t, e, h⟩ => ⟨t, e, s _ _ h⟩
  | .same _, ⟨t, e, h⟩ => ⟨t, e, s _ _ h⟩
  | .unlike .., ⟨t, a, b, e, h, ha, hb, l⟩ => ⟨t, a, b, e, s _ _ h, s _ _ ha, s _ _ hb, l⟩
/-- what is told of cases with their counts -/
def told (Z : List (List Nat × Nat)) : Ans :=
  match Z with
  | [] => .none
  | x :: _ => match Z.find? fun y => decide (y.2 ≠ x.2) with
    | none => .same x.2
    | some y => .unlike x.1 x.2 y.1 y.2
theorem told_same {Z : List (List Nat × Nat)} {x : List Nat × Nat} (h0 : Z[0]? = some x) (h : Z.find? (fun y => decide (y.2 ≠ x.2)) = none) : told Z = .same x.2 := by
  cases Z with
  | nil => cases h0
  | cons y Z =>
    cases h0
    unfold told
    dsimp only
    rw [h]
theorem told_unlike {Z : List (List Nat × Nat)} {x y : List Nat × Nat} {i : Nat} (h0 : Z[0]? = some x) (h : (Z.take i).find? (fun y => decide (y.2 ≠ x.2)) = none) (hy : Z[i]? = some y) (hne : y.2 ≠ x.2) : told Z = .unlike x.1 x.2 y.1 y.2 := by
  have e : Z.find? (fun y => decide (y.2 ≠ x.2)) = some y := by
    have hl := (List.getElem?_eq_some_iff.mp hy)
    obtain ⟨hi, ey⟩ := hl
    rw [← List.take_append_drop i Z, List.find?_append, h, Option.none_or, List.drop_eq_getElem_cons hi, ey]
    exact List.find?_cons_of_pos (decide_eq_true hne)
  cases Z with
  | nil => cases h0
  | cons z Z =>
    cases h0
    unfold told
    dsimp only
    rw [e]
theorem find_snoc {Z : List (List Nat × Nat)} {x y : List Nat × Nat} {i : Nat} (h : (Z.take i).find? (fun y => decide (y.2 ≠ x.2)) = none) (hy : Z[i]? = some y) (he : ¬ y.2 ≠ x.2) : (Z.take (i + 1)).find? (fun y => decide (y.2 ≠ x.2)) = none := by
  rw [take_snoc hy, List.find?_append, h, Option.none_or]
  exact List.find?_cons_of_neg (fun z => he (of_decide_eq_true z))
def spTold : Sp := fun vs H Q _ => ∃ (l k : Addr) (ws : List V) (Z : List (List Nat × Nat)), vs = [.ref l, .ref k] ∧ H l = some (.lst ws) ∧ TpAt H ws (Z.map (·.1)) ∧ H k = some (.lst (nats (Z.map (·.2)))) ∧ (∀ z ∈ Z, z.1.length ≤ 60) ∧ ∀ v H', Same H H' → AnsAt H' v (told Z) → Q v H'
theorem scToldOf : FnScope ["cases", "counts", "case", "count"] ["cases", "counts"] (defScope sToldOf) := ⟨rfl, rfl, rfl, by decide +kernel, rfl, by decide +kernel, by decide +kernel⟩
theorem niT {i j : Int} {A B : Prop} (h : i ≠ j) (k : A) : if (!decide (V.int i = V.int j)) = true then A else B := by
  rw [if_pos (by simp [h])]
  exact k
theorem niF {i j : Int} {A B : Prop} (h : i = j) (k : B) : if (!decide (V.int i = V.int j)) = true then A else B := by
  rw [if_neg (by simp [h])]
  exact k
theorem ok_told {f : Addr} {fd : FuncData} (F : Fun K "told_of" "told_of" sToldOf f fd) (T : TxtB mg) : FnOk P w K mg base CX0 1 f fd ["cases", "counts"] spTold := by
  refine F.okQ scToldOf (fun vs H Q E h => ?_) (fun cdv A outer s H vs Q E hr h => ?_)
  · obtain ⟨l, k, ws, Z, rfl, _⟩ := h
    rfl
  · obtain ⟨l, k, ws, Z, rfl, hl, hT, hk, hZ, q⟩ := h
    refine ⟨_, (qss_cons (qs_if (qt_cmpR op_eq (qe_callB call_len_seq (by rfl) T.len PySem.boot_len (qac (qv 0) qa_nil)) qe_int (nomark _)) (qss_one (qs_ret (qe_tup (qac qe_str qa_nil)))) qss_nil)
      (qss_cons (qs_for PassesOwn.never rfl (qi_zipL rfl T.zip (qac (qv 0) (qac (qv 1) qa_nil))) (qg_tup rfl (qgs_cons (qg_name (i := 2) scToldOf.nd rfl (Or.inl rfl)) (qgs_cons (qg_name (i := 3) scToldOf.nd rfl (Or.inl rfl)) qgs_nil)))
        (qss_one (qs_if (qt_cmpR op_ne (qv 3) (qe_ix ix_list (qv 1) qe_int (fun _ _ => rfl)) (nomark _)) (qss_one (qs_ret (qe_tup (qac qe_str (qac (qe_ix ix_list (qv 0) qe_int (fun _ _ => rfl)) (qac (qe_ix ix_list (qv 1) qe_int (fun _ _ => rfl)) (qac (qv 2) (qac (qv 3) qa_nil)))))))) qss_nil)))
      (qss_one (qs_ret (qe_tup (qac qe_str (qac (qe_ix ix_list (qv 1) qe_int (fun _ _ => rfl)) qa_nil))))))), ?_⟩
    have hwl : ws.length = Z.length := by rw [hT.len, List.length_map]
    refine ⟨_, rfl, l, ws, rfl, .inl (SqL.of hl), rfl, _, rfl, ?_⟩
    by_cases hZ0 : Z = []
    · subst hZ0
      have hw : ws = [] := List.eq_nil_of_length_eq_zero hwl
      subst hw
      exact iteT ⟨by show 1 ≤ sizeLine; decide, fun t ht => q _ _ (same_new ht) ⟨t, rfl, upd_same⟩⟩
    · have hpos : 0 < Z.length := List.length_pos_iff.mpr hZ0
      obtain ⟨x, h0⟩ : ∃ x, Z[0]? = some x := ⟨Z[0], List.getElem?_eq_getElem hpos⟩
      have hne : ¬ decide (V.int ((ws.length : Nat) : Int) = V.int 0) = true := by
        rw [hwl]
        simp
        omega
      refine ite2 (fun z => absurd z hne) (fun _ => ?_)
      have hk0 : atI (nats (Z.map (·.2))) 0 = some (.int ((x.2 : Nat) : Int)) := by
        refine atI_nat (j := 0) ?_
        unfold nats
        rw [List.getElem?_map, List.getElem?_map, h0]
        rfl
      refine ⟨_, rfl, _, rfl, l, k, rfl, ⟨_, SqL.of hl⟩, ⟨_, SqL.of hk⟩, for_zipL (K := K) (xs := ws) (ys := nats (Z.map (·.2))) (by rw [hwl, nats_len, List.length_map]) (fun i σ H2 => Same H H2 ∧ (∃ x2 x3, σ = [some (.ref l), some (.ref k), x2, x3]) ∧ (Z.take i).find? (fun y => decide (y.2 ≠ x.2)) = none) ⟨Same.refl _, ⟨none, none, rfl⟩, rfl⟩ (fun i σ H2 _ ⟨e, _⟩ => ⟨SqL.of (e _ _ hl), SqL.of (e _ _ hk)⟩) ?_ ?_⟩
      · rintro i v u t σ H2 hi hi' ⟨s2, ⟨x2, x3, rfl⟩, hf⟩ ht
        obtain ⟨a, b, rfl, hbs, hab⟩ := (hT.sm s2).get hi
        obtain ⟨c, hc, rfl⟩ := L2.nats_get hi'
        rw [List.getElem?_map] at hbs hc
        obtain ⟨y, hy, rfl⟩ := Option.map_eq_some_iff.mp hbs
        rw [hy] at hc
        cases hc
        have w1 := same_new (o := .tup [V.ref a, V.int ((y.2 : Nat) : Int)]) ht
        have s3 := s2.trans w1
        refine ⟨t, _, rfl, SqT.of upd_same, rfl, _, _, rfl, _, _, rfl, rfl, ?_⟩
        refine ⟨_, rfl, _, rfl, k, _, 0, _, rfl, rfl, SqL.of (s3 _ _ hk), hk0, rfl, _, rfl, ?_⟩
        by_cases hne2 : y.2 ≠ x.2
        · refine niT (show ((y.2 : Nat) : Int) ≠ ((x.2 : Nat) : Int) by omega) ?_
          obtain ⟨a0, b0, e0, hb0, ha0⟩ := TpAt.get (i := 0) (v := ws[0]'(by omega)) (hT.sm s3) (by rw [List.getElem?_eq_getElem])
          rw [List.getElem?_map, h0] at hb0
          cases hb0
          refine ⟨_, rfl, l, ws, 0, .ref a0, rfl, rfl, SqL.of (s3 _ _ hl), atI_nat (j := 0) (by rw [List.getElem?_eq_getElem (by omega), e0]), _, rfl, k, _, 0, _, rfl, rfl, SqL.of (s3 _ _ hk), hk0, _, rfl, _, rfl, by show 5 ≤ sizeLine; decide, fun r hr' => ?_⟩
          refine q _ _ (s3.trans (same_new hr')) ?_
          rw [told_unlike h0 hf hy hne2]
          exact ⟨r, a0, a, rfl, upd_same, same_new hr' _ _ ha0, same_new hr' _ _ (w1 _ _ hab), hZ x (List.mem_of_getElem? h0), hZ y (List.mem_of_getElem? hy)⟩
        · refine niF (show ((y.2 : Nat) : Int) = ((x.2 : Nat) : Int) by omega) ?_
          exact ⟨s3, ⟨_, _, rfl⟩, find_snoc hf hy hne2⟩
      · rintro σ H2 ⟨s2, ⟨x2, x3, rfl⟩, hf⟩
        rw [hwl, List.take_length] at hf
        refine ⟨_, rfl, k, _, 0, _, rfl, rfl, SqL.of (s2 _ _ hk), hk0, by show 2 ≤ sizeLine; decide, fun r hr' => ?_⟩
        refine q _ _ (s2.trans (same_new hr')) ?_
        rw [told_same h0 hf]
        exact ⟨r, rfl, upd_same⟩
theorem kit_int_tup (K : PySem.W.Frag) : PySem.W.kitOne K (.type "int") (.type "tuple") = some false := by kernel_rfl
theorem kit_str_tup (K : PySem.W.Frag) : PySem.W.kitOne K (.type "str") (.type "tuple") = some false := by kernel_rfl
theorem kit_int_str (K : PySem.W.Frag) : PySem.W.kitOne K (.type "int") (.type "str") = some false := by kernel_rfl
theorem kit_str_str (K : PySem.W.Frag) : PySem.W.kitOne K (.type "str") (.type "str") = some true := by kernel_rfl
def EqvA (v w : V) : Prop := (∃ i : Int, v = .int i ∧ w = .int i) ∨ ∃ x : Str, v = .str x ∧ w = .str x
def EqvT (R : V → V → Prop) (H : Hp) (v w : V) : Prop := EqvA v w ∨ ∃ (a b : Addr) (xs ys : List V), v = .ref a ∧ w = .ref b ∧ H a = some (.tup xs) ∧ H b = some (.tup ys) ∧ xs.length = ys.length ∧ ys.length ≤ 60 ∧ ∀ (i : Nat) (x y : V), xs[i]? = some x → ys[i]? = some y → R x y
/-- the same data, so deep -/
def Eqv : Nat → Hp → V → V → Prop
  | 0, H, v, w => EqvT (fun _ _ => False) H v w
  | n + 1, H, v, w => EqvT (Eqv n H) H v w
theorem EqvT.sm {R R' : V → V → Prop} {H H' : Hp} (s : Same H H') (r : ∀ x y, R x y → R' x y) {v w : V} (h : EqvT R H v w) : EqvT R' H' v w := by
  rcases h with h | ⟨a, b, xs, ys, e1, e2, h1, h2, h3, h4, h5⟩
  · exact .inl h
  · exact .inr ⟨a, b, xs, ys, e1, e2, s _ _ h1, s _ _ h2, h3, h4, fun i x y hx hy => r _ _ (h5 i x y hx hy)⟩
theorem Eqv.sm {H H' : Hp} (s : Same H H') : ∀ {n : Nat} {v w : V}, Eqv n H v w → Eqv n H' v w
  | 0, _, _, h => EqvT.sm s (fun _ _ z => z) h
  | _ + 1, _, _, h => EqvT.sm s (fun _ _ z => Eqv.sm s z) h
def spIsT (R : Hp → V → V → Prop) : Sp := fun vs H Q _ => ∃ v w, vs = [v, w] ∧ EqvT (R H) H v w ∧ ∀ H', Same H H' → Q (.bl true) H'
def spIsR (n : Nat) : Sp := fun vs H Q _ => ∃ v w, vs = [v, w] ∧ Eqv n H v w ∧ ∀ H', Same H H' → Q (.bl true) H'
theorem scLIs : FnScope ["_law_found", "_law_due_here"] ["_law_found", "_law_due_here"] (defScope sLIs) := ⟨rfl, rfl, rfl, by decide +kernel, rfl, by decide +kernel, by decide +kernel⟩
theorem isr_step {f : Addr} {fd : FuncData} {k : Nat} {sp' : Sp} {R : Hp → V → V → Prop} (Rs : ∀ H H' x y, Same H H' → R H x y → R H' x y) (hR : ∀ H x y Q E, R H x y → (∀ H', Same H H' → Q (.bl true) H') → sp' [x, y] H Q E)
    (F : Fun K "_law_is" "_law_is" sLIs f fd) (T : TxtB mg) (pLIs : Pm P w K mg base CX0 k "_law_is" ["_law_found", "_law_due_here"] sp') : FnOk P w K mg base CX0 (k + 1) f fd ["_law_found", "_law_due_here"] (spIsT R) := by
  refine F.okQ scLIs (fun vs H Q E h => ?_) (fun cdv A outer s H vs Q E hr1 h => ?_)
  · obtain ⟨v, w, rfl, _⟩ := h
    rfl
  · obtain ⟨v, w, rfl, hE, q⟩ := h
    refine ⟨_, (qss_cons (qs_if (qt_val (qe_callB call_isinst (by rfl) T.isi PyProof.Rows.boot_isinstance (qac (qv 1) (qac (qe_bltn (v := .ty "tuple") rfl T.tup (by decide +kernel) rfl) qa_nil)))) (qss_cons (qs_if (QW.pt (qw_or (qt_not (qt_val (qe_callB call_isinst (by rfl) T.isi PyProof.Rows.boot_isinstance (qac (qv 0) (qac (qe_bltn (v := .ty "tuple") rfl T.tup (by decide +kernel) rfl) qa_nil))))) (qw_or1 (qt_cmpR op_ne (qe_callB call_len_seq (by rfl) T.len PySem.boot_len (qac (qv 0) qa_nil)) (qe_callB call_len_seq (by rfl) T.len PySem.boot_len (qac (qv 1) qa_nil)) (nomark _))))) (qss_one (qs_ret qe_bl)) qss_nil)
        (qss_one (qs_ret (qe_callB (call_all rfl) (by rfl) T.all (by decide +kernel) (qac (qe_comp (g := gName 0) (N := ["_law_k", "_law_found", "_law_due_here"]) (src := [none, some 0, some 1]) rfl (comp_scope (defScope sLIs) ["_law_found", "_law_due_here"] rfl rfl (by decide +kernel) rfl) (qi_range1 rfl T.range (qac (qe_callB call_len_seq (by rfl) T.len PySem.boot_len (qac (qv 1) qa_nil)) qa_nil)) (fun _ _ _ _ _ => (qg_name (i := 0) (show (["_law_k", "_law_found", "_law_due_here"] : List Str).Nodup by decide +kernel) rfl (Or.inl rfl) (Or.inr rfl))) (fun _ _ _ _ _ => qif_nil) (fun _ _ _ _ _ => (qe_callP pLIs hr1 rfl pass0 (qac (qe_ix (show IxR _ (rIxT K) from ix_tup) (qv 1) (qv 0) (fun _ _ => rfl)) (qac (qe_ix (show IxR _ (rIxT K) from ix_tup) (qv 2) (qv 0) (fun _ _ => rfl)) qa_nil))))) qa_nil))))) qss_nil)
      (qss_cons (qs_if (qt_val (qe_callB call_isinst (by rfl) T.isi PyProof.Rows.boot_isinstance (qac (qv 1) (qac (qe_bltn (v := .ty "str") rfl T.str (by decide +kernel) rfl) qa_nil)))) (qss_one (qs_ret (qe_and (qe_callB call_isinst (by rfl) T.isi PyProof.Rows.boot_isinstance (qac (qv 0) (qac (qe_bltn (v := .ty "str") rfl T.str (by decide +kernel) rfl) qa_nil))) (qe_one (qe_cmpR op_eq (qv 0) (qv 1) (nomark _)))))) qss_nil)
      (qss_one (qs_ret (qe_and (qe_callB call_isinst (by rfl) T.isi PyProof.Rows.boot_isinstance (qac (qv 0) (qac (qe_bltn (v := .ty "int") rfl T.int (by decide +kernel) rfl) qa_nil))) (qe_and (qe_not (qe_callB call_isinst (by rfl) T.isi PyProof.Rows.boot_isinstance (qac (qv 0) (qac (qe_bltn (v := .ty "bool") rfl T.bool (by decide +kernel) rfl) qa_nil)))) (qe_one (qe_cmpR op_eq (qv 0) (qv 1) (nomark _))))))))), ?_⟩
    rcases hE with (⟨i, rfl, rfl⟩ | ⟨x, rfl, rfl⟩) | ⟨a, b, xs, ys, rfl, rfl, ha, hb, hl, h60, hxy⟩
    · refine ⟨_, rfl, _, _, _, _, rfl, .int i, rel_ty (kit_int_tup K), false, rfl, iteF ?_⟩
      refine ⟨_, rfl, _, _, _, _, rfl, .int i, rel_ty (kit_int_str K), false, rfl, iteF ?_⟩
      refine ⟨_, rfl, _, _, _, _, rfl, .int i, rel_ty (kit_int_int K), true, rfl, iteT ?_⟩
      refine ⟨_, rfl, _, _, _, _, rfl, .int i, rel_ty (kit_int_bool K), false, rfl, true, rfl, iteT ⟨_, rfl, _, rfl, rfl, ?_⟩⟩
      rw [decide_eq_true rfl]
      exact q _ (Same.refl _)
    · refine ⟨_, rfl, _, _, _, _, rfl, .str x, rel_ty (kit_str_tup K), false, rfl, iteF ?_⟩
      refine ⟨_, rfl, _, _, _, _, rfl, .str x, rel_ty (kit_str_str K), true, rfl, iteT ?_⟩
      refine ⟨_, rfl, _, _, _, _, rfl, .str x, rel_ty (kit_str_str K), true, rfl, iteT ⟨_, rfl, _, rfl, rfl, ?_⟩⟩
      rw [decide_eq_true rfl]
      exact q _ (Same.refl _)
    · refine ⟨_, rfl, _, _, _, _, rfl, .tup hb, rel_ty (kit_tup_tup K), true, rfl, iteT ?_⟩
      refine ⟨_, rfl, _, _, _, _, rfl, .tup ha, rel_ty (kit_tup_tup K), true, rfl, iteF ?_⟩
      refine ⟨_, rfl, a, xs, rfl, .inr (SqT.of ha), _, rfl, b, ys, rfl, .inr (SqT.of hb), rfl, _, rfl, ?_⟩
      refine niF (show ((xs.length : Nat) : Int) = ((ys.length : Nat) : Int) by rw [hl]) ?_
      refine ⟨_, rfl, b, ys, rfl, .inr (SqT.of hb), ((ys.length : Nat) : Int), rfl, by omega, by omega, comp_rng (lo := 0) (n := ys.length) (fun i zs H2 => Same H H2 ∧ zs = (List.replicate i true).map V.bl) ⟨Same.refl _, rfl⟩ ?_ ?_⟩
      · rintro i zs H2 N hi ⟨s2, rfl⟩ nx
        have gx : xs[i]? = some (xs[i]'(by omega)) := List.getElem?_eq_getElem _
        have gy : ys[i]? = some ys[i] := List.getElem?_eq_getElem _
        refine ⟨Weak.set (by intro v z; cases z), ⟨_, rfl, _, rfl, a, xs, _, _, rfl, rfl, SqT.of (s2 _ _ ha), by rw [Int.zero_add]; exact atI_nat gx, _, rfl, _, rfl, b, ys, _, _, rfl, rfl, SqT.of (s2 _ _ hb), by rw [Int.zero_add]; exact atI_nat gy, ?_⟩⟩
        refine hR _ _ _ _ _ (Rs _ _ _ _ s2 (hxy i _ _ gx gy)) (fun H3 s3 => ⟨?_, nx _ _ ⟨s2.trans s3, ?_⟩⟩)
        · rw [List.length_map, List.length_replicate]
          exact Nat.lt_of_lt_of_le hi (Nat.le_trans h60 (by decide))
        · rw [List.replicate_succ', List.map_append]
          rfl
      · rintro zs H2 ⟨s2, rfl⟩
        refine ⟨by rw [List.length_map, List.length_replicate]; exact Nat.le_trans h60 (by decide), fun r hr => ⟨r, _, rfl, SqL.of upd_same, ?_⟩⟩
        rw [show (List.replicate ys.length true).all id = true by simp]
        exact q _ (s2.trans (same_new hr))
theorem ok_isr {f : Addr} {fd : FuncData} (F : Fun K "_law_is" "_law_is" sLIs f fd) (T : TxtB mg) (hm : mg "_law_is" = some (.ref f)) (hb : Binds K fd ["_law_found", "_law_due_here"] []) : ∀ n, FnOk P w K mg base CX0 (n + 1) f fd ["_law_found", "_law_due_here"] (spIsR n)
  | 0 => (isr_step (sp' := fun _ _ _ _ => False) (R := fun _ _ _ => False) (fun _ _ _ _ _ h => h) (fun _ _ _ _ _ h _ => h) F T ⟨f, fd, hm, F.kp, hb, FnOk.never⟩).imp fun vs H Q E ⟨v, w, e, h, q⟩ => ⟨v, w, e, h, q⟩
  | n + 1 => (isr_step (sp' := spIsR n) (R := fun H x y => Eqv n H x y) (fun _ _ _ _ s h => h.sm s) (fun H x y Q E h q => ⟨x, y, rfl, h, q⟩) F T ⟨f, fd, hm, F.kp, hb, ok_isr F T hm hb n⟩).imp fun vs H Q E ⟨v, w, e, h, q⟩ => ⟨v, w, e, h, q⟩
/-- two tellings of the same are the same data -/
theorem eqv_nats {H : Hp} {u u' : Addr} {z : List Nat} (h : H u = some (.tup (nats z))) (h' : H u' = some (.tup (nats z))) (l : z.length ≤ 60) : Eqv 1 H (.ref u) (.ref u') :=
  .inr ⟨u, u', _, _, rfl, rfl, h, h', rfl, by rw [nats_len]; exact l, fun i x y hx hy => by
    rw [hx] at hy
    cases hy
    obtain ⟨p, _, rfl⟩ := L2.nats_get hx
    exact .inl (.inl ⟨_, rfl, rfl⟩)⟩
theorem AnsAt.eqv {H : Hp} {v w : V} : ∀ {A : Ans}, AnsAt H v A → AnsAt H w A → Eqv 2 H v w
  | .none, ⟨t, e, h⟩, ⟨t', e', h'⟩ => .inr ⟨t, t', _, _, e, e', h, h', rfl, by show 1 ≤ 60; decide, fun i x y hx hy => by
      match i, hx, hy with
      | 0, hx, hy => cases hx; cases hy; exact .inl (.inr ⟨_, rfl, rfl⟩)⟩
  | .same c, ⟨t, e, h⟩, ⟨t', e', h'⟩ => .inr ⟨t, t', _, _, e, e', h, h', rfl, by show 2 ≤ 60; decide, fun i x y hx hy => by
      match i, hx, hy with
      | 0, hx, hy => cases hx; cases hy; exact .inl (.inr ⟨_, rfl, rfl⟩)
      | 1, hx, hy => cases hx; cases hy; exact .inl (.inl ⟨_, rfl, rfl⟩)⟩
  | .unlike p c q d, ⟨t, a, b, e, h, ha, hb, l1, l2⟩, ⟨t', a', b', e', h', ha', hb', _, _⟩ => .inr ⟨t, t', _, _, e, e', h, h', rfl, by show 5 ≤ 60; decide, fun i x y hx hy => by
      match i, hx, hy with
      | 0, hx, hy => cases hx; cases hy; exact .inl (.inr ⟨_, rfl, rfl⟩)
      | 1, hx, hy => cases hx; cases hy; exact eqv_nats ha ha' l1
      | 2, hx, hy => cases hx; cases hy; exact .inl (.inl ⟨_, rfl, rfl⟩)
      | 3, hx, hy => cases hx; cases hy; exact eqv_nats hb hb' l2
      | 4, hx, hy => cases hx; cases hy; exact .inl (.inl ⟨_, rfl, rfl⟩)⟩
/-- cases and their counts, gathered in two lists -/
structure Acc (g : List Nat → Nat) (H1 : Hp) (c k : Addr) (L : List (List Nat)) (H : Hp) : Prop where
  sm : Same H1 H
  cs : ∃ cs, H c = some (.lst cs) ∧ TpAt H cs L
  ks : H k = some (.lst (nats (L.map g)))
theorem Acc.up {g : List Nat → Nat} {H1 H H' : Hp} {c k : Addr} {L : List (List Nat)} (A : Acc g H1 c k L H) (s : Same H H') : Acc g H1 c k L H' := by
  obtain ⟨cs, h1, h2⟩ := A.cs
  exact ⟨A.sm.trans s, ⟨cs, s _ _ h1, h2.sm s⟩, s _ _ A.ks⟩
/-- a case put in, its count not yet -/
structure Half (g : List Nat → Nat) (H1 : Hp) (c k : Addr) (L : List (List Nat)) (p : List Nat) (H : Hp) : Prop where
  sm : Same H1 H
  cs : ∃ cs, H c = some (.lst cs) ∧ TpAt H cs (L ++ [p])
  ks : H k = some (.lst (nats (L.map g)))
theorem Half.up {g : List Nat → Nat} {H1 H H' : Hp} {c k : Addr} {L : List (List Nat)} {p : List Nat} (A : Half g H1 c k L p H) (s : Same H H') : Half g H1 c k L p H' := by
  obtain ⟨cs, h1, h2⟩ := A.cs
  exact ⟨A.sm.trans s, ⟨cs, s _ _ h1, h2.sm s⟩, s _ _ A.ks⟩
theorem tp_upd {H : Hp} {c : Addr} {xs ys ws : List V} {bs : List (List Nat)} (hc : H c = some (.lst xs)) (h : TpAt H ws bs) : TpAt (upd H c (.lst ys)) ws bs := h.same fun u zs hu => by
  rw [upd_ne (fun z => by rw [z, hc] at hu; cases hu)]
  exact hu
theorem Acc.half {g : List Nat → Nat} {H1 H : Hp} {c k t : Addr} {L : List (List Nat)} {p : List Nat} {cs : List V} (hc1 : H1 c = none) (hck : k ≠ c) (hc : H c = some (.lst cs)) (hT : TpAt H cs L) (hs : Same H1 H) (hk : H k = some (.lst (nats (L.map g)))) (ht : H t = some (.tup (nats p))) : Half g H1 c k L p (upd H c (.lst (cs ++ [.ref t]))) := by
  refine ⟨same_upd hs hc1, ⟨_, upd_same, tp_upd hc (hT.snoc ht)⟩, ?_⟩
  rw [upd_ne hck]
  exact hk
theorem Half.full {g : List Nat → Nat} {H1 H : Hp} {c k : Addr} {L : List (List Nat)} {p : List Nat} (A : Half g H1 c k L p H) (hk1 : H1 k = none) (hck : k ≠ c) : Acc g H1 c k (L ++ [p]) (upd H k (.lst (nats (L.map g) ++ [.int ((g p : Nat) : Int)]))) := by
  obtain ⟨cs, h1, h2⟩ := A.cs
  refine ⟨same_upd A.sm hk1, ⟨cs, ?_, tp_upd A.ks h2⟩, ?_⟩
  · rw [upd_ne (Ne.symm hck)]
    exact h1
  · rw [upd_same, List.map_append, List.map_cons, List.map_nil, nats_snoc]
/-- with their counts -/
def zof (g : List Nat → Nat) (L : List (List Nat)) : List (List Nat × Nat) := L.map fun p => (p, g p)
theorem zof_fst (g : List Nat → Nat) (L : List (List Nat)) : (zof g L).map (·.1) = L := by
  unfold zof
  rw [List.map_map]
  exact List.map_id'' (fun _ => rfl) _
theorem zof_snd (g : List Nat → Nat) (L : List (List Nat)) : (zof g L).map (·.2) = L.map g := by
  unfold zof
  rw [List.map_map]
  rfl
/-- the triples in order: those whose first is below i; of one first a, whose second is below a + 1 + j; of a and b, whose third is below b + 1 + j -/
def triC (a b j : Nat) : List (List Nat) := (List.range j).map fun c => [a, b, b + 1 + c]
def triB (m a j : Nat) : List (List Nat) := (List.range j).flatMap fun b => triC a (a + 1 + b) (m - (a + 1 + b + 1))
def tri (m i : Nat) : List (List Nat) := (List.range i).flatMap fun a => triB m a (m - (a + 1))
theorem triC_snoc (a b j : Nat) : triC a b (j + 1) = triC a b j ++ [[a, b, b + 1 + j]] := by
  unfold triC
  rw [List.range_succ, List.map_append]
  rfl
theorem triB_snoc (m a j : Nat) : triB m a (j + 1) = triB m a j ++ triC a (a + 1 + j) (m - (a + 1 + j + 1)) := by
  unfold triB
  rw [List.range_succ, List.flatMap_append, List.flatMap_cons, List.flatMap_nil, List.append_nil]
theorem tri_snoc (m i : Nat) : tri m (i + 1) = tri m i ++ triB m i (m - (i + 1)) := by
  unfold tri
  rw [List.range_succ, List.flatMap_append, List.flatMap_cons, List.flatMap_nil, List.append_nil]
theorem triC_len (a b j : Nat) : (triC a b j).length = j := by
  unfold triC
  rw [List.length_map, List.length_range]
theorem triB_len {m a : Nat} (hm : m ≤ 21) : ∀ j, (triB m a j).length ≤ 21 * j
  | 0 => by simp [triB]
  | j + 1 => by
    have := triB_len (a := a) hm j
    rw [triB_snoc, List.length_append, triC_len]
    omega
theorem tri_len {m : Nat} (hm : m ≤ 21) : ∀ i, (tri m i).length ≤ 441 * i
  | 0 => by simp [tri]
  | i + 1 => by
    have := tri_len hm i
    have h2 := triB_len (a := i) hm (m - (i + 1))
    rw [tri_snoc, List.length_append]
    omega
theorem mem_tri {m : Nat} {p : List Nat} : p ∈ tri m m ↔ ∃ a b c, p = [a, b, c] ∧ a < b ∧ b < c ∧ c < m := by
  unfold tri triB triC
  simp only [List.mem_flatMap, List.mem_range, List.mem_map]
  constructor
  · rintro ⟨a, ha, b, hb, c, hc, rfl⟩
    exact ⟨a, a + 1 + b, a + 1 + b + 1 + c, rfl, by omega, by omega, by omega⟩
  · rintro ⟨a, b, c, rfl, h1, h2, h3⟩
    exact ⟨a, by omega, b - (a + 1), by omega, c - (b + 1), by omega, by rw [show a + 1 + (b - (a + 1)) = b by omega, show b + 1 + (c - (b + 1)) = c by omega]⟩
/-- the same triples as the law goes through them -/
def trlA (b c j : Nat) : List (List Nat) := (List.range j).map fun a => [a, b, c]
def trlB (c j : Nat) : List (List Nat) := (List.range j).flatMap fun b => trlA b c b
def trl (i : Nat) : List (List Nat) := (List.range i).flatMap fun c => trlB c c
theorem trlA_snoc (b c j : Nat) : trlA b c (j + 1) = trlA b c j ++ [[j, b, c]] := by
  unfold trlA
  rw [List.range_succ, List.map_append]
  rfl
theorem trlB_snoc (c j : Nat) : trlB c (j + 1) = trlB c j ++ trlA j c j := by
  unfold trlB
  rw [List.range_succ, List.flatMap_append, List.flatMap_cons, List.flatMap_nil, List.append_nil]
theorem trl_snoc (i : Nat) : trl (i + 1) = trl i ++ trlB i i := by
  unfold trl
  rw [List.range_succ, List.flatMap_append, List.flatMap_cons, List.flatMap_nil, List.append_nil]
theorem trlA_len (b c j : Nat) : (trlA b c j).length = j := by
  unfold trlA
  rw [List.length_map, List.length_range]
theorem trlB_len {c : Nat} : ∀ j, j ≤ 21 → (trlB c j).length ≤ 21 * j
  | 0, _ => by simp [trlB]
  | j + 1, hj => by
    have := trlB_len (c := c) j (by omega)
    rw [trlB_snoc, List.length_append, trlA_len]
    omega
theorem trl_len' : ∀ i, i ≤ 21 → (trl i).length ≤ 441 * i
  | 0, _ => by simp [trl]
  | i + 1, hi => by
    have := trl_len' i (by omega)
    have h2 := trlB_len (c := i) i (by omega)
    rw [trl_snoc, List.length_append]
    omega
theorem mem_trl {m : Nat} {p : List Nat} : p ∈ trl m ↔ ∃ a b c, p = [a, b, c] ∧ a < b ∧ b < c ∧ c < m := by
  unfold trl trlB trlA
  simp only [List.mem_flatMap, List.mem_range, List.mem_map]
  constructor
  · rintro ⟨c, hc, b, hb, a, ha, rfl⟩
    exact ⟨a, b, c, rfl, ha, hb, hc⟩
  · rintro ⟨a, b, c, rfl, h1, h2, h3⟩
    exact ⟨c, h3, b, h2, a, h1, rfl⟩
theorem pw_range {n : Nat} : (List.range n).Pairwise (· < ·) := List.pairwise_lt_range
def LexLt (a b : List Nat) : Prop := lexB (a.map fun p => ((p : Nat) : Int)) (b.map fun p => ((p : Nat) : Int)) = true
theorem lex3 {a b c a' b' c' : Nat} (h : a < a' ∨ (a = a' ∧ (b < b' ∨ (b = b' ∧ c < c')))) : LexLt [a, b, c] [a', b', c'] := by
  unfold LexLt
  simp only [List.map_cons, List.map_nil, lexB]
  rcases h with h | ⟨rfl, h | ⟨rfl, h⟩⟩
  · rw [if_neg (by omega)]
    exact decide_eq_true (by omega)
  · rw [if_pos rfl, if_neg (by omega)]
    exact decide_eq_true (by omega)
  · rw [if_pos rfl, if_pos rfl, if_neg (by omega)]
    exact decide_eq_true (by omega)
theorem tri_up (m : Nat) : (tri m m).Pairwise LexLt := by
  unfold tri triB triC
  rw [List.pairwise_flatMap]
  refine ⟨fun a _ => ?_, pw_range.imp fun {a a'} h x hx y hy => ?_⟩
  · rw [List.pairwise_flatMap]
    refine ⟨fun b _ => ?_, pw_range.imp fun {b b'} h x hx y hy => ?_⟩
    · rw [List.pairwise_map]
      exact pw_range.imp fun {c c'} h => lex3 (.inr ⟨rfl, .inr ⟨rfl, by omega⟩⟩)
    · obtain ⟨c, _, rfl⟩ := List.mem_map.mp hx
      obtain ⟨c', _, rfl⟩ := List.mem_map.mp hy
      exact lex3 (.inr ⟨rfl, .inl (by omega)⟩)
  · obtain ⟨b, _, hx⟩ := List.mem_flatMap.mp hx
    obtain ⟨b', _, hy⟩ := List.mem_flatMap.mp hy
    obtain ⟨c, _, rfl⟩ := List.mem_map.mp hx
    obtain ⟨c', _, rfl⟩ := List.mem_map.mp hy
    exact lex3 (.inl h)
theorem LexLt.ne {a b : List Nat} (h : LexLt a b) : a ≠ b := fun z => by
  unfold LexLt at h
  rw [z, lex_irr] at h
  cases h
theorem trl_nd (m : Nat) : (trl m).Nodup := by
  unfold trl trlB trlA
  rw [List.nodup_iff_pairwise_ne, List.pairwise_flatMap]
  refine ⟨fun c _ => ?_, pw_range.imp fun {c c'} h x hx y hy => ?_⟩
  · rw [List.pairwise_flatMap]
    refine ⟨fun b _ => ?_, pw_range.imp fun {b b'} h x hx y hy => ?_⟩
    · rw [List.pairwise_map]
      exact pw_range.imp fun {a a'} h z => by
        simp at z
        omega
    · obtain ⟨a, _, rfl⟩ := List.mem_map.mp hx
      obtain ⟨a', _, rfl⟩ := List.mem_map.mp hy
      intro z
      simp at z
      omega
  · obtain ⟨b, _, hx⟩ := List.mem_flatMap.mp hx
    obtain ⟨b', _, hy⟩ := List.mem_flatMap.mp hy
    obtain ⟨a, _, rfl⟩ := List.mem_map.mp hx
    obtain ⟨a', _, rfl⟩ := List.mem_map.mp hy
    intro z
    simp at z
    omega
theorem trl_perm (m : Nat) : (trl m).Perm (tri m m) :=
  (List.perm_ext_iff_of_nodup (trl_nd m) (List.nodup_iff_pairwise_ne.mpr ((tri_up m).imp LexLt.ne))).mpr fun p => mem_trl.trans mem_tri.symm
theorem trl_len {m : Nat} (hm : m ≤ 21) : (trl m).length ≤ 4000 := by
  have h : ∀ k : Fin 22, (trl k.val).length ≤ 4000 := by decide +kernel
  exact h ⟨m, by omega⟩
/-- pairs in order -/
def NLe (x y : List Nat × Nat) : Prop := ltN (zI y) (zI x) = false
theorem zI_inj {x y : List Nat × Nat} (h : zI x = zI y) : x = y := by
  have h1 : (x.1.map fun p => ((p : Nat) : Int)) = y.1.map fun p => ((p : Nat) : Int) := congrArg Prod.fst h
  have h2 : ((x.2 : Nat) : Int) = ((y.2 : Nat) : Int) := congrArg Prod.snd h
  exact Prod.ext ((List.map_inj_right fun a b (e : ((a : Nat) : Int) = ((b : Nat) : Int)) => by omega).mp h1) (by omega)
theorem NLe.anti {x y : List Nat × Nat} (h1 : NLe x y) (h2 : NLe y x) : x = y := zI_inj (ltN_tri h2 h1)
theorem NLe.trans {x y z : List Nat × Nat} (h1 : NLe x y) (h2 : NLe y z) : NLe x z := by
  unfold NLe at *
  cases h : ltN (zI z) (zI x) with
  | false => rfl
  | true =>
    cases h3 : ltN (zI x) (zI y) with
    | true =>
      rw [ltN_trans h h3] at h2
      cases h2
    | false =>
      rw [ltN_tri h3 h1] at h
      rw [h] at h2
      cases h2
theorem ns_uniq {cs ds bs : List (List Nat × Nat)} (h1 : cs.Perm bs) (h2 : cs.Pairwise NLe) (h3 : ds.Perm bs) (h4 : ds.Pairwise NLe) : cs = ds := (h1.trans h3.symm).eq_of_pairwise (fun _ _ _ _ x y => NLe.anti x y) h2 h4
theorem zof_up (g : List Nat → Nat) (m : Nat) : (zof g (tri m m)).Pairwise NLe := by
  unfold zof
  rw [List.pairwise_map]
  refine (tri_up m).imp fun {p q} h => ?_
  unfold NLe ltN zI
  have hne : (q.map fun p => ((p : Nat) : Int)) ≠ p.map fun p => ((p : Nat) : Int) := fun z => by
    unfold LexLt at h
    rw [z, lex_irr] at h
    cases h
  rw [if_neg hne]
  cases h2 : lexB (q.map fun p => ((p : Nat) : Int)) (p.map fun p => ((p : Nat) : Int)) with
  | false => rfl
  | true =>
    have := lex_trans h h2
    rw [lex_irr] at this
    cases this
theorem ns_adj {α : Type} {R : α → α → Prop} (ht : ∀ a b c, R a b → R b c → R a c) : ∀ l : List α, (∀ i (h : i + 1 < l.length), R (l[i]'(by omega)) l[i + 1]) → l.Pairwise R
  | [], _ => .nil
  | [a], _ => by simp
  | a :: b :: l, h => by
    have ih := ns_adj ht (b :: l) fun i hi => h (i + 1) (by simpa using hi)
    have h0 : R a b := h 0 (by simp)
    refine List.pairwise_cons.mpr ⟨fun x hx => ?_, ih⟩
    rcases List.mem_cons.mp hx with e | e
    · rw [e]
      exact h0
    · exact ht _ _ _ h0 ((List.pairwise_cons.mp ih).1 x e)
theorem ca_idx {H : Hp} {vs : List V} {zs : List (List Nat × Nat)} (h : CaAt H vs zs) : ∀ {idx : List Nat}, (∀ i ∈ idx, i < zs.length) → CaAt H (idx.map fun i => vs.getD i .non) (idx.map fun i => zs.getD i ([], 0))
  | [], _ => trivial
  | i :: idx, hi => by
    have hl := h.len
    have hib := hi i (List.mem_cons_self ..)
    obtain ⟨u, d, z, e1, e2, e3, e4⟩ := h.get (i := i) (v := vs.getD i .non) (by simp [show i < vs.length by omega])
    have e5 : zs.getD i ([], 0) = z := by rw [List.getD_eq_getElem?_getD, e2]; rfl
    refine ⟨⟨u, d, e1, ?_, ?_⟩, ca_idx h fun j hj => hi j (List.mem_cons_of_mem _ hj)⟩
    · show H u = some (.tup [.ref d, .int (((zs.getD i ([], 0)).2 : Nat) : Int)])
      rw [e5]
      exact e3
    · show H d = some (.tup (nats (zs.getD i ([], 0)).1))
      rw [e5]
      exact e4
theorem zidx_perm {zs : List (List Nat × Nat)} {idx : List Nat} (h : idx.Perm (List.range zs.length)) : (idx.map fun i => zs.getD i ([], 0)).Perm zs := by
  have := h.map fun i => zs.getD i ([], 0)
  refine this.trans (List.Perm.of_eq ?_)
  apply List.ext_getElem
  · simp
  · intro i h1 h2
    simp [List.getElem_map, List.getElem_range, h2]
theorem keep_len3 {H : Hp} {m a b c : Nat} {ws : List V} {bs : List (List Nat)} (h : MkAt H m ws bs) : (keep c (keep b (keep a ws bs) (bs.filter fun x => decide (a ∈ x))) ((bs.filter fun x => decide (a ∈ x)).filter fun x => decide (b ∈ x))).length = cnt bs [a, b, c] := by
  rw [((h.keep (p := a)).keep (p := b)).keep.len, List.filter_filter, List.filter_filter]
  unfold cnt
  congr 1
  apply List.filter_congr
  intro x _
  simp [Bool.and_comm, Bool.and_assoc, Bool.and_left_comm]
def spTri (g : List (List Nat) → List Nat → Nat) (L : Nat → List (List Nat) → List (List Nat)) : Sp := fun vs H Q _ => ∃ (t : Addr) (m : Nat) (bs : List (List Nat)), vs = [.ref t] ∧ LayA H t m bs ∧ m ≤ 21 ∧ bs.length ≤ 60 ∧ (∀ b ∈ bs, Blk m b) ∧ ∀ v H', Same H H' → AnsAt H' v (told (zof (g bs) (L m bs))) → Q v H'
theorem scTriplesTold : FnScope ["M", "rows", "cases", "counts", "a", "with_a", "b", "with_both", "c"] ["M"] (defScope sTriplesTold) := ⟨rfl, rfl, rfl, by decide +kernel, rfl, by decide +kernel, by decide +kernel⟩
theorem ok_triples {f : Addr} {fd : FuncData} (F : Fun K "triples_told" "triples_told" sTriplesTold f fd) (T : TxtB mg) (pMarkedBlocks : Pm P w K mg base CX0 2 "marked_blocks" ["M"] spMarked) (pRowsWith : Pm P w K mg base CX0 1 "rows_with" ["rows", "point"] spRowsWith) (pToldOf : Pm P w K mg base CX0 1 "told_of" ["cases", "counts"] spTold) : FnOk P w K mg base CX0 3 f fd ["M"] (spTri cnt fun m _ => tri m m) := by
  refine F.okQ scTriplesTold (fun vs H Q E h => ?_) (fun cdv A outer s H vs Q E hr2 h => ?_)
  · obtain ⟨t, m, bs, rfl, _⟩ := h
    rfl
  · obtain ⟨t, m, bs, rfl, hL, hm, hn60, hb, q⟩ := h
    have hr1 := hr2.mono (show 1 ≤ 2 by decide)
    refine ⟨_, (qss_cons (qs_set (i := 1) scTriplesTold.nd rfl (Or.inl rfl) (qe_callP pMarkedBlocks hr2 rfl pass0 (qac (qv 0) qa_nil)))
      (qss_cons (qs_set (i := 2) scTriplesTold.nd rfl (Or.inl rfl) (qe_lst qa_nil))
      (qss_cons (qs_set (i := 3) scTriplesTold.nd rfl (Or.inl rfl) (qe_lst qa_nil))
      (qss_cons (qs_for PassesOwn.never rfl (qi_range1 rfl T.range (qac (qe_ix ix_tup (qv 0) qe_int (fun _ _ => rfl)) qa_nil)) (qg_name (i := 4) scTriplesTold.nd rfl (Or.inl rfl))
        (qss_cons (qs_set (i := 5) scTriplesTold.nd rfl (Or.inl rfl) (qe_callP pRowsWith hr1 rfl pass0 (qac (qv 1) (qac (qv 4) qa_nil))))
        (qss_one (qs_for PassesOwn.never rfl (qi_range2 rfl T.range (qac (qe_op op_add (qv 4) qe_int) (qac (qe_ix ix_tup (qv 0) qe_int (fun _ _ => rfl)) qa_nil))) (qg_name (i := 6) scTriplesTold.nd rfl (Or.inl rfl))
          (qss_cons (qs_set (i := 7) scTriplesTold.nd rfl (Or.inl rfl) (qe_callP pRowsWith hr1 rfl pass0 (qac (qv 5) (qac (qv 6) qa_nil))))
          (qss_one (qs_for PassesOwn.never rfl (qi_range2 rfl T.range (qac (qe_op op_add (qv 6) qe_int) (qac (qe_ix ix_tup (qv 0) qe_int (fun _ _ => rfl)) qa_nil))) (qg_name (i := 8) scTriplesTold.nd rfl (Or.inl rfl))
            (qss_cons (qs_expr (qe_bm PySem.F.plainAttrs_list PySem.F.slot_list_append PySem.F.type_list_append mt_append (qv 2) (qac (qe_tup (qac (qv 4) (qac (qv 6) (qac (qv 8) qa_nil)))) qa_nil)))
            (qss_one (qs_expr (qe_bm PySem.F.plainAttrs_list PySem.F.slot_list_append PySem.F.type_list_append mt_append (qv 3) (qac (qe_callB call_len_seq (by rfl) T.len PySem.boot_len (qac (qe_callP pRowsWith hr1 rfl pass0 (qac (qv 7) (qac (qv 8) qa_nil))) qa_nil)) qa_nil))))))))))))
      (qss_one (qs_ret (qe_callP pToldOf hr1 rfl pass0 (qac (qv 2) (qac (qv 3) qa_nil))))))))), ?_⟩
    have hn := hL.choose_spec.choose_spec.2.2.2
    refine ⟨_, rfl, t, m, bs, rfl, hL, by omega, hb, fun l ws H1 hl0 s1 hl hW => ?_⟩
    refine ⟨by show 0 ≤ sizeLine; decide, fun c hc => ⟨by show 0 ≤ sizeLine; decide, fun k hk => ?_⟩⟩
    have w1 := same_new (o := .lst []) hc
    have w2 := same_new (o := .lst []) hk
    have hkc : k ≠ c := fun z => by
      rw [z, upd_same] at hk
      cases hk
    have hk1 : H1 k = none := w1.free hk
    obtain ⟨lb, wb, ht, hlb, _⟩ := id hL
    have ht1 := s1 _ _ ht
    have A0 : Acc (cnt bs) H1 c k (tri m 0) (upd (upd H1 c (.lst [])) k (.lst [])) := by
      refine ⟨w1.trans w2, ⟨[], ?_, trivial⟩, upd_same⟩
      rw [upd_ne (Ne.symm hkc)]
      exact upd_same
    have fresh : ∀ {L : List (List Nat)} {Hx : Hp} {r : Addr}, Acc (cnt bs) H1 c k L Hx → Hx r = none → r ≠ c ∧ r ≠ k := fun {L Hx r} A hr => by
      refine ⟨fun z => ?_, fun z => ?_⟩
      · obtain ⟨cs, e, _⟩ := A.cs
        rw [z, e] at hr
        cases hr
      · rw [z, A.ks] at hr
        cases hr
    refine ⟨_, rfl, t, _, 0, .int (m : Nat), rfl, rfl, SqT.of ((w1.trans w2) _ _ ht1), rfl, (m : Int), rfl, by omega, by omega, for_range (lo := 0) (n := m) (fun i σ H2 => Acc (cnt bs) H1 c k (tri m i) H2 ∧ ∃ x4 x5 x6 x7 x8, σ = [some (.ref t), some (.ref l), some (.ref c), some (.ref k), x4, x5, x6, x7, x8]) ⟨A0, none, none, none, none, none, rfl⟩ ?_ ?_⟩
    · rintro a σ H2 ha ⟨A2, x4, x5, x6, x7, x8, rfl⟩
      rw [Int.zero_add]
      refine ⟨_, rfl, _, rfl, l, m, a, ws, bs, rfl, A2.sm _ _ hl, hW.sm A2.sm, hn, ha, fun r H3 hr3 s3 hr' => ?_⟩
      have A3 := A2.up s3
      obtain ⟨hrc, hrk⟩ := fresh A2 hr3
      have hla := tri_len hm a
      refine ⟨_, rfl, _, _, rfl, rfl, _, rfl, t, _, 0, .int (m : Nat), rfl, rfl, SqT.of (A3.sm _ _ ht1), rfl, _, _, rfl, ⟨by omega, by omega, by omega, by omega⟩, ?_⟩
      rw [show ((m : Int) - ((a : Int) + 1)).toNat = m - (a + 1) by omega]
      refine for_range (lo := (a : Int) + 1) (n := m - (a + 1)) (fun j σ H4 => (Acc (cnt bs) H1 c k (tri m a ++ triB m a j) H4 ∧ H4 r = some (.lst (keep a ws bs))) ∧ ∃ x6 x7 x8, σ = [some (.ref t), some (.ref l), some (.ref c), some (.ref k), some (.int (a : Nat)), some (.ref r), x6, x7, x8]) ⟨⟨by rw [show triB m a 0 = [] from rfl, List.append_nil]; exact A3, hr'⟩, x6, x7, x8, rfl⟩ ?_ ?_
      · rintro j σ H4 hj ⟨⟨A4, hr4⟩, x6, x7, x8, rfl⟩
        rw [show ((a : Int) + 1 + (j : Int)) = ((a + 1 + j : Nat) : Int) by omega]
        refine ⟨_, rfl, _, rfl, r, m, a + 1 + j, keep a ws bs, bs.filter fun x => decide (a ∈ x), rfl, hr4, (hW.keep).sm A4.sm, Nat.le_trans (List.length_filter_le ..) hn, by omega, fun r2 H5 hr5 s5 hr5' => ?_⟩
        have A5 := A4.up s5
        obtain ⟨hr2c, hr2k⟩ := fresh A4 hr5
        have hr45 := s5 _ _ hr4
        have hlb2 := triB_len (a := a) hm j
        refine ⟨_, rfl, _, _, rfl, rfl, _, rfl, t, _, 0, .int (m : Nat), rfl, rfl, SqT.of (A5.sm _ _ ht1), rfl, _, _, rfl, ⟨by omega, by omega, by omega, by omega⟩, ?_⟩
        rw [show ((m : Int) - (((a + 1 + j : Nat) : Int) + 1)).toNat = m - (a + 1 + j + 1) by omega]
        refine for_range (lo := ((a + 1 + j : Nat) : Int) + 1) (n := m - (a + 1 + j + 1)) (fun i σ H6 => (Acc (cnt bs) H1 c k (tri m a ++ triB m a j ++ triC a (a + 1 + j) i) H6 ∧ H6 r = some (.lst (keep a ws bs)) ∧ H6 r2 = some (.lst (keep (a + 1 + j) (keep a ws bs) (bs.filter fun x => decide (a ∈ x))))) ∧ ∃ x8, σ = [some (.ref t), some (.ref l), some (.ref c), some (.ref k), some (.int (a : Nat)), some (.ref r), some (.int ((a + 1 + j : Nat) : Int)), some (.ref r2), x8]) ⟨⟨by rw [show triC a (a + 1 + j) 0 = [] from rfl, List.append_nil]; exact A5, hr45, hr5'⟩, x8, rfl⟩ ?_ ?_
        · rintro i σ H6 hi ⟨⟨A6, hr6, hr26⟩, x8, rfl⟩
          rw [show (((a + 1 + j : Nat) : Int) + 1 + (i : Int)) = ((a + 1 + j + 1 + i : Nat) : Int) by omega]
          obtain ⟨cs, hcs, hT⟩ := A6.cs
          have hll : (tri m a ++ triB m a j ++ triC a (a + 1 + j) i).length ≤ 20000 := by
            rw [List.length_append, List.length_append, triC_len]
            omega
          refine ⟨_, rfl, .inl ⟨rfl, _, SqL.of hcs⟩, _, rfl, _, rfl, _, rfl, by show 3 ≤ sizeLine; decide, fun p hp => ?_⟩
          have v1 := same_new (o := .tup [V.int (a : Nat), V.int ((a + 1 + j : Nat) : Int), V.int ((a + 1 + j + 1 + i : Nat) : Int)]) hp
          refine ⟨c, cs, .ref p, rfl, rfl, v1 _ _ hcs, by rw [hT.len]; exact Nat.lt_of_le_of_lt hll (by decide), ?_⟩
          have B := Acc.half (g := cnt bs) (k := k) (p := [a, a + 1 + j, a + 1 + j + 1 + i]) (w1.free hk ▸ hc) hkc (v1 _ _ hcs) (hT.sm v1) (A6.sm.trans v1) (v1 _ _ A6.ks) upd_same
          have hr7 : upd (upd H6 p (.tup [V.int (a : Nat), V.int ((a + 1 + j : Nat) : Int), V.int ((a + 1 + j + 1 + i : Nat) : Int)])) c (.lst (cs ++ [.ref p])) r = some (.lst (keep a ws bs)) := by
            rw [upd_ne hrc]
            exact v1 _ _ hr6
          have hr27 : upd (upd H6 p (.tup [V.int (a : Nat), V.int ((a + 1 + j : Nat) : Int), V.int ((a + 1 + j + 1 + i : Nat) : Int)])) c (.lst (cs ++ [.ref p])) r2 = some (.lst (keep (a + 1 + j) (keep a ws bs) (bs.filter fun x => decide (a ∈ x)))) := by
            rw [upd_ne hr2c]
            exact v1 _ _ hr26
          generalize upd (upd H6 p (.tup [V.int (a : Nat), V.int ((a + 1 + j : Nat) : Int), V.int ((a + 1 + j + 1 + i : Nat) : Int)])) c (.lst (cs ++ [.ref p])) = H7 at B hr7 hr27 ⊢
          refine ⟨_, rfl, .inl ⟨rfl, _, SqL.of B.ks⟩, _, rfl, _, rfl, r2, m, a + 1 + j + 1 + i, _, (bs.filter fun x => decide (a ∈ x)).filter fun x => decide (a + 1 + j ∈ x), rfl, hr27, ((hW.keep).keep).sm B.sm, Nat.le_trans (List.length_filter_le ..) (Nat.le_trans (List.length_filter_le ..) hn), by omega, fun r3 H8 hr8 s8 hr8' => ?_⟩
          refine ⟨r3, _, rfl, .inl (SqL.of hr8'), k, _, _, rfl, rfl, s8 _ _ B.ks, by rw [nats_len, List.length_map]; exact Nat.lt_of_le_of_lt hll (by decide), ⟨?_, ?_, ?_⟩, _, rfl⟩
          · have C := (B.up s8).full hk1 hkc
            rw [keep_len3 hW, triC_snoc, ← List.append_assoc]
            exact C
          · rw [upd_ne hrk]
            exact s8 _ _ hr7
          · rw [upd_ne hr2k]
            exact s8 _ _ hr27
        · rintro σ H6 ⟨⟨A6, hr6, hr26⟩, x8, rfl⟩
          rw [List.append_assoc, ← triB_snoc] at A6
          exact ⟨⟨A6, hr6⟩, _, _, _, rfl⟩
      · rintro σ H4 ⟨⟨A4, hr4⟩, x6, x7, x8, rfl⟩
        rw [← tri_snoc] at A4
        exact ⟨A4, _, _, _, _, _, rfl⟩
    · rintro σ H2 ⟨A2, x4, x5, x6, x7, x8, rfl⟩
      obtain ⟨cs, hcs, hT⟩ := A2.cs
      refine ⟨_, rfl, _, rfl, c, k, cs, zof (cnt bs) (tri m m), rfl, hcs, by rw [zof_fst]; exact hT, by rw [zof_snd]; exact A2.ks, ?_, fun v H' s' ha => ?_⟩
      · intro z hz
        obtain ⟨p, hp, rfl⟩ := List.mem_map.mp hz
        obtain ⟨a, b, c, rfl, _⟩ := mem_tri.mp hp
        show 3 ≤ 60
        decide
      · exact q v H' (s1.trans (A2.sm.trans s')) ha
/-- the points that lie in a block with p, one behind the other -/
def bsd (p : Nat) (bs : List (List Nat)) : List Nat := (bs.filter fun b => decide (p ∈ b)).flatten
theorem bsd_snoc (p : Nat) (bs : List (List Nat)) (b : List Nat) : bsd p (bs ++ [b]) = bsd p bs ++ if p ∈ b then b else [] := by
  unfold bsd
  rw [List.filter_append, List.flatten_append]
  by_cases h : p ∈ b
  · simp [h]
  · simp [h]
theorem bsd_mem {p x : Nat} {bs : List (List Nat)} : x ∈ bsd p bs ↔ ∃ b ∈ bs, p ∈ b ∧ x ∈ b := by
  unfold bsd
  simp only [List.mem_flatten, List.mem_filter, decide_eq_true_eq]
  constructor
  · rintro ⟨b, ⟨h1, h2⟩, h3⟩
    exact ⟨b, h1, h2, h3⟩
  · rintro ⟨b, h1, h2, h3⟩
    exact ⟨b, ⟨h1, h2⟩, h3⟩
theorem bsd_len {p m : Nat} (hm : m ≤ 21) : ∀ {bs : List (List Nat)}, (∀ b ∈ bs, Blk m b) → (bsd p bs).length ≤ 21 * bs.length
  | [], _ => by simp [bsd]
  | b :: bs, h => by
    have ih := bsd_len (p := p) hm fun b' hb' => h b' (List.mem_cons_of_mem _ hb')
    have hl := (h b (List.mem_cons_self ..)).len
    unfold bsd at ih ⊢
    rw [List.filter_cons, List.length_cons]
    by_cases hp : p ∈ b
    · rw [if_pos (by simp [hp]), List.flatten_cons, List.length_append]
      omega
    · rw [if_neg (by simp [hp])]
      omega
def spBeside : Sp := fun vs H Q _ => ∃ (t : Addr) (m p : Nat) (bs : List (List Nat)), vs = [.ref t, .int (p : Nat)] ∧ LayA H t m bs ∧ m ≤ 21 ∧ bs.length ≤ 60 ∧ (∀ b ∈ bs, Blk m b) ∧ ∀ (l : Addr) (H' : Hp), H l = none → Same H H' → H' l = some (.lst (mks m (bsd p bs))) → Q (.ref l) H'
theorem scPointsBeside : FnScope ["M", "point", "beside", "block"] ["M", "point"] (defScope sPointsBeside) := ⟨rfl, rfl, rfl, by decide +kernel, rfl, by decide +kernel, by decide +kernel⟩
theorem ok_beside {f : Addr} {fd : FuncData} (F : Fun K "points_beside" "points_beside" sPointsBeside f fd) (T : TxtB mg) (pMarksOf : Pm P w K mg base CX0 1 "marks_of" ["points", "block"] spMarks) : FnOk P w K mg base CX0 2 f fd ["M", "point"] spBeside := by
  refine F.okQ scPointsBeside (fun vs H Q E h => ?_) (fun cdv A outer s H vs Q E hr1 h => ?_)
  · obtain ⟨t, m, p, bs, rfl, _⟩ := h
    rfl
  · obtain ⟨t, m, p, bs, rfl, ⟨lb, ws, ht, hlb, hT, hn⟩, hm, hn60, hb, q⟩ := h
    refine ⟨_, (qss_cons (qs_set (i := 2) scPointsBeside.nd rfl (Or.inl rfl) (qe_lst qa_nil))
      (qss_cons (qs_for PassesOwn.never rfl (qi_tup (qe_ix ix_tup (qv 0) qe_int (fun _ _ => rfl))) (qg_name (i := 3) scPointsBeside.nd rfl (Or.inl rfl))
        (qss_one (qs_if (qt_cmpR op_in_seq (qv 1) (qv 3) rfl) (qss_one (qs_expr (qe_bm PySem.F.plainAttrs_list PySem.F.slot_list_extend PySem.F.type_list_extend mt_extendT (qv 2) (qac (qv 3) qa_nil)))) qss_nil)))
      (qss_one (qs_ret (qe_callP pMarksOf hr1 rfl pass0 (qac (qe_ix ix_tup (qv 0) qe_int (fun _ _ => rfl)) (qac (qv 2) qa_nil))))))), ?_⟩
    refine ⟨by show 0 ≤ sizeLine; decide, fun c hc => ?_⟩
    have w1 := same_new (o := .lst []) hc
    refine ⟨_, rfl, t, _, 1, .ref lb, rfl, rfl, SqT.of (w1 _ _ ht), rfl, lb, rfl, ⟨_, SqT.of (w1 _ _ hlb)⟩, for_tup (K := K) (xs := ws) (fun i σ H2 => Same H H2 ∧ H2 c = some (.lst (nats (bsd p (bs.take i)))) ∧ ∃ x3, σ = [some (.ref t), some (.int (p : Nat)), some (.ref c), x3]) ⟨w1, upd_same, none, rfl⟩ (fun i σ H2 _ ⟨e, _⟩ => SqT.of (e _ _ hlb)) ?_ ?_⟩
    · rintro i v σ H2 hi ⟨s2, hc2, x3, rfl⟩
      obtain ⟨a, b, rfl, hbs, hab⟩ := (hT.sm s2).get hi
      have e := bsd_snoc p (bs.take i) b
      have hbl := (hb b (List.mem_of_getElem? hbs)).len
      have hll := bsd_len (p := p) hm (bs := bs.take i) fun b' hb' => hb b' (List.mem_of_mem_take hb')
      rw [List.length_take] at hll
      refine ⟨_, rfl, _, rfl, a, _, rfl, .inr (SqT.of hab), rfl, flat_nats b, _, rfl, ?_⟩
      rw [if_neg (by decide), inV_nats]
      by_cases h : p ∈ b
      · rw [decide_eq_true h]
        rw [if_pos h] at e
        refine iteT ⟨_, rfl, .inl ⟨rfl, _, SqL.of hc2⟩, _, rfl, c, a, _, _, rfl, rfl, hc2, hab, ?_, same_upd s2 hc, ?_, _, rfl⟩
        · rw [nats_len, nats_len]
          exact Nat.le_trans (show _ ≤ 2000 by omega) (by decide)
        · rw [upd_same, take_snoc hbs, e]
          unfold nats
          rw [List.map_append]
      · rw [decide_eq_false h]
        rw [if_neg h, List.append_nil] at e
        exact iteF ⟨s2, by rw [take_snoc hbs, e]; exact hc2, _, rfl⟩
    · rintro σ H2 ⟨s2, hc2, x3, rfl⟩
      rw [hT.len, List.take_length] at hc2
      refine ⟨_, rfl, t, _, 0, .int (m : Nat), rfl, rfl, SqT.of (s2 _ _ ht), rfl, _, rfl, c, m, _, rfl, .inl hc2, by omega, fun x hx => ?_, fun l H3 hl s3 hl3 => q l H3 (s2.free hl) (s2.trans s3) hl3⟩
      obtain ⟨b, h1, _, h3⟩ := bsd_mem.mp hx
      exact (hb b h1).lt x h3
/-- the points with the blocks that haven't them: of the points below i; of p, the blocks below j -/
def flK (bs : List (List Nat)) (p j : Nat) : List (List Nat) := ((List.range j).filter fun k => decide (p ∉ bs.getD k [])).map fun k => [p, k]
def flg (bs : List (List Nat)) (i : Nat) : List (List Nat) := (List.range i).flatMap fun p => flK bs p bs.length
theorem flK_snoc (bs : List (List Nat)) (p j : Nat) : flK bs p (j + 1) = flK bs p j ++ if p ∉ bs.getD j [] then [[p, j]] else [] := by
  unfold flK
  rw [List.range_succ, List.filter_append, List.map_append, List.filter_cons, List.filter_nil]
  by_cases h : p ∈ bs.getD j []
  · rw [if_neg (by simpa using h), if_neg (fun z => z h)]
    rfl
  · rw [if_pos (decide_eq_true h), if_pos h]
    rfl
theorem flg_snoc (bs : List (List Nat)) (i : Nat) : flg bs (i + 1) = flg bs i ++ flK bs i bs.length := by
  unfold flg
  rw [List.range_succ, List.flatMap_append, List.flatMap_cons, List.flatMap_nil, List.append_nil]
theorem flK_len (bs : List (List Nat)) (p j : Nat) : (flK bs p j).length ≤ j := by
  unfold flK
  rw [List.length_map]
  exact Nat.le_trans (List.length_filter_le ..) (by rw [List.length_range]; exact Nat.le_refl _)
theorem flg_len (bs : List (List Nat)) : ∀ i, (flg bs i).length ≤ bs.length * i
  | 0 => by simp [flg]
  | i + 1 => by
    have := flg_len bs i
    have h2 := flK_len bs i bs.length
    rw [flg_snoc, List.length_append, Nat.mul_succ]
    omega
/-- how many points of the block lie with the point -/
def gF (bs : List (List Nat)) (q : List Nat) : Nat := ((bs.getD (q.getD 1 0) []).filter fun o => decide (o ∈ bsd (q.getD 0 0) bs)).length
theorem flg_two {bs : List (List Nat)} {i : Nat} {q : List Nat} (h : q ∈ flg bs i) : q.length = 2 := by
  obtain ⟨p, _, h⟩ := List.mem_flatMap.mp h
  obtain ⟨k, _, rfl⟩ := List.mem_map.mp h
  rfl
theorem scFlagsTold : FnScope ["M", "cases", "counts", "point", "beside", "number", "block"] ["M"] (defScope sFlagsTold) := ⟨rfl, rfl, rfl, by decide +kernel, rfl, by decide +kernel, by decide +kernel⟩
theorem ok_flags {f : Addr} {fd : FuncData} (F : Fun K "flags_told" "flags_told" sFlagsTold f fd) (T : TxtB mg) (pPointsBeside : Pm P w K mg base CX0 2 "points_beside" ["M", "point"] spBeside) (pToldOf : Pm P w K mg base CX0 1 "told_of" ["cases", "counts"] spTold) : FnOk P w K mg base CX0 3 f fd ["M"] (spTri gF fun m bs => flg bs m) := by
  refine F.okQ scFlagsTold (fun vs H Q E h => ?_) (fun cdv A outer s H vs Q E hr2 h => ?_)
  · obtain ⟨t, m, bs, rfl, _⟩ := h
    rfl
  · obtain ⟨t, m, bs, rfl, hL, hm, hn60, hb, q⟩ := h
    have hr1 := hr2.mono (show 1 ≤ 2 by decide)
    refine ⟨_, (qss_cons (qs_set (i := 1) scFlagsTold.nd rfl (Or.inl rfl) (qe_lst qa_nil))
      (qss_cons (qs_set (i := 2) scFlagsTold.nd rfl (Or.inl rfl) (qe_lst qa_nil))
      (qss_cons (qs_for PassesOwn.never rfl (qi_range1 rfl T.range (qac (qe_ix ix_tup (qv 0) qe_int (fun _ _ => rfl)) qa_nil)) (qg_name (i := 3) scFlagsTold.nd rfl (Or.inl rfl))
        (qss_cons (qs_set (i := 4) scFlagsTold.nd rfl (Or.inr rfl) (qe_callP pPointsBeside hr2 rfl pass0 (qac (qv 0) (qac (qv 3) qa_nil))))
        (qss_one (qs_for PassesOwn.never rfl (qi_enumT rfl T.enu (qac (qe_ix ix_tup (qv 0) qe_int (fun _ _ => rfl)) qa_nil)) (qg_tup rfl (qgs_cons (qg_name (i := 5) scFlagsTold.nd rfl (Or.inl rfl)) (qgs_cons (qg_name (i := 6) scFlagsTold.nd rfl (Or.inl rfl)) qgs_nil)))
          (qss_one (qs_if (qt_cmpR op_notIn_seq (qv 3) (qv 6) rfl) (qss_cons (qs_expr (qe_bm PySem.F.plainAttrs_list PySem.F.slot_list_append PySem.F.type_list_append mt_append (qv 1) (qac (qe_tup (qac (qv 3) (qac (qv 5) qa_nil))) qa_nil)))
            (qss_one (qs_expr (qe_bm PySem.F.plainAttrs_list PySem.F.slot_list_append PySem.F.type_list_append mt_append (qv 2) (qac (qe_callB call_len_seq (by rfl) T.len PySem.boot_len (qac (qe_comp (g := gName 0) (N := ["other", "beside"]) (src := [none, some 4]) rfl (comp_scope (defScope sFlagsTold) ["M", "cases", "counts", "point", "beside", "number", "block"] rfl rfl (by decide +kernel) rfl) (qi_tup (qv 6)) (fun _ _ _ _ _ => (qg_name (i := 0) (show (["other", "beside"] : List Str).Nodup by decide +kernel) rfl (Or.inl rfl) (Or.inr rfl))) (fun _ _ _ _ _ => (qif_one (qt_val (qe_ix (show IxR _ (rIxL K) from ix_list) (qv 1) (qv 0) (fun _ _ => rfl))))) (fun _ _ _ _ _ => (qv 0))) qa_nil)) qa_nil))))) qss_nil))))))
      (qss_one (qs_ret (qe_callP pToldOf hr1 rfl pass0 (qac (qv 1) (qac (qv 2) qa_nil)))))))), ?_⟩
    refine ⟨by show 0 ≤ sizeLine; decide, fun c hc => ⟨by show 0 ≤ sizeLine; decide, fun k hk => ?_⟩⟩
    have w1 := same_new (o := .lst []) hc
    have w2 := same_new (o := .lst []) hk
    have hkc : k ≠ c := fun z => by
      rw [z, upd_same] at hk
      cases hk
    have hk1 : H k = none := w1.free hk
    obtain ⟨lb, wb, ht, hlb, hT, hn⟩ := id hL
    have hwl := hT.len
    have A0 : Acc (gF bs) H c k (flg bs 0) (upd (upd H c (.lst [])) k (.lst [])) := by
      refine ⟨w1.trans w2, ⟨[], ?_, trivial⟩, upd_same⟩
      rw [upd_ne (Ne.symm hkc)]
      exact upd_same
    have fresh : ∀ {L : List (List Nat)} {Hx : Hp} {r : Addr}, Acc (gF bs) H c k L Hx → Hx r = none → r ≠ c ∧ r ≠ k := fun {L Hx r} A hr => by
      refine ⟨fun z => ?_, fun z => ?_⟩
      · obtain ⟨cs, e, _⟩ := A.cs
        rw [z, e] at hr
        cases hr
      · rw [z, A.ks] at hr
        cases hr
    refine ⟨_, rfl, t, _, 0, .int (m : Nat), rfl, rfl, SqT.of ((w1.trans w2) _ _ ht), rfl, (m : Int), rfl, by omega, by omega, for_range (lo := 0) (n := m) (fun i σ H2 => Acc (gF bs) H c k (flg bs i) H2 ∧ ∃ x3 x4 x5 x6, σ = [some (.ref t), some (.ref c), some (.ref k), x3, x4, x5, x6]) ⟨A0, none, none, none, none, rfl⟩ ?_ ?_⟩
    · rintro a σ H2 ha ⟨A2, x3, x4, x5, x6, rfl⟩
      rw [Int.zero_add]
      refine ⟨_, rfl, _, rfl, t, m, a, bs, rfl, hL.sm A2.sm, hm, hn60, hb, fun r H3 hr3 s3 hr' => ?_⟩
      have A3 := A2.up s3
      obtain ⟨hrc, hrk⟩ := fresh A2 hr3
      have hla := flg_len bs a
      have hla2 : (flg bs a).length ≤ 60 * 21 := Nat.le_trans hla (Nat.mul_le_mul hn60 (by omega))
      refine ⟨_, rfl, t, _, 1, .ref lb, rfl, rfl, SqT.of (A3.sm _ _ ht), rfl, lb, rfl, ⟨_, SqT.of (A3.sm _ _ hlb)⟩, for_enumT (K := K) (a := lb) (xs := wb) (fun j σ H4 => (Acc (gF bs) H c k (flg bs a ++ flK bs a j) H4 ∧ H4 r = some (.lst (mks m (bsd a bs)))) ∧ ∃ x5 x6, σ = [some (.ref t), some (.ref c), some (.ref k), some (.int (a : Nat)), some (.ref r), x5, x6]) ⟨⟨by rw [show flK bs a 0 = [] from rfl, List.append_nil]; exact A3, hr'⟩, x5, x6, rfl⟩ (fun j σ H4 _ ⟨⟨A4, _⟩, _⟩ => SqT.of (A4.sm _ _ hlb)) ?_ ?_⟩
      · rintro j v U σ H4 hj ⟨⟨A4, hr4⟩, x5, x6, rfl⟩ hU
        obtain ⟨ab, b, rfl, hbs, hab⟩ := (hT.sm A4.sm).get hj
        have hjl : j < bs.length := (List.getElem?_eq_some_iff.mp hbs).1
        have hbj : bs.getD j [] = b := by rw [List.getD_eq_getElem?_getD, hbs]; rfl
        have hbk := hb b (List.mem_of_getElem? hbs)
        have hbl := hbk.len
        have u1 := same_new (o := .tup [.int (j : Nat), .ref ab]) hU
        have A5 := A4.up u1
        have hr5 := u1 _ _ hr4
        have hab5 := u1 _ _ hab
        refine ⟨U, _, rfl, SqT.of upd_same, rfl, _, _, rfl, _, _, rfl, rfl, ?_⟩
        generalize upd H4 U (.tup [.int (j : Nat), .ref ab]) = H5 at A5 hr5 hab5 ⊢
        have e := flK_snoc bs a j
        rw [hbj] at e
        have hlk := flK_len bs a j
        refine ⟨_, rfl, _, rfl, ab, _, rfl, .inr (SqT.of hab5), rfl, flat_nats b, _, rfl, ?_⟩
        rw [if_pos rfl, inV_nats]
        by_cases h : a ∈ b
        · rw [decide_eq_true h]
          rw [if_neg (fun z => z h), List.append_nil] at e
          exact iteF ⟨⟨by rw [e]; exact A5, hr5⟩, _, _, rfl⟩
        · rw [decide_eq_false h]
          rw [if_pos h] at e
          obtain ⟨cs, hcs, hTc⟩ := A5.cs
          have hll : (flg bs a ++ flK bs a j).length ≤ 20000 := by
            rw [List.length_append]
            omega
          refine iteT ⟨_, rfl, .inl ⟨rfl, _, SqL.of hcs⟩, _, rfl, _, rfl, by show 2 ≤ sizeLine; decide, fun p hp => ?_⟩
          have v1 := same_new (o := .tup [V.int (a : Nat), V.int (j : Nat)]) hp
          refine ⟨c, cs, .ref p, rfl, rfl, v1 _ _ hcs, by rw [hTc.len]; exact Nat.lt_of_le_of_lt hll (by decide), ?_⟩
          have B := Acc.half (g := gF bs) (k := k) (p := [a, j]) hc hkc (v1 _ _ hcs) (hTc.sm v1) (A5.sm.trans v1) (v1 _ _ A5.ks) upd_same
          have hr7 : upd (upd H5 p (.tup [V.int (a : Nat), V.int (j : Nat)])) c (.lst (cs ++ [.ref p])) r = some (.lst (mks m (bsd a bs))) := by
            rw [upd_ne hrc]
            exact v1 _ _ hr5
          have hab7 : upd (upd H5 p (.tup [V.int (a : Nat), V.int (j : Nat)])) c (.lst (cs ++ [.ref p])) ab = some (.tup (nats b)) := by
            rw [upd_ne (fun z => by rw [z, hcs] at hab5; cases hab5)]
            exact v1 _ _ hab5
          generalize upd (upd H5 p (.tup [V.int (a : Nat), V.int (j : Nat)])) c (.lst (cs ++ [.ref p])) = H7 at B hr7 hab7 ⊢
          refine ⟨_, rfl, .inl ⟨rfl, _, SqL.of B.ks⟩, _, rfl, ab, rfl, ⟨_, SqT.of hab7⟩, comp_tup (K := K) (xs := nats b) (fun i zs H8 => H8 = H7 ∧ zs = nats ((b.take i).filter fun o => decide (o ∈ bsd a bs))) ⟨rfl, rfl⟩ (fun i zs H8 _ ⟨e, _⟩ => SqT.of (e ▸ hab7)) ?_ ?_⟩
          · rintro i x zs H8 N hi ⟨rfl, rfl⟩ nx
            obtain ⟨o, ho, rfl⟩ := L2.nats_get hi
            have hom := hbk.lt o (List.mem_of_getElem? ho)
            refine ⟨Weak.set (by intro v z; cases z), ⟨_, rfl, _, rfl, r, _, _, _, rfl, rfl, SqL.of hr7, atI_nat (mks_get _ hom), _, rfl, ?_⟩⟩
            by_cases hh : o ∈ bsd a bs
            · refine ifT hh ⟨_, rfl, ?_, nx _ _ ⟨rfl, ?_⟩⟩
              · rw [nats_len]
                exact Nat.lt_of_le_of_lt (List.length_filter_le ..) (by rw [List.length_take]; exact Nat.lt_of_le_of_lt (show _ ≤ 60 by omega) (by decide))
              · rw [take_snoc ho, List.filter_append, List.filter_cons, if_pos (by simp [hh]), List.filter_nil, nats_snoc]
            · refine ifF hh (nx _ _ ⟨rfl, ?_⟩)
              rw [take_snoc ho, List.filter_append, List.filter_cons, if_neg (by simp [hh]), List.filter_nil, List.append_nil]
          · rintro zs H8 ⟨rfl, rfl⟩
            rw [nats_len b, List.take_length]
            have hfl := List.length_filter_le (fun o => decide (o ∈ bsd a bs)) b
            refine ⟨by rw [nats_len]; exact Nat.le_trans (show _ ≤ 60 by omega) (by decide), fun r3 hr8 => ?_⟩
            have v8 := same_new (o := .lst (nats (b.filter fun o => decide (o ∈ bsd a bs)))) hr8
            refine ⟨r3, _, rfl, .inl (SqL.of upd_same), k, _, _, rfl, rfl, v8 _ _ B.ks, by rw [nats_len, List.length_map]; exact Nat.lt_of_le_of_lt hll (by decide), ⟨?_, ?_⟩, _, _, rfl⟩
            · have C := (B.up v8).full hk1 hkc
              rw [nats_len, e, ← List.append_assoc]
              have eg : gF bs [a, j] = (b.filter fun o => decide (o ∈ bsd a bs)).length := by
                unfold gF
                show ((bs.getD j []).filter fun o => decide (o ∈ bsd a bs)).length = _
                rw [hbj]
              rw [eg] at C
              exact C
            · rw [upd_ne hrk]
              exact v8 _ _ hr7
      · rintro σ H4 ⟨⟨A4, hr4⟩, x5, x6, rfl⟩
        rw [hwl, ← flg_snoc] at A4
        exact ⟨A4, _, _, _, _, rfl⟩
    · rintro σ H2 ⟨A2, x3, x4, x5, x6, rfl⟩
      obtain ⟨cs, hcs, hTc⟩ := A2.cs
      refine ⟨_, rfl, _, rfl, c, k, cs, zof (gF bs) (flg bs m), rfl, hcs, by rw [zof_fst]; exact hTc, by rw [zof_snd]; exact A2.ks, ?_, fun v H' s' ha => ?_⟩
      · intro z hz
        obtain ⟨p, hp, rfl⟩ := List.mem_map.mp hz
        show p.length ≤ 60
        rw [flg_two hp]
        decide
      · exact q v H' (A2.sm.trans s') ha
theorem step_nd {l : List Int} {k : Int} (h : l.Nodup) : (PyProof.Rows.step_dedup l k).Nodup := by
  unfold PyProof.Rows.step_dedup
  split
  · exact h
  · rename_i hk
    rw [List.nodup_append]
    refine ⟨h, by simp, fun a ha b hb => ?_⟩
    rw [List.mem_singleton] at hb
    subst hb
    intro z
    subst z
    exact hk (List.any_eq_true.mpr ⟨a, ha, by simp⟩)
theorem firstMet_nd (val : Nat → Int) : ∀ i, (PyProof.Rows.firstMet val i).Nodup
  | 0 => by rw [PyProof.Rows.firstMet_zero]; exact List.nodup_nil
  | i + 1 => by rw [PyProof.Rows.firstMet_succ]; exact step_nd (firstMet_nd val i)
theorem firstMet_mem (val : Nat → Int) (i : Nat) (k : Int) : k ∈ PyProof.Rows.firstMet val i ↔ k ∈ (List.range i).map val := by
  have := PyProof.Rows.firstMet_any val i k
  rw [Bool.eq_iff_iff, List.any_eq_true, List.any_eq_true] at this
  constructor
  · intro h
    obtain ⟨x, hx, e⟩ := this.mp ⟨k, h, by simp⟩
    rwa [← eq_of_beq e]
  · intro h
    obtain ⟨x, hx, e⟩ := this.mpr ⟨k, h, by simp⟩
    rwa [← eq_of_beq e]
/-- set(list of numbers): as many as there are unlike ones -/
def rSetC (K : PySem.W.Frag) : List V → Hp → VK → Prop := fun xs H Q => ∃ (a : Addr) (ns : List Int), xs = [.ref a] ∧ SqL K H a (ns.map V.int) ∧ ns.length ≤ 2000 ∧ ∀ (l : Addr) (S : Int → Bool) (M : List Int), H l = none → M.Nodup → (∀ x, x ∈ M ↔ x ∈ ns) → Q (.ref l) (upd H l (.set S M.length))
theorem call_setC {X : Cx} (hc : X.calm = true) : CallR X (.type "set") (rSetC X.K) := by
  intro pins s σ H xs us Q I r h
  obtain ⟨a, ns, rfl, hq, h64, q⟩ := h
  obtain ⟨u, rfl, rx⟩ := vals1 r
  cases rx
  obtain ⟨its, r', pl, hz⟩ := I.list hq
  have hlen := r'.length
  rw [List.length_map] at hlen
  refine PySem.call_set_list (ns := ns) (I.ok.hd hc) pl.isList (by simpa using ints_of_vals r') (by rw [List.size_toArray, ← hlen]; exact Nat.lt_of_le_of_lt (Nat.succ_le_succ h64) (by decide)) fun h' tk hS kp => ?_
  refine ⟨.ref s.heap.objs.size, _, I.laid (t' := tk) (fun b o e => kp b o (Heap.lt_size e) e) (Nat.le_refl _) (show ObjOk X.prog X.w _ h' _ (.set _ _) from hS), rfl, q _ _ _ (I.hok.fresh (Nat.le_refl _)) (firstMet_nd _ _) fun x => ?_⟩
  rw [firstMet_mem, List.size_toArray, ← hlen]
  have e : ((List.range ns.length).map fun i => ns.getD i 0) = ns := by
    apply List.ext_getElem
    · simp
    · intro i h1 h2
      simp [h2]
  rw [e]
/-- cases with their counts, as data -/
def dCa (Z : List (List Nat × Nat)) : PyData := .list (Z.map fun z => .tuple [dTup z.1, .int ((z.2 : Nat) : Int)])
theorem dTup_isD {K : PySem.W.Frag} {H : Hp} {d : Addr} {p : List Nat} (h : H d = some (.tup (nats p))) : IsD K H (dTup p) (.ref d) := by
  simp only [dTup, IsD]
  exact ⟨d, _, rfl, SqT.of h, ints_isD' p⟩
theorem ca_isDs {K : PySem.W.Frag} {H : Hp} : ∀ {vs : List V} {Z : List (List Nat × Nat)}, CaAt H vs Z → IsDs K H (Z.map fun z => PyData.tuple [dTup z.1, .int ((z.2 : Nat) : Int)]) vs
  | [], [], _ => by simp [IsDs]
  | v :: vs, z :: Z, ⟨⟨u, d, e, h1, h2⟩, r⟩ => by
    simp only [List.map_cons, IsDs]
    refine ⟨v, vs, rfl, ?_, ca_isDs r⟩
    simp only [IsD, IsDs]
    exact ⟨u, _, e, SqT.of h1, _, _, rfl, dTup_isD h2, _, _, rfl, rfl, rfl⟩
theorem ca_lay : ∀ Z : List (List Nat × Nat), PyData.canLayAll0 (Z.map fun z => PyData.tuple [dTup z.1, .int ((z.2 : Nat) : Int)]) = true
  | [] => by simp [PyData.canLayAll0]
  | z :: Z => by
    have h1 := ca_lay Z
    have h2 := lay_tps [z.1]
    simp only [List.map_cons, List.map_nil, PyData.canLayAll0, Bool.and_true] at h2
    simp [PyData.canLayAll0, PyData.canLay0, h1, h2]
theorem ca_depth : ∀ Z : List (List Nat × Nat), PyData.depthAll (Z.map fun z => PyData.tuple [dTup z.1, .int ((z.2 : Nat) : Int)]) ≤ 6
  | [] => by simp [PyData.depthAll]
  | z :: Z => by
    have h1 := ca_depth Z
    have h2 := depth_tps [z.1]
    simp only [List.map_cons, List.map_nil, PyData.depthAll] at h2
    simp only [List.map_cons, PyData.depthAll, PyData.depth]
    omega
theorem ca_shaped (Z : List (List Nat × Nat)) : PySem.SeqAt.shaped (dCa Z) = true := by
  unfold PySem.SeqAt.shaped dCa
  rw [Bool.and_eq_true]
  refine ⟨by simp only [PyData.canLay0]; exact ca_lay Z, decide_eq_true ?_⟩
  have := ca_depth Z
  simp only [PyData.depth]
  omega
def spLDue (K : PySem.W.Frag) : Sp := fun vs H Q _ => ∃ (l : Addr) (ws : List V) (Z : List (List Nat × Nat)), vs = [.ref l] ∧ H l = some (.lst ws) ∧ CaAt H ws Z ∧ (∀ z ∈ Z, z.1.length ≤ 60) ∧ ∀ v H', Same H H' → AnsAt H' v (told Z) → Q v H'
theorem scDue : FnScope ["_law_cases", "_law_case", "_law_many"] ["_law_cases"] (defScope sDue) := ⟨rfl, rfl, rfl, by decide +kernel, rfl, by decide +kernel, by decide +kernel⟩
theorem ok_due {f : Addr} {fd : FuncData} (F : Fun K "_law_due" "_law_due" sDue f fd) (T : TxtB mg) : FnOk P w K mg base CX0 1 f fd ["_law_cases"] (spLDue K) := by
  refine F.okQ scDue (fun vs H Q E h => ?_) (fun cdv A outer s H vs Q E hr h => ?_)
  · obtain ⟨l, ws, Z, rfl, _⟩ := h
    rfl
  · obtain ⟨l, ws, Z, rfl, hl, hC, hZ, q⟩ := h
    refine ⟨_, (qss_cons (qs_if (qt_cmpR (op_eqD hr.units) (qv 0) (qe_lst qa_nil) (nomark _)) (qss_one (qs_ret (qe_tup (qac qe_str qa_nil)))) qss_nil)
      (qss_cons (qs_for PassesOwn.never rfl (qi_list (qv 0)) (qg_tup rfl (qgs_cons (qg_name (i := 1) scDue.nd rfl (Or.inl rfl)) (qgs_cons (qg_name (i := 2) scDue.nd rfl (Or.inl rfl)) qgs_nil)))
        (qss_one (qs_if (qt_cmpR op_ne (qv 2) (qe_ix ix_tup (qe_ix ix_list (qv 0) qe_int (fun _ _ => rfl)) qe_int (fun _ _ => rfl)) (nomark _)) (qss_one (qs_ret (qe_op op_catT (qe_op op_catT (qe_tup (qac qe_str qa_nil)) (qe_ix ix_list (qv 0) qe_int (fun _ _ => rfl))) (qe_tup (qac (qv 1) (qac (qv 2) qa_nil)))))) qss_nil)))
      (qss_one (qs_ret (qe_tup (qac qe_str (qac (qe_ix ix_tup (qe_ix ix_list (qv 0) qe_int (fun _ _ => rfl)) qe_int (fun _ _ => rfl)) qa_nil))))))), ?_⟩
    refine ⟨_, rfl, by show 0 ≤ sizeLine; decide, fun m hm => ?_⟩
    have w1 := same_new (o := .lst []) hm
    have hl1 := w1 _ _ hl
    have hC1 := hC.sm w1
    refine ⟨dCa Z, .list [], by simp only [dCa, IsD]; exact ⟨l, _, rfl, SqL.of hl1, ca_isDs hC1⟩, by simp only [IsD]; exact ⟨m, _, rfl, SqL.of upd_same, by simp [IsDs]⟩, ca_shaped Z, rfl, _, rfl, ?_⟩
    have hwl := hC.len
    match Z, hC, hC1, hZ, q, hwl with
    | [], hC, hC1, hZ, q, hwl =>
      refine iteT ⟨by show 1 ≤ sizeLine; decide, fun t ht => q _ _ (w1.trans (same_new ht)) ⟨t, rfl, upd_same⟩⟩
    | x :: Z', hC, hC1, hZ, q, hwl =>
      rw [show PyData.eqv (dCa (x :: Z')) (.list []) = false by simp [dCa, PyData.eqv, PyData.eqvAll]]
      refine iteF ?_
      generalize hZe : x :: Z' = Z at hC hC1 hZ q hwl
      have h0 : Z[0]? = some x := by rw [← hZe]; rfl
      generalize upd H m (.lst []) = H1 at w1 hl1 hC1 ⊢
      have hpos : 0 < ws.length := by rw [hwl, ← hZe]; exact Nat.succ_pos _
      obtain ⟨u0, d0, z0, eu0, ez0, hu0, hd0⟩ := hC1.get (i := 0) (v := ws[0]) (List.getElem?_eq_getElem hpos)
      rw [h0] at ez0
      cases ez0
      have hw0 : atI ws 0 = some (.ref u0) := atI_nat (j := 0) (by rw [List.getElem?_eq_getElem hpos, eu0])
      refine ⟨_, rfl, l, rfl, ⟨_, SqL.of hl1⟩, for_list (K := K) (xs := ws) (fun i σ H2 => Same H1 H2 ∧ (∃ x1 x2, σ = [some (.ref l), x1, x2]) ∧ (Z.take i).find? (fun y => decide (y.2 ≠ x.2)) = none) ⟨Same.refl _, ⟨none, none, rfl⟩, rfl⟩ (fun i σ H2 _ ⟨e, _⟩ => SqL.of (e _ _ hl1)) ?_ ?_⟩
      · rintro i v σ H2 hi ⟨s2, ⟨x1, x2, rfl⟩, hf⟩
        obtain ⟨u, d, y, rfl, hy, hu, hd⟩ := (hC1.sm s2).get hi
        refine ⟨u, _, rfl, SqT.of hu, rfl, _, _, rfl, _, _, rfl, rfl, ?_⟩
        refine ⟨_, rfl, _, rfl, l, _, 0, _, rfl, rfl, SqL.of (s2 _ _ hl1), hw0, u0, _, 1, _, rfl, rfl, SqT.of (s2 _ _ hu0), rfl, rfl, _, rfl, ?_⟩
        by_cases hne : y.2 ≠ x.2
        · refine niT (show ((y.2 : Nat) : Int) ≠ ((x.2 : Nat) : Int) by omega) ?_
          refine ⟨by show 1 ≤ sizeLine; decide, fun e he => ⟨_, rfl, l, _, 0, _, rfl, rfl, SqL.of ((s2.trans (same_new he)) _ _ hl1), hw0, e, u0, _, _, rfl, rfl, SqT.of upd_same, SqT.of ((s2.trans (same_new he)) _ _ hu0), by simp, by show 3 ≤ sizeLine; decide, (fun z => by cases z), fun _ e2 he2 => ?_⟩⟩
          have v2 := same_new (o := .tup [V.str "unlike"]) he
          have v3 := same_new (o := .tup ([V.str "unlike"] ++ [V.ref d0, V.int ((x.2 : Nat) : Int)])) he2
          refine ⟨_, rfl, _, rfl, by show 2 ≤ sizeLine; decide, fun u2 hu2 => ?_⟩
          have v5 := same_new (o := .tup [V.ref d, V.int ((y.2 : Nat) : Int)]) hu2
          refine ⟨e2, u2, _, _, rfl, rfl, SqT.of (v5 _ _ upd_same), SqT.of upd_same, by simp, by show 5 ≤ sizeLine; decide, (fun z => by cases z), fun _ e3 he3 => ?_⟩
          have v6 := same_new (o := .tup ([V.str "unlike"] ++ [V.ref d0, V.int ((x.2 : Nat) : Int)] ++ [V.ref d, V.int ((y.2 : Nat) : Int)])) he3
          refine q _ _ (w1.trans (s2.trans (v2.trans (v3.trans (v5.trans v6))))) ?_
          rw [told_unlike h0 hf hy hne]
          exact ⟨e3, d0, d, rfl, upd_same, (s2.trans (v2.trans (v3.trans (v5.trans v6)))) _ _ hd0, (v2.trans (v3.trans (v5.trans v6))) _ _ hd, hZ x (List.mem_of_getElem? h0), hZ y (List.mem_of_getElem? hy)⟩
        · refine niF (show ((y.2 : Nat) : Int) = ((x.2 : Nat) : Int) by omega) ?_
          exact ⟨s2, ⟨_, _, rfl⟩, find_snoc hf hy hne⟩
      · rintro σ H2 ⟨s2, ⟨x1, x2, rfl⟩, hf⟩
        rw [hwl, List.take_length] at hf
        refine ⟨_, rfl, l, _, 0, _, rfl, rfl, SqL.of (s2 _ _ hl1), hw0, u0, _, 1, _, rfl, rfl, SqT.of (s2 _ _ hu0), rfl, by show 2 ≤ sizeLine; decide, fun r hr' => ?_⟩
        refine q _ _ (w1.trans (s2.trans (same_new hr'))) ?_
        rw [told_same h0 hf]
        exact ⟨r, rfl, upd_same⟩
def LayG (H : Hp) (Q : V → Hp → Prop) : Prop := ∀ (t l : Addr) (m : Nat) (ws : List V) (bs : List (List Nat)) (H' : Hp), Same H H' → H' t = some (.tup [.int (m : Nat), .ref l]) → H' l = some (.tup ws) → TpAt H' ws bs → 1 ≤ m → m ≤ 21 → bs.length ≤ 60 → (∀ b ∈ bs, Blk m b) → Q (.ref t) H'
def spGreat (K : PySem.W.Frag) : Sp := fun vs H Q _ => ∃ (a : Addr) (ns : List Int) (k : Nat), vs = [.ref a, .int (k : Int)] ∧ SqL K H a (ns.map V.int) ∧ k ≤ 900 ∧ LayG H Q
theorem scLGreat : FnScope ["_law_script", "_law_at", "_law_x", "_law_many"] ["_law_script", "_law_at"] (defScope sLGreat) := ⟨rfl, rfl, rfl, by decide +kernel, rfl, by decide +kernel, by decide +kernel⟩
theorem ok_great {f : Addr} {fd : FuncData} (F : Fun K "_law_great" "_law_great" sLGreat f fd) (T : TxtB mg) (pCell : Pm P w K mg base CX0 1 "_law_cell" ["_law_script", "_law_k"] (spCell2 K)) (pLNumbers : Pm P w K mg base CX0 1 "_law_numbers" ["_law_cell_here", "_law_many"] spNums) (pLTurnedBase : Pm P w K mg base CX0 1 "_law_turned_base" ["_law_base", "_law_many"] (spTBase K)) (pLOfSize : Pm P w K mg base CX0 1 "_law_of_size" ["_law_x", "_law_many", "_law_size"] spOfSize) : FnOk P w K mg base CX0 2 f fd ["_law_script", "_law_at"] (spGreat K) := by
  refine F.okQ scLGreat (fun vs H Q E h => ?_) (fun cdv A outer s H vs Q E hr1 h => ?_)
  · obtain ⟨a, ns, k, rfl, _⟩ := h
    rfl
  · obtain ⟨a, sn, k, rfl, hS, hk, q⟩ := h
    refine ⟨_, (qss_cons (qs_set (i := 2) scLGreat.nd rfl (Or.inl rfl) (qe_callP pLNumbers hr1 rfl pass0 (qac (qe_callP pCell hr1 rfl pass0 (qac (qv 0) (qac (qv 1) qa_nil))) (qac qe_int qa_nil))))
      (qss_cons (qs_set (i := 3) scLGreat.nd rfl (Or.inl rfl) (qe_ix ix_list (qe_lst (qac qe_int (qac qe_int (qac qe_int (qac qe_int qa_nil))))) (qe_op op_mod (qe_ix ix_list (qv 2) qe_int (fun _ _ => rfl)) qe_int) (fun _ _ => rfl)))
      (qss_one (qs_ret (qe_tup (qac (qv 3) (qac (qe_callTy call_tuple_of (by rfl) T.tup (by decide +kernel) (qac (qe_callP pLTurnedBase hr1 rfl pass0 (qac (qe_callP pLOfSize hr1 rfl pass0 (qac (qe_ix ix_list (qv 2) qe_int (fun _ _ => rfl)) (qac (qv 3) (qac (qe_op op_add qe_int (qe_op op_mod (qe_ix ix_list (qv 2) qe_int (fun _ _ => rfl)) qe_int)) qa_nil)))) (qac (qv 3) qa_nil))) qa_nil)) qa_nil))))))), ?_⟩
    refine ⟨_, rfl, _, rfl, a, sn, k, rfl, hS, by omega, fun c1 H1 s1 => ⟨c1, 4, rfl, by decide, fun lx ns H2 hlx s2 hx2 hn hns => ?_⟩⟩
    obtain ⟨x0, a0, _⟩ := at_ok (ns := ns) (i := 0) (by omega)
    obtain ⟨x1, a1, hx1⟩ := at_ok (ns := ns) (i := 1) (by omega)
    obtain ⟨x2, a2, _⟩ := at_ok (ns := ns) (i := 2) (by omega)
    have hx10 := (hns x1 hx1).1
    have e1 := Int.emod_nonneg x2 (show (4 : Int) ≠ 0 by decide)
    obtain ⟨m, hm, hm1, hm21⟩ : ∃ m : Nat, atI [V.int 10, V.int 13, V.int 16, V.int 21] (x0 % 4) = some (.int (m : Nat)) ∧ 1 ≤ m ∧ m ≤ 21 := by
      have h1 := Int.emod_nonneg x0 (show (4 : Int) ≠ 0 by decide)
      have h2 := Int.emod_lt_of_pos x0 (show (0 : Int) < 4 by decide)
      obtain h | h | h | h : x0 % 4 = 0 ∨ x0 % 4 = 1 ∨ x0 % 4 = 2 ∨ x0 % 4 = 3 := by omega
      · exact ⟨10, by rw [h]; rfl, by decide, by decide⟩
      · exact ⟨13, by rw [h]; rfl, by decide, by decide⟩
      · exact ⟨16, by rw [h]; rfl, by decide, by decide⟩
      · exact ⟨21, by rw [h]; rfl, by decide, by decide⟩
    refine ⟨by show 4 ≤ sizeLine; decide, fun b hb => ?_⟩
    have w3 := same_new (o := .lst [.int 10, .int 13, .int 16, .int 21]) hb
    have hx3 := w3 _ _ hx2
    refine ⟨_, rfl, lx, _, 0, .int x0, rfl, rfl, SqL.of hx3, a0, _, _, rfl, rfl, (by decide : (0 : Int) < 4), b, _, _, _, rfl, rfl, SqL.of upd_same, hm, ?_⟩
    refine ⟨_, rfl, _, rfl, lx, _, 1, .int x1, rfl, rfl, SqL.of hx3, a1, _, rfl, _, rfl, lx, _, 2, .int x2, rfl, rfl, SqL.of hx3, a2, _, _, rfl, rfl, (by decide : (0 : Int) < 4), _, _, rfl, rfl, x1, m, _, rfl, hx10, by omega, by omega, fun t4 b4 H4 ht4 s4 h4 hb4 => ?_⟩
    refine ⟨_, rfl, t4, b4, m, rfl, .inr h4, hb4, by omega, hm21, fun l5 ws bs H5 hl5 s5 h5 hT5 hlen5 hB5 => ?_⟩
    refine ⟨l5, ws, rfl, .inl ⟨SqL.of h5, fun t6 ht6 => ⟨by show 2 ≤ sizeLine; decide, fun u hu => ?_⟩⟩⟩
    have w6 := same_new (o := .tup ws) ht6
    have w7 := same_new (o := .tup [.int (m : Nat), .ref t6]) hu
    exact q u t6 m ws bs _ (s1.trans (s2.trans (w3.trans (s4.trans (s5.trans (w6.trans w7)))))) upd_same (w7 _ _ upd_same) (hT5.sm (w6.trans w7)) hm1 hm21 hlen5 hB5
/-- cases with their counts, gathered in one list -/
def AcN (g : List Nat → Nat) (H1 : Hp) (c : Addr) (L : List (List Nat)) (H : Hp) : Prop := Same H1 H ∧ ∃ ws, H c = some (.lst ws) ∧ CaAt H ws (zof g L)
theorem AcN.up {g : List Nat → Nat} {H1 H H' : Hp} {c : Addr} {L : List (List Nat)} (A : AcN g H1 c L H) (s : Same H H') : AcN g H1 c L H' := by
  obtain ⟨s1, ws, h1, h2⟩ := A
  exact ⟨s1.trans s, ws, s _ _ h1, h2.sm s⟩
theorem AcN.put {g : List Nat → Nat} {H1 H : Hp} {c u d : Addr} {L : List (List Nat)} {p : List Nat} {ws : List V} (hc1 : H1 c = none) (hs : Same H1 H) (hc : H c = some (.lst ws)) (hC : CaAt H ws (zof g L)) (hu : H u = some (.tup [.ref d, .int ((g p : Nat) : Int)])) (hd : H d = some (.tup (nats p))) : AcN g H1 c (L ++ [p]) (upd H c (.lst (ws ++ [.ref u]))) := by
  have keep : ∀ a xs, H a = some (.tup xs) → upd H c (.lst (ws ++ [.ref u])) a = some (.tup xs) := fun a xs ha => by
    rw [upd_ne (fun z => by rw [z, hc] at ha; cases ha)]
    exact ha
  refine ⟨same_upd hs hc1, _, upd_same, ?_⟩
  have : zof g (L ++ [p]) = zof g L ++ [(p, g p)] := by
    unfold zof
    rw [List.map_append]
    rfl
  rw [this]
  exact (hC.tups keep).snoc (z := (p, g p)) (keep _ _ hu) (keep _ _ hd)
def spLTri (g : List (List Nat) → List Nat → Nat) (L : Nat → List (List Nat) → List (List Nat)) : Sp := fun vs H Q _ => ∃ (t : Addr) (m : Nat) (bs : List (List Nat)), vs = [.ref t] ∧ LayA H t m bs ∧ m ≤ 21 ∧ bs.length ≤ 60 ∧ (∀ b ∈ bs, Blk m b) ∧ ∀ (l : Addr) (ws : List V) (H' : Hp), Same H H' → H' l = some (.lst ws) → CaAt H' ws (zof (g bs) (L m bs)) → Q (.ref l) H'
theorem scLTriples : FnScope ["_law_layout_here", "_law_cases", "_law_c", "_law_b", "_law_a", "_law_many"] ["_law_layout_here"] (defScope sLTriples) := ⟨rfl, rfl, rfl, by decide +kernel, rfl, by decide +kernel, by decide +kernel⟩
theorem ok_ltri {f : Addr} {fd : FuncData} (F : Fun K "_law_triples" "_law_triples" sLTriples f fd) (T : TxtB mg) : FnOk P w K mg base CX0 1 f fd ["_law_layout_here"] (spLTri cnt fun m _ => tri m m) := by
  refine F.okQ scLTriples (fun vs H Q E h => ?_) (fun cdv A outer s H vs Q E hr h => ?_)
  · obtain ⟨t, m, bs, rfl, _⟩ := h
    rfl
  · obtain ⟨t, m, bs, rfl, ⟨lb, wb, ht, hlb, hT, hn⟩, hm, hn60, hb, q⟩ := h
    refine ⟨_, (qss_cons (qs_set (i := 1) scLTriples.nd rfl (Or.inl rfl) (qe_lst qa_nil))
      (qss_cons (qs_for PassesOwn.never rfl (qi_range1 rfl T.range (qac (qe_ix ix_tup (qv 0) qe_int (fun _ _ => rfl)) qa_nil)) (qg_name (i := 2) scLTriples.nd rfl (Or.inr rfl))
        (qss_one (qs_for PassesOwn.never rfl (qi_range1 rfl T.range (qac (qv 2) qa_nil)) (qg_name (i := 3) scLTriples.nd rfl (Or.inr rfl))
          (qss_one (qs_for PassesOwn.never rfl (qi_range1 rfl T.range (qac (qv 3) qa_nil)) (qg_name (i := 4) scLTriples.nd rfl (Or.inr rfl))
            (qss_cons (qs_set (i := 5) scLTriples.nd rfl (Or.inl rfl) (qe_callB call_len_seq (by rfl) T.len PySem.boot_len (qac (qe_comp (g := gName 0) (N := ["_law_block", "_law_c", "_law_b", "_law_a"]) (src := [none, some 2, some 3, some 4]) rfl (comp_scope (defScope sLTriples) ["_law_layout_here", "_law_cases", "_law_c", "_law_b", "_law_a", "_law_many"] rfl rfl (by decide +kernel) rfl) (qi_tup (qe_ix ix_tup (qv 0) qe_int (fun _ _ => rfl))) (fun _ _ _ _ _ => (qg_name (i := 0) (show (["_law_block", "_law_c", "_law_b", "_law_a"] : List Str).Nodup by decide +kernel) rfl (Or.inl rfl) (Or.inr rfl))) (fun _ _ _ _ _ => (qif_one (QW.pt (qw_and (qt_cmpR (show OpR _ _ (rIn K false) from op_in_seq) (qv 3) (qv 0) rfl) (qw_and (qt_cmpR (show OpR _ _ (rIn K false) from op_in_seq) (qv 2) (qv 0) rfl) (qw_and1 (qt_cmpR (show OpR _ _ (rIn K false) from op_in_seq) (qv 1) (qv 0) rfl))))))) (fun _ _ _ _ _ => (qv 0))) qa_nil)))
            (qss_one (qs_expr (qe_bm PySem.F.plainAttrs_list PySem.F.slot_list_append PySem.F.type_list_append mt_append (qv 1) (qac (qe_tup (qac (qe_tup (qac (qv 4) (qac (qv 3) (qac (qv 2) qa_nil)))) (qac (qv 5) qa_nil))) qa_nil))))))))))
      (qss_one (qs_ret (qe_callB (call_sortN hr.units) (by rfl) T.sor (by decide +kernel) (qac (qv 1) qa_nil)))))), ?_⟩
    have hwl := hT.len
    refine ⟨by show 0 ≤ sizeLine; decide, fun cl hcl => ?_⟩
    have w1 := same_new (o := .lst []) hcl
    have A0 : AcN (cnt bs) H cl (trl 0) (upd H cl (.lst [])) := ⟨w1, [], upd_same, trivial⟩
    refine ⟨_, rfl, t, _, 0, .int (m : Nat), rfl, rfl, SqT.of (w1 _ _ ht), rfl, (m : Int), rfl, by omega, by omega, for_range (lo := 0) (n := m) (fun i σ H2 => AcN (cnt bs) H cl (trl i) H2 ∧ ∃ x2 x3 x4 x5, σ = [some (.ref t), some (.ref cl), x2, x3, x4, x5]) ⟨A0, none, none, none, none, rfl⟩ ?_ ?_⟩
    · rintro c σ H2 hc ⟨A2, x2, x3, x4, x5, rfl⟩
      rw [Int.zero_add]
      have hlc := trl_len' c (by omega)
      refine ⟨_, rfl, (c : Int), rfl, by omega, by omega, for_range (lo := 0) (n := c) (fun i σ H3 => AcN (cnt bs) H cl (trl c ++ trlB c i) H3 ∧ ∃ x3 x4 x5, σ = [some (.ref t), some (.ref cl), some (.int (c : Nat)), x3, x4, x5]) ⟨by rw [show trlB c 0 = [] from rfl, List.append_nil]; exact A2, x3, x4, x5, rfl⟩ ?_ ?_⟩
      · rintro b σ H3 hbc ⟨A3, x3, x4, x5, rfl⟩
        rw [Int.zero_add]
        have hlb2 := trlB_len (c := c) b (by omega)
        refine ⟨_, rfl, (b : Int), rfl, by omega, by omega, for_range (lo := 0) (n := b) (fun i σ H4 => AcN (cnt bs) H cl (trl c ++ trlB c b ++ trlA b c i) H4 ∧ ∃ x4 x5, σ = [some (.ref t), some (.ref cl), some (.int (c : Nat)), some (.int (b : Nat)), x4, x5]) ⟨by rw [show trlA b c 0 = [] from rfl, List.append_nil]; exact A3, x4, x5, rfl⟩ ?_ ?_⟩
        · rintro a σ H4 hab ⟨A4, x4, x5, rfl⟩
          rw [Int.zero_add]
          have hll : (trl c ++ trlB c b ++ trlA b c a).length ≤ 20000 := by
            rw [List.length_append, List.length_append, trlA_len]
            omega
          refine ⟨_, rfl, t, _, 1, .ref lb, rfl, rfl, SqT.of (A4.1 _ _ ht), rfl, lb, rfl, ⟨_, SqT.of (A4.1 _ _ hlb)⟩, comp_tup (K := K) (xs := wb) (fun i zs H5 => H5 = H4 ∧ zs.length = cnt (bs.take i) [a, b, c]) ⟨rfl, rfl⟩ (fun i zs H5 _ ⟨e, _⟩ => SqT.of (e ▸ A4.1 _ _ hlb)) ?_ ?_⟩
          · rintro i v zs H5 N hi ⟨rfl, hz⟩ nx
            obtain ⟨d, blk, rfl, hbs, hd⟩ := (hT.sm A4.1).get hi
            have hil : i < bs.length := (List.getElem?_eq_some_iff.mp hbs).1
            have e := cnt_snoc (bs.take i) blk [a, b, c]
            rw [← take_snoc hbs] at e
            have hcl2 := cnt_le (bs.take i) [a, b, c]
            rw [List.length_take] at hcl2
            have no : ∀ {N' : Prop}, ¬ (a ∈ blk ∧ b ∈ blk ∧ c ∈ blk) → (Same H5 H5 → zs.length = cnt (bs.take (i + 1)) [a, b, c] → N') → N' := fun hno k => by
              rw [if_neg (by simpa using hno)] at e
              exact k (Same.refl _) (by rw [hz, e]; rfl)
            refine ⟨Weak.set (by intro v z; cases z), ⟨_, rfl, _, rfl, d, nats blk, rfl, .inr (SqT.of hd), rfl, flat_nats blk, _, rfl, ?_⟩⟩
            rw [if_neg (by decide), inV_nats]
            by_cases h1 : a ∈ blk
            · rw [decide_eq_true h1]
              refine iteT ⟨_, rfl, _, rfl, d, nats blk, rfl, .inr (SqT.of hd), rfl, flat_nats blk, _, rfl, ?_⟩
              rw [if_neg (by decide), inV_nats]
              by_cases h2 : b ∈ blk
              · rw [decide_eq_true h2]
                refine iteT ⟨_, rfl, _, rfl, d, nats blk, rfl, .inr (SqT.of hd), rfl, flat_nats blk, _, rfl, ?_⟩
                rw [if_neg (by decide), inV_nats]
                by_cases h3 : c ∈ blk
                · rw [decide_eq_true h3]
                  rw [if_pos (by simp [h1, h2, h3])] at e
                  refine iteT ⟨_, rfl, ?_, nx _ _ ⟨rfl, ?_⟩⟩
                  · rw [hz]
                    exact Nat.lt_of_le_of_lt (show _ ≤ 60 by omega) (by decide)
                  · rw [List.length_append, hz, e]
                    rfl
                · rw [decide_eq_false h3]
                  exact iteF (no (fun z => h3 z.2.2) fun _ z => nx _ _ ⟨rfl, z⟩)
              · rw [decide_eq_false h2]
                exact iteF (iteF (no (fun z => h2 z.2.1) fun _ z => nx _ _ ⟨rfl, z⟩))
            · rw [decide_eq_false h1]
              exact iteF (iteF (no (fun z => h1 z.1) fun _ z => nx _ _ ⟨rfl, z⟩))
          · rintro zs H5 ⟨rfl, hz⟩
            rw [hwl, List.take_length] at hz
            have hcl2 := cnt_le bs [a, b, c]
            refine ⟨by rw [hz]; exact Nat.le_trans (show _ ≤ 60 by omega) (by decide), fun r hr' => ⟨r, zs, rfl, .inl (SqL.of upd_same), ?_⟩⟩
            rw [hz]
            have v1 := same_new (o := .lst zs) hr'
            have A5 := A4.up v1
            generalize upd H5 r (.lst zs) = H6 at A5 ⊢
            obtain ⟨s6, ws, hc6, hC6⟩ := A5
            refine ⟨_, rfl, .inl ⟨rfl, _, SqL.of hc6⟩, _, rfl, _, rfl, _, rfl, by show 3 ≤ sizeLine; decide, fun d hd => ⟨_, rfl, by show 2 ≤ sizeLine; decide, fun u hu => ?_⟩⟩
            have v2 := same_new (o := .tup [V.int (a : Nat), V.int (b : Nat), V.int (c : Nat)]) hd
            have v3 := same_new (o := .tup [V.ref d, V.int ((cnt bs [a, b, c] : Nat) : Int)]) hu
            have v23 := v2.trans v3
            refine ⟨cl, ws, .ref u, rfl, rfl, v23 _ _ hc6, ?_, ?_⟩
            · rw [hC6.len]
              unfold zof
              rw [List.length_map]
              exact Nat.lt_of_le_of_lt hll (by decide)
            · refine ⟨?_, _, _, rfl⟩
              rw [trlA_snoc, ← List.append_assoc]
              exact AcN.put (p := [a, b, c]) hcl (s6.trans v23) (v23 _ _ hc6) (hC6.sm v23) upd_same (v3 _ _ upd_same)
        · rintro σ H4 ⟨A4, x4, x5, rfl⟩
          rw [List.append_assoc, ← trlB_snoc] at A4
          exact ⟨A4, _, _, _, rfl⟩
      · rintro σ H3 ⟨A3, x3, x4, x5, rfl⟩
        rw [← trl_snoc] at A3
        exact ⟨A3, _, _, _, _, rfl⟩
    · rintro σ H2 ⟨⟨s2, ws, hc2, hC2⟩, x2, x3, x4, x5, rfl⟩
      have hzl : (zof (cnt bs) (trl m)).length = (trl m).length := by unfold zof; rw [List.length_map]
      have hz4 := trl_len hm
      have hws := hC2.len
      refine ⟨_, rfl, cl, ws, _, rfl, SqL.of hc2, hC2, by omega, fun l idx hl hix hsr => ?_⟩
      have w3 := same_new (o := .lst (idx.map fun i => ws.getD i .non)) hl
      have hil : idx.length = (zof (cnt bs) (trl m)).length := by rw [hix.length_eq, List.length_range]
      have hperm : (idx.map fun i => (zof (cnt bs) (trl m)).getD i ([], 0)).Perm (zof (cnt bs) (tri m m)) := (zidx_perm hix).trans ((trl_perm m).map _)
      have hes : (idx.map fun i => (zof (cnt bs) (trl m)).getD i ([], 0)) = zof (cnt bs) (tri m m) := by
        refine ns_uniq hperm (ns_adj (R := NLe) (fun _ _ _ => NLe.trans) _ fun i hi => ?_) (List.Perm.refl _) (zof_up _ m)
        rw [List.length_map] at hi
        have := hsr i (by omega)
        unfold NLe
        have e1 : idx.getD (i + 1) 0 = idx[i + 1] := by simp [hi]
        have e2 : idx.getD i 0 = idx[i]'(by omega) := by simp [show i < idx.length by omega]
        rw [e1, e2] at this
        rw [List.getElem_map, List.getElem_map]
        exact this
      have hCi := (ca_idx hC2 fun i hi => List.mem_range.mp (hix.mem_iff.mp hi)).sm w3
      rw [hes] at hCi
      exact q l _ _ (s2.trans w3) upd_same hCi
theorem nodup_castN {b : List Nat} (h : b.Nodup) : (b.map fun p => ((p : Nat) : Int)).Nodup := by
  rw [List.nodup_iff_pairwise_ne] at h ⊢
  rw [List.pairwise_map]
  exact h.imp fun hn z => hn (by omega)
def nearL (p : Nat) (bk : List Nat) (bs : List (List Nat)) : List Nat := (bs.filter fun b => decide (p ∈ b)).flatMap fun b => bk.filter fun o => decide (o ∈ b)
theorem near_snoc (p : Nat) (bk : List Nat) (bs : List (List Nat)) (b : List Nat) : nearL p bk (bs ++ [b]) = nearL p bk bs ++ if p ∈ b then bk.filter (fun o => decide (o ∈ b)) else [] := by
  unfold nearL
  rw [List.filter_append, List.flatMap_append, List.filter_cons, List.filter_nil]
  by_cases h : p ∈ b
  · rw [if_pos (decide_eq_true h), if_pos h, List.flatMap_cons, List.flatMap_nil, List.append_nil]
  · rw [if_neg (by simpa using h), if_neg h, List.flatMap_nil]
theorem near_mem {p x : Nat} {bk : List Nat} {bs : List (List Nat)} : x ∈ nearL p bk bs ↔ x ∈ bk.filter fun o => decide (o ∈ bsd p bs) := by
  unfold nearL
  simp only [List.mem_flatMap, List.mem_filter, decide_eq_true_eq, bsd_mem]
  constructor
  · rintro ⟨b, ⟨h1, h2⟩, h3, h4⟩
    exact ⟨h3, b, h1, h2, h4⟩
  · rintro ⟨h3, b, h1, h2, h4⟩
    exact ⟨b, ⟨h1, h2⟩, h3, h4⟩
theorem near_len {p : Nat} {bk : List Nat} (hk : bk.length ≤ 21) : ∀ bs : List (List Nat), (nearL p bk bs).length ≤ 21 * bs.length
  | [] => by simp [nearL]
  | b :: bs => by
    have ih := near_len (p := p) hk bs
    have hf := List.length_filter_le (fun o => decide (o ∈ b)) bk
    unfold nearL at ih ⊢
    rw [List.filter_cons, List.length_cons]
    by_cases hp : p ∈ b
    · rw [if_pos (by simp [hp]), List.flatMap_cons, List.length_append]
      omega
    · rw [if_neg (by simp [hp])]
      omega
theorem near_card {p : Nat} {bk : List Nat} {bs : List (List Nat)} (hk : bk.Nodup) {M : List Int} (hM : M.Nodup) (hm : ∀ x, x ∈ M ↔ x ∈ (nearL p bk bs).map fun o => ((o : Nat) : Int)) : M.length = (bk.filter fun o => decide (o ∈ bsd p bs)).length := by
  have h1 : ((bk.filter fun o => decide (o ∈ bsd p bs)).map fun o => ((o : Nat) : Int)).Nodup := nodup_castN (hk.sublist List.filter_sublist)
  have h2 : M.Perm ((bk.filter fun o => decide (o ∈ bsd p bs)).map fun o => ((o : Nat) : Int)) := (List.perm_ext_iff_of_nodup hM h1).mpr fun x => by
    rw [hm]
    simp only [List.mem_map, near_mem]
  rw [h2.length_eq, List.length_map]
theorem scLFlags : FnScope ["_law_layout_here", "_law_cases", "_law_point", "_law_k", "_law_near", "_law_block"] ["_law_layout_here"] (defScope sLFlags) := ⟨rfl, rfl, rfl, by decide +kernel, rfl, by decide +kernel, by decide +kernel⟩
theorem ok_lflags {f : Addr} {fd : FuncData} (F : Fun K "_law_flags" "_law_flags" sLFlags f fd) (T : TxtB mg) : FnOk P w K mg base CX0 1 f fd ["_law_layout_here"] (spLTri gF fun m bs => flg bs m) := by
  refine F.okQ scLFlags (fun vs H Q E h => ?_) (fun cdv A outer s H vs Q E hr h => ?_)
  · obtain ⟨t, m, bs, rfl, _⟩ := h
    rfl
  · obtain ⟨t, m, bs, rfl, ⟨lb, wb, ht, hlb, hT, hn⟩, hm, hn60, hb, q⟩ := h
    refine ⟨_, (qss_cons (qs_set (i := 1) scLFlags.nd rfl (Or.inl rfl) (qe_lst qa_nil))
      (qss_cons (qs_for PassesOwn.never rfl (qi_range1 rfl T.range (qac (qe_ix ix_tup (qv 0) qe_int (fun _ _ => rfl)) qa_nil)) (qg_name (i := 2) scLFlags.nd rfl (Or.inl rfl))
        (qss_one (qs_for PassesOwn.never rfl (qi_range1 rfl T.range (qac (qe_callB call_len_seq (by rfl) T.len PySem.boot_len (qac (qe_ix ix_tup (qv 0) qe_int (fun _ _ => rfl)) qa_nil)) qa_nil)) (qg_name (i := 3) scLFlags.nd rfl (Or.inl rfl))
          (qss_cons (qs_set (i := 4) scLFlags.nd rfl (Or.inl rfl) (qe_lst qa_nil))
          (qss_cons (qs_for PassesOwn.never rfl (qi_tup (qe_ix ix_tup (qv 0) qe_int (fun _ _ => rfl))) (qg_name (i := 5) scLFlags.nd rfl (Or.inr rfl))
            (qss_one (qs_if (qt_cmpR op_in_seq (qv 2) (qv 5) rfl) (qss_one (qs_set (i := 4) scLFlags.nd rfl (Or.inl rfl) (qe_op op_cat (qv 4) (qe_comp (g := gName 0) (N := ["_law_other", "_law_block"]) (src := [none, some 5]) rfl (comp_scope (defScope sLFlags) ["_law_layout_here", "_law_cases", "_law_point", "_law_k", "_law_near", "_law_block"] rfl rfl (by decide +kernel) rfl) (qi_tup (qe_ix ix_tup (qe_ix ix_tup (qv 0) qe_int (fun _ _ => rfl)) (qv 3) (fun _ _ => rfl))) (fun _ _ _ _ _ => (qg_name (i := 0) (show (["_law_other", "_law_block"] : List Str).Nodup by decide +kernel) rfl (Or.inl rfl) (Or.inr rfl))) (fun _ _ _ _ _ => (qif_one (qt_cmpR (show OpR _ _ (rIn K false) from op_in_seq) (qv 0) (qv 1) rfl))) (fun _ _ _ _ _ => (qv 0)))))) qss_nil)))
          (qss_one (qs_if (qt_cmpR op_notIn_seq (qv 2) (qe_ix ix_tup (qe_ix ix_tup (qv 0) qe_int (fun _ _ => rfl)) (qv 3) (fun _ _ => rfl)) rfl) (qss_one (qs_expr (qe_bm PySem.F.plainAttrs_list PySem.F.slot_list_append PySem.F.type_list_append mt_append (qv 1) (qac (qe_tup (qac (qe_tup (qac (qv 2) (qac (qv 3) qa_nil))) (qac (qe_callB call_len_setI (by rfl) T.len PySem.boot_len (qac (qe_callTy (call_setC rfl) (by rfl) T.set (by decide +kernel) (qac (qv 4) qa_nil)) qa_nil)) qa_nil))) qa_nil)))) qss_nil)))))))
      (qss_one (qs_ret (qv 1))))), ?_⟩
    have hwl := hT.len
    refine ⟨by show 0 ≤ sizeLine; decide, fun cl hcl => ?_⟩
    have w1 := same_new (o := .lst []) hcl
    have A0 : AcN (gF bs) H cl (flg bs 0) (upd H cl (.lst [])) := ⟨w1, [], upd_same, trivial⟩
    refine ⟨_, rfl, t, _, 0, .int (m : Nat), rfl, rfl, SqT.of (w1 _ _ ht), rfl, (m : Int), rfl, by omega, by omega, for_range (lo := 0) (n := m) (fun i σ H2 => AcN (gF bs) H cl (flg bs i) H2 ∧ ∃ x2 x3 x4 x5, σ = [some (.ref t), some (.ref cl), x2, x3, x4, x5]) ⟨A0, none, none, none, none, rfl⟩ ?_ ?_⟩
    · rintro p σ H2 hp ⟨A2, x2, x3, x4, x5, rfl⟩
      rw [Int.zero_add]
      have hla := flg_len bs p
      have hla2 : (flg bs p).length ≤ 60 * 21 := Nat.le_trans hla (Nat.mul_le_mul hn60 (by omega))
      refine ⟨_, rfl, t, _, 1, .ref lb, rfl, rfl, SqT.of (A2.1 _ _ ht), rfl, lb, _, rfl, .inr (SqT.of (A2.1 _ _ hlb)), ((wb.length : Nat) : Int), rfl, by omega, by omega, for_range (lo := 0) (n := wb.length) (fun i σ H3 => AcN (gF bs) H cl (flg bs p ++ flK bs p i) H3 ∧ ∃ x3 x4 x5, σ = [some (.ref t), some (.ref cl), some (.int (p : Nat)), x3, x4, x5]) ⟨by rw [show flK bs p 0 = [] from rfl, List.append_nil]; exact A2, x3, x4, x5, rfl⟩ ?_ ?_⟩
      · rintro k σ H3 hk ⟨A3, x3, x4, x5, rfl⟩
        rw [Int.zero_add]
        obtain ⟨ak, bk, ewk, hbk, hak⟩ := hT.get (i := k) (v := wb[k]) (List.getElem?_eq_getElem hk)
        have hwk : atI wb ((k : Nat) : Int) = some (.ref ak) := atI_nat (by rw [List.getElem?_eq_getElem hk, ewk])
        have hbj : bs.getD k [] = bk := by rw [List.getD_eq_getElem?_getD, hbk]; rfl
        have hbB := hb bk (List.mem_of_getElem? hbk)
        have hbl := hbB.len
        refine ⟨by show 0 ≤ sizeLine; decide, fun ln hln => ?_⟩
        have v0 := same_new (o := .lst []) hln
        have A4 := A3.up v0
        refine ⟨_, rfl, t, _, 1, .ref lb, rfl, rfl, SqT.of (A4.1 _ _ ht), rfl, lb, rfl, ⟨_, SqT.of (A4.1 _ _ hlb)⟩, for_tup (K := K) (xs := wb) (fun i σ H5 => AcN (gF bs) H cl (flg bs p ++ flK bs p k) H5 ∧ ∃ (ln : Addr) (x5 : Option V), σ = [some (.ref t), some (.ref cl), some (.int (p : Nat)), some (.int (k : Nat)), some (.ref ln), x5] ∧ H5 ln = some (.lst (nats (nearL p bk (bs.take i))))) ⟨A4, ln, x5, rfl, upd_same⟩ (fun i σ H5 _ ⟨A5, _⟩ => SqT.of (A5.1 _ _ hlb)) ?_ ?_⟩
        · rintro i v σ H5 hi ⟨A5, ln, x5, rfl, hln5⟩
          obtain ⟨a, b, rfl, hbs, hab⟩ := (hT.sm A5.1).get hi
          have e := near_snoc p bk (bs.take i) b
          have hll := near_len (p := p) (bk := bk) (by omega) (bs.take i)
          rw [List.length_take] at hll
          refine ⟨_, rfl, _, rfl, a, _, rfl, .inr (SqT.of hab), rfl, flat_nats b, _, rfl, ?_⟩
          rw [if_neg (by decide), inV_nats]
          by_cases h : p ∈ b
          · rw [decide_eq_true h]
            rw [if_pos h] at e
            have hak5 := A5.1 _ _ hak
            refine iteT ⟨_, rfl, _, rfl, t, _, 1, .ref lb, rfl, rfl, SqT.of (A5.1 _ _ ht), rfl, _, rfl, lb, _, _, _, rfl, rfl, SqT.of (A5.1 _ _ hlb), hwk, ak, rfl, ⟨_, SqT.of hak5⟩, comp_tup (K := K) (xs := nats bk) (fun j zs H6 => H6 = H5 ∧ zs = nats ((bk.take j).filter fun o => decide (o ∈ b))) ⟨rfl, rfl⟩ (fun j zs H6 _ ⟨e, _⟩ => SqT.of (e ▸ hak5)) ?_ ?_⟩
            · rintro j x zs H6 N hj ⟨rfl, rfl⟩ nx
              obtain ⟨o, ho, rfl⟩ := L2.nats_get hj
              refine ⟨Weak.set (by intro v z; cases z), ⟨_, rfl, _, rfl, a, _, rfl, .inr (SqT.of hab), rfl, flat_nats b, _, rfl, ?_⟩⟩
              rw [if_neg (by decide), inV_nats]
              by_cases hh : o ∈ b
              · rw [decide_eq_true hh]
                refine iteT ⟨_, rfl, ?_, nx _ _ ⟨rfl, ?_⟩⟩
                · rw [nats_len]
                  exact Nat.lt_of_le_of_lt (List.length_filter_le ..) (by rw [List.length_take]; exact Nat.lt_of_le_of_lt (show _ ≤ 60 by omega) (by decide))
                · rw [take_snoc ho, List.filter_append, List.filter_cons, if_pos (by simp [hh]), List.filter_nil, nats_snoc]
              · rw [decide_eq_false hh]
                refine iteF (nx _ _ ⟨rfl, ?_⟩)
                rw [take_snoc ho, List.filter_append, List.filter_cons, if_neg (by simp [hh]), List.filter_nil, List.append_nil]
            · rintro zs H6 ⟨rfl, rfl⟩
              rw [nats_len bk, List.take_length]
              have hfl := List.length_filter_le (fun o => decide (o ∈ b)) bk
              refine ⟨by rw [nats_len]; exact Nat.le_trans (show _ ≤ 60 by omega) (by decide), fun r hr8 => ?_⟩
              have v8 := same_new (o := .lst (nats (bk.filter fun o => decide (o ∈ b)))) hr8
              refine ⟨ln, r, _, _, rfl, rfl, v8 _ _ hln5, upd_same, ?_, fun g hg => ?_⟩
              · rw [nats_len, nats_len]
                exact Nat.le_trans (show _ ≤ 2000 by omega) (by decide)
              have v9 := same_new (o := .lst (nats (nearL p bk (bs.take i)) ++ nats (bk.filter fun o => decide (o ∈ b)))) hg
              refine ⟨A5.up (v8.trans v9), g, _, rfl, ?_⟩
              rw [upd_same, take_snoc hbs, e]
              unfold nats
              rw [List.map_append]
          · rw [decide_eq_false h]
            rw [if_neg h, List.append_nil] at e
            exact iteF ⟨A5, ln, _, rfl, by rw [take_snoc hbs, e]; exact hln5⟩
        · rintro σ H5 ⟨A5, ln, x5, rfl, hln5⟩
          rw [hwl, List.take_length] at hln5
          have hll := near_len (p := p) (bk := bk) (by omega) bs
          have ef := flK_snoc bs p k
          rw [hbj] at ef
          have hlk := flK_len bs p k
          refine ⟨_, rfl, _, rfl, t, _, 1, .ref lb, rfl, rfl, SqT.of (A5.1 _ _ ht), rfl, _, rfl, lb, _, _, _, rfl, rfl, SqT.of (A5.1 _ _ hlb), hwk, ak, _, rfl, .inr (SqT.of (A5.1 _ _ hak)), rfl, flat_nats bk, _, rfl, ?_⟩
          rw [if_pos rfl, inV_nats]
          by_cases h : p ∈ bk
          · rw [decide_eq_true h]
            rw [if_neg (fun z => z h), List.append_nil] at ef
            exact iteF ⟨by rw [ef]; exact A5, _, _, _, rfl⟩
          · rw [decide_eq_false h]
            rw [if_pos h] at ef
            obtain ⟨s6, ws, hc6, hC6⟩ := id A5
            refine iteT ⟨_, rfl, .inl ⟨rfl, _, SqL.of hc6⟩, _, rfl, _, rfl, by show 2 ≤ sizeLine; decide, fun d hd => ?_⟩
            have v2 := same_new (o := .tup [V.int (p : Nat), V.int (k : Nat)]) hd
            refine ⟨_, rfl, ln, (nearL p bk bs).map fun o => ((o : Nat) : Int), rfl, SqL.of (by rw [← nats_ints]; exact v2 _ _ hln5), by rw [List.length_map]; omega, fun ls S Mm hls hnd hmem => ?_⟩
            have v3 := same_new (o := .set S Mm.length) hls
            refine ⟨ls, S, Mm.length, rfl, upd_same, by show 2 ≤ sizeLine; decide, fun u hu => ?_⟩
            have hcard : Mm.length = gF bs [p, k] := by
              rw [near_card hbB.nd hnd hmem]
              unfold gF
              show _ = ((bs.getD k []).filter fun o => decide (o ∈ bsd p bs)).length
              rw [hbj]
            rw [hcard] at v3 hu ⊢
            have v4 := same_new (o := .tup [V.ref d, V.int ((gF bs [p, k] : Nat) : Int)]) hu
            have v24 := v2.trans (v3.trans v4)
            refine ⟨cl, ws, .ref u, rfl, rfl, v24 _ _ hc6, ?_, ?_⟩
            · rw [hC6.len]
              unfold zof
              rw [List.length_map, List.length_append]
              exact Nat.lt_of_le_of_lt (show _ ≤ 20000 by omega) (by decide)
            · refine ⟨?_, _, _, _, rfl⟩
              rw [ef, ← List.append_assoc]
              exact AcN.put (p := [p, k]) hcl (s6.trans v24) (v24 _ _ hc6) (hC6.sm v24) upd_same ((v3.trans v4) _ _ upd_same)
      · rintro σ H3 ⟨A3, x3, x4, x5, rfl⟩
        rw [hwl, ← flg_snoc] at A3
        exact ⟨A3, _, _, _, _, rfl⟩
    · rintro σ H2 ⟨⟨s2, ws, hc2, hC2⟩, x2, x3, x4, x5, rfl⟩
      exact ⟨_, rfl, q cl ws H2 s2 hc2 hC2⟩
theorem rng_ok (L : Nat) : ∃ n : Nat, n ≤ 2 ∧ Builtin.Range.small 0 (if (if (8 : Int) < (L : Int) then 8 else (L : Int)) > 1 then (if (8 : Int) < (L : Int) then 8 else (L : Int)) else 1) 4 = true ∧ Builtin.Range.rangeSize 0 (if (if (8 : Int) < (L : Int) then 8 else (L : Int)) > 1 then (if (8 : Int) < (L : Int) then 8 else (L : Int)) else 1) 4 = (n : Int) := by
  have key : ∀ j : Fin 9, ∃ n : Fin 3, Builtin.Range.small 0 ((j.val : Nat) : Int) 4 = true ∧ Builtin.Range.rangeSize 0 ((j.val : Nat) : Int) 4 = ((n.val : Nat) : Int) := by decide
  obtain ⟨j, hj, h12⟩ : ∃ j : Nat, (if (if (8 : Int) < (L : Int) then 8 else (L : Int)) > 1 then (if (8 : Int) < (L : Int) then 8 else (L : Int)) else 1) = (j : Int) ∧ j < 9 := by
    by_cases h : (8 : Int) < (L : Int)
    · rw [if_pos h, if_pos (by decide)]
      exact ⟨8, rfl, by decide⟩
    · rw [if_neg h]
      by_cases h1 : (L : Int) > 1
      · rw [if_pos h1]
        exact ⟨L, rfl, by omega⟩
      · rw [if_neg h1]
        exact ⟨1, rfl, by decide⟩
  rw [hj]
  obtain ⟨n, h1, h2⟩ := key ⟨j, h12⟩
  exact ⟨n.val, by omega, h1, h2⟩
theorem scLaw : FnScope ["_law_script", "_law_at", "_law_layout_here"] ["_law_script"] (defScope sLaw) := ⟨rfl, rfl, rfl, by decide +kernel, rfl, by decide +kernel, by decide +kernel⟩
theorem ok_law {f : Addr} {fd : FuncData} (F : Fun K "law" "law" sLaw f fd) (T : TxtB mg) (pCell : Pm P w K mg base CX0 1 "_law_cell" ["_law_script", "_law_k"] (spCell2 K)) (pLNumbers : Pm P w K mg base CX0 1 "_law_numbers" ["_law_cell_here", "_law_many"] spNums) (pLLayout : Pm P w K mg base CX0 4 "_law_layout" ["_law_script", "_law_at"] (spLLayout K)) (pLGreat : Pm P w K mg base CX0 2 "_law_great" ["_law_script", "_law_at"] (spGreat K))
    (pTriplesTold : Pm P w K mg base CX0 3 "triples_told" ["M"] (spTri cnt fun m _ => tri m m)) (pFlagsTold : Pm P w K mg base CX0 3 "flags_told" ["M"] (spTri gF fun m bs => flg bs m)) (pLTriples : Pm P w K mg base CX0 1 "_law_triples" ["_law_layout_here"] (spLTri cnt fun m _ => tri m m)) (pLFlags : Pm P w K mg base CX0 1 "_law_flags" ["_law_layout_here"] (spLTri gF fun m bs => flg bs m)) (pDue : Pm P w K mg base CX0 1 "_law_due" ["_law_cases"] (spLDue K)) (pLIs : Pm P w K mg base CX0 3 "_law_is" ["_law_found", "_law_due_here"] (spIsR 2)) : FnOk P w K mg base CX0 12 f fd ["_law_script"] (spLaw K) := by
  refine F.okQ scLaw (fun vs H Q E h => ?_) (fun cdv A outer s H vs Q E hr h => ?_)
  · obtain ⟨a, ns, rfl, _⟩ := h
    rfl
  · obtain ⟨a, ns, rfl, hS, hns, k⟩ := h
    have hr1 := hr.mono (show 1 ≤ 11 by decide)
    have hr2 := hr.mono (show 2 ≤ 11 by decide)
    have hr3 := hr.mono (show 3 ≤ 11 by decide)
    have hr4 := hr.mono (show 4 ≤ 11 by decide)
    refine ⟨_, (qss_cons (qs_for PassesOwn.never rfl (qi_range3 rfl T.range (qac qe_int (qac (qe_callB (call_max2 rfl) (by rfl) T.max PyProof.Rows.boot_max (qac qe_int (qac (qe_callB (call_min2 rfl) (by rfl) T.min PyProof.Rows.boot_min (qac (qe_callB call_len_seq (by rfl) T.len PySem.boot_len (qac (qv 0) qa_nil)) (qac qe_int qa_nil))) qa_nil))) (qac qe_int qa_nil)))) (qg_name (i := 1) scLaw.nd rfl (Or.inl rfl))
        (qss_cons (qs_set (i := 2) scLaw.nd rfl (Or.inl rfl) (qe_callP pLLayout hr4 rfl pass0 (qac (qv 0) (qac (qv 1) qa_nil))))
        (qss_cons (qs_if (qt_cmpR op_eq (qe_op op_mod (qe_ix ix_list (qe_callP pLNumbers hr1 rfl pass0 (qac (qe_callP pCell hr1 rfl pass0 (qac (qv 0) (qac (qe_op op_add (qv 1) qe_int) qa_nil))) (qac qe_int qa_nil))) qe_int (fun _ _ => rfl)) qe_int) qe_int (nomark _)) (qss_one (qs_set (i := 2) scLaw.nd rfl (Or.inl rfl) (qe_callP pLGreat hr2 rfl pass0 (qac (qv 0) (qac (qe_op op_add (qv 1) qe_int) qa_nil))))) qss_nil)
        (qss_cons (qs_if (qt_not (qt_val (qe_callP pLIs hr3 rfl pass0 (qac (qe_callP pTriplesTold hr3 rfl pass0 (qac (qv 2) qa_nil)) (qac (qe_callP pDue hr1 rfl pass0 (qac (qe_callP pLTriples hr1 rfl pass0 (qac (qv 2) qa_nil)) qa_nil)) qa_nil))))) (qss_one (qs_ret qe_bl)) qss_nil)
        (qss_one (qs_if (qt_not (qt_val (qe_callP pLIs hr3 rfl pass0 (qac (qe_callP pFlagsTold hr3 rfl pass0 (qac (qv 2) qa_nil)) (qac (qe_callP pDue hr1 rfl pass0 (qac (qe_callP pLFlags hr1 rfl pass0 (qac (qv 2) qa_nil)) qa_nil)) qa_nil))))) (qss_one (qs_ret qe_bl)) qss_nil))))))
      (qss_one (qs_ret qe_bl))), ?_⟩
    obtain ⟨n, hn3, hsm, hsz⟩ := rng_ok (ns.map V.int).length
    refine ⟨_, rfl, a, _, rfl, .inl hS, _, _, rfl, _, _, rfl, 0, _, 4, n, rfl, by decide, by decide, hsm, hsz, for_its (lo := 0) (c := 4) (n := n) (fun i σ H2 => Same H H2 ∧ ∃ x1 x2, σ = [some (.ref a), x1, x2]) ⟨Same.refl _, none, none, rfl⟩ ?_ ?_⟩
    rotate_left
    · rintro σ H2 ⟨s2, x1, x2, rfl⟩
      exact k _
    rintro i σ H0 hi ⟨s0, x1, x2, rfl⟩
    refine ⟨_, rfl, _, rfl, a, ns, i * 4, by show [V.ref a, V.int (0 + ((i : Nat) : Int) * 4)] = _; rw [show (0 + ((i : Nat) : Int) * 4) = ((i * 4 : Nat) : Int) by omega], s0.seq hS, by omega, fun t l m ws bs H1 ht0 s01 ht hl hT hm1 hm9 hn hb => ?_⟩
    have s1 := s0.trans s01
    refine ⟨_, rfl, _, rfl, _, _, rfl, rfl, a, ns, i * 4 + 2, by show [V.ref a, V.int (0 + ((i : Nat) : Int) * 4 + 2)] = _; rw [show (0 + ((i : Nat) : Int) * 4 + 2) = ((i * 4 + 2 : Nat) : Int) by omega], s1.seq hS, by omega, fun c H2 s2 => ⟨c, 1, rfl, by decide, fun lx ms H3 hlx s3 hx3 hml hms => ?_⟩⟩
    obtain ⟨x, ex, hxm⟩ := at_ok (ns := ms) (i := 0) (by omega)
    have s13 := s1.trans (s2.trans s3)
    have s23 := s2.trans s3
    refine ⟨lx, _, 0, .int x, rfl, rfl, SqL.of hx3, ex, _, _, rfl, rfl, (by decide : (0 : Int) < 4), rfl, _, rfl, ?_⟩
    refine iteV (fun σ' H' => Same H H' ∧ ∃ (t' : Addr) (m' : Nat) (bs' : List (List Nat)), σ' = [some (.ref a), some (.int (0 + ((i : Nat) : Int) * 4)), some (.ref t')] ∧ LayA H' t' m' bs' ∧ m' ≤ 21 ∧ bs'.length ≤ 60 ∧ ∀ b ∈ bs', Blk m' b) ?_ (fun _ go => ?_) (fun _ go => go _ _ ⟨s13, t, m, bs, rfl, ⟨l, ws, s23 _ _ ht, s23 _ _ hl, hT.sm s23, by omega⟩, by omega, hn, hb⟩)
    rotate_left
    · refine ⟨_, rfl, _, rfl, _, _, rfl, rfl, a, ns, i * 4 + 3, by show [V.ref a, V.int (0 + ((i : Nat) : Int) * 4 + 3)] = _; rw [show (0 + ((i : Nat) : Int) * 4 + 3) = ((i * 4 + 3 : Nat) : Int) by omega], s13.seq hS, by omega, fun t' l' m' ws' bs' H4 s4 ht' hl' hT' hm1' hm21' hn' hb' => ?_⟩
      exact go _ _ ⟨s13.trans s4, t', m', bs', rfl, ⟨l', ws', ht', hl', hT', by omega⟩, hm21', hn', hb'⟩
    clear hT hl ht hb hn
    rintro σ H4 ⟨s4, t, m, bs, rfl, hL, hm21, hn60, hb⟩
    refine ⟨_, rfl, t, m, bs, rfl, hL, hm21, hn60, hb, fun v H5 s5 hv => ?_⟩
    refine ⟨_, rfl, t, m, bs, rfl, hL.sm s5, hm21, hn60, hb, fun lc wc H6 s6 hlc hC6 => ?_⟩
    refine ⟨lc, wc, _, rfl, hlc, hC6, fun z hz => ?_, fun v' H7 s7 hv' => ?_⟩
    · obtain ⟨p, hp, rfl⟩ := List.mem_map.mp hz
      obtain ⟨a', b', c', rfl, _⟩ := mem_tri.mp hp
      show 3 ≤ 60
      decide
    refine ⟨v, v', rfl, AnsAt.eqv (hv.sm (s6.trans s7)) hv', fun H8 s8 => ⟨_, rfl, iteF ?_⟩⟩
    have s58 := s5.trans (s6.trans (s7.trans s8))
    refine ⟨_, rfl, t, m, bs, rfl, hL.sm s58, hm21, hn60, hb, fun v2 H9 s9 hv2 => ?_⟩
    refine ⟨_, rfl, t, m, bs, rfl, hL.sm (s58.trans s9), hm21, hn60, hb, fun lc2 wc2 Ha sa hlc2 hCa => ?_⟩
    refine ⟨lc2, wc2, _, rfl, hlc2, hCa, fun z hz => ?_, fun v3 Hb sb hv3 => ?_⟩
    · obtain ⟨p, hp, rfl⟩ := List.mem_map.mp hz
      show p.length ≤ 60
      rw [flg_two hp]
      decide
    refine ⟨v2, v3, rfl, AnsAt.eqv (hv2.sm (sa.trans sb)) hv3, fun Hc sc => ⟨_, rfl, iteF ?_⟩⟩
    exact ⟨s4.trans (s58.trans (s9.trans (sa.trans (sb.trans sc)))), _, _, rfl⟩
end
end E1
namespace E1
open PySem L2
theorem all_mk {l : PySem.W.OpenLaw} {w : World} {K : PySem.W.Frag} {h : Heap} {mg : Str → Option Value} {fa : Addr} (X : K.In h) (G : h.Ns mainGlobals mg) (hfa : mg "law" = some (.ref fa))
    (N : PySem.W.nsIn K mainGlobals "isinstance" = some none ∧ PySem.W.nsIn K mainGlobals "int" = some none ∧ PySem.W.nsIn K mainGlobals "bool" = some none ∧ PySem.W.nsIn K mainGlobals "abs" = some none ∧ PySem.W.nsIn K mainGlobals "len" = some none ∧ PySem.W.nsIn K mainGlobals "range" = some none ∧ PySem.W.nsIn K mainGlobals "tuple" = some none ∧ PySem.W.nsIn K mainGlobals "list" = some none ∧ PySem.W.nsIn K mainGlobals "sorted" = some none ∧ PySem.W.nsIn K mainGlobals "all" = some none ∧ PySem.W.nsIn K mainGlobals "set" = some none ∧ PySem.W.nsIn K mainGlobals "zip" = some none ∧ PySem.W.nsIn K mainGlobals "enumerate" = some none ∧ PySem.W.nsIn K mainGlobals "any" = some none ∧ PySem.W.nsIn K mainGlobals "max" = some none ∧ PySem.W.nsIn K mainGlobals "min" = some none ∧ PySem.W.nsIn K mainGlobals "str" = some none ∧ PySem.W.nsIn K mainGlobals "sum" = some none)
    (ATriplesTold : At K "triples_told" sTriplesTold) (AFlagsTold : At K "flags_told" sFlagsTold) (AToldOf : At K "told_of" sToldOf) (AMarkedBlocks : At K "marked_blocks" sMarkedBlocks) (AMarksOf : At K "marks_of" sMarksOf) (ARowsWith : At K "rows_with" sRowsWith) (APointsBeside : At K "points_beside" sPointsBeside) (ACell : At K "_law_cell" sCell) (ALNumbers : At K "_law_numbers" sLNumbers) (ALRow : At K "_law_row" sLRow) (ALMask : At K "_law_mask" sLMask) (ALOfSize : At K "_law_of_size" sLOfSize) (ALAllSets : At K "_law_all_sets" sLAllSets) (ALTurnedBase : At K "_law_turned_base" sLTurnedBase) (ALEvenBlocks : At K "_law_even_blocks" sLEvenBlocks) (ALLayout : At K "_law_layout" sLLayout) (ALIs : At K "_law_is" sLIs) (ADue : At K "_law_due" sDue) (ALGreat : At K "_law_great" sLGreat) (ALTriples : At K "_law_triples" sLTriples) (ALFlags : At K "_law_flags" sLFlags) (ALaw : At K "law" sLaw) :
    ∃ fd : FuncData, (∀ (s : Shared) (v : Value), BindsTo s fd ⟨[v], []⟩ [("_law_script", v)]) ∧ ∀ base : Heap, K.In base → base.Ns mainGlobals mg → FnOk l.prog w K mg base CX0 12 fa fd ["_law_script"] (spLaw K) := by
  obtain ⟨n0, n1, n2, n3, n4, n5, n6, n7, n8, n9, n10, n11, n12, n13, n14, n15, n16, n17⟩ := N
  have T : TxtB mg := ⟨PySem.W.mg_none_of X G n0, PySem.W.mg_none_of X G n1, PySem.W.mg_none_of X G n2, PySem.W.mg_none_of X G n3, PySem.W.mg_none_of X G n4, PySem.W.mg_none_of X G n5, PySem.W.mg_none_of X G n6, PySem.W.mg_none_of X G n7, PySem.W.mg_none_of X G n8, PySem.W.mg_none_of X G n9, PySem.W.mg_none_of X G n10, PySem.W.mg_none_of X G n11, PySem.W.mg_none_of X G n12, PySem.W.mg_none_of X G n13, PySem.W.mg_none_of X G n14, PySem.W.mg_none_of X G n15, PySem.W.mg_none_of X G n16, PySem.W.mg_none_of X G n17⟩
  obtain ⟨fTriplesTold, fdTriplesTold, aTriplesTold, FTriplesTold⟩ := ATriplesTold
  obtain ⟨fFlagsTold, fdFlagsTold, aFlagsTold, FFlagsTold⟩ := AFlagsTold
  obtain ⟨fToldOf, fdToldOf, aToldOf, FToldOf⟩ := AToldOf
  obtain ⟨fMarkedBlocks, fdMarkedBlocks, aMarkedBlocks, FMarkedBlocks⟩ := AMarkedBlocks
  obtain ⟨fMarksOf, fdMarksOf, aMarksOf, FMarksOf⟩ := AMarksOf
  obtain ⟨fRowsWith, fdRowsWith, aRowsWith, FRowsWith⟩ := ARowsWith
  obtain ⟨fPointsBeside, fdPointsBeside, aPointsBeside, FPointsBeside⟩ := APointsBeside
  obtain ⟨fCell, fdCell, aCell, FCell⟩ := ACell
  obtain ⟨fLNumbers, fdLNumbers, aLNumbers, FLNumbers⟩ := ALNumbers
  obtain ⟨fLRow, fdLRow, aLRow, FLRow⟩ := ALRow
  obtain ⟨fLMask, fdLMask, aLMask, FLMask⟩ := ALMask
  obtain ⟨fLOfSize, fdLOfSize, aLOfSize, FLOfSize⟩ := ALOfSize
  obtain ⟨fLAllSets, fdLAllSets, aLAllSets, FLAllSets⟩ := ALAllSets
  obtain ⟨fLTurnedBase, fdLTurnedBase, aLTurnedBase, FLTurnedBase⟩ := ALTurnedBase
  obtain ⟨fLEvenBlocks, fdLEvenBlocks, aLEvenBlocks, FLEvenBlocks⟩ := ALEvenBlocks
  obtain ⟨fLLayout, fdLLayout, aLLayout, FLLayout⟩ := ALLayout
  obtain ⟨fLIs, fdLIs, aLIs, FLIs⟩ := ALIs
  obtain ⟨fDue, fdDue, aDue, FDue⟩ := ADue
  obtain ⟨fLGreat, fdLGreat, aLGreat, FLGreat⟩ := ALGreat
  obtain ⟨fLTriples, fdLTriples, aLTriples, FLTriples⟩ := ALTriples
  obtain ⟨fLFlags, fdLFlags, aLFlags, FLFlags⟩ := ALFlags
  obtain ⟨fLaw, fdLaw, aLaw, FLaw⟩ := ALaw
  have e := hfa.symm.trans (PySem.W.mg_of X G aLaw)
  cases e
  have bTriplesTold := FTriplesTold.binds (ps := ["M"]) fun _ _ _ _ _ _ us hl => match us, hl with | [_], _ => rfl
  have mTriplesTold := PySem.W.mg_of X G aTriplesTold
  have bFlagsTold := FFlagsTold.binds (ps := ["M"]) fun _ _ _ _ _ _ us hl => match us, hl with | [_], _ => rfl
  have mFlagsTold := PySem.W.mg_of X G aFlagsTold
  have bToldOf := FToldOf.binds (ps := ["cases", "counts"]) fun _ _ _ _ _ _ us hl => match us, hl with | [_, _], _ => rfl
  have mToldOf := PySem.W.mg_of X G aToldOf
  have bMarkedBlocks := FMarkedBlocks.binds (ps := ["M"]) fun _ _ _ _ _ _ us hl => match us, hl with | [_], _ => rfl
  have mMarkedBlocks := PySem.W.mg_of X G aMarkedBlocks
  have bMarksOf := FMarksOf.binds (ps := ["points", "block"]) fun _ _ _ _ _ _ us hl => match us, hl with | [_, _], _ => rfl
  have mMarksOf := PySem.W.mg_of X G aMarksOf
  have bRowsWith := FRowsWith.binds (ps := ["rows", "point"]) fun _ _ _ _ _ _ us hl => match us, hl with | [_, _], _ => rfl
  have mRowsWith := PySem.W.mg_of X G aRowsWith
  have bPointsBeside := FPointsBeside.binds (ps := ["M", "point"]) fun _ _ _ _ _ _ us hl => match us, hl with | [_, _], _ => rfl
  have mPointsBeside := PySem.W.mg_of X G aPointsBeside
  have bCell := FCell.binds (ps := ["_law_script", "_law_k"]) fun _ _ _ _ _ _ us hl => match us, hl with | [_, _], _ => rfl
  have mCell := PySem.W.mg_of X G aCell
  have bLNumbers := FLNumbers.binds (ps := ["_law_cell_here", "_law_many"]) fun _ _ _ _ _ _ us hl => match us, hl with | [_, _], _ => rfl
  have mLNumbers := PySem.W.mg_of X G aLNumbers
  have bLRow := FLRow.binds (ps := ["_law_xs", "_law_many"]) fun _ _ _ _ _ _ us hl => match us, hl with | [_, _], _ => rfl
  have mLRow := PySem.W.mg_of X G aLRow
  have bLMask := FLMask.binds (ps := ["_law_x", "_law_many"]) fun _ _ _ _ _ _ us hl => match us, hl with | [_, _], _ => rfl
  have mLMask := PySem.W.mg_of X G aLMask
  have bLOfSize := FLOfSize.binds (ps := ["_law_x", "_law_many", "_law_size"]) fun _ _ _ _ _ _ us hl => match us, hl with | [_, _, _], _ => rfl
  have mLOfSize := PySem.W.mg_of X G aLOfSize
  have bLAllSets := FLAllSets.binds (ps := ["_law_many", "_law_size"]) fun _ _ _ _ _ _ us hl => match us, hl with | [_, _], _ => rfl
  have mLAllSets := PySem.W.mg_of X G aLAllSets
  have bLTurnedBase := FLTurnedBase.binds (ps := ["_law_base", "_law_many"]) fun _ _ _ _ _ _ us hl => match us, hl with | [_, _], _ => rfl
  have mLTurnedBase := PySem.W.mg_of X G aLTurnedBase
  have bLEvenBlocks := FLEvenBlocks.binds (ps := ["_law_x", "_law_y"]) fun _ _ _ _ _ _ us hl => match us, hl with | [_, _], _ => rfl
  have mLEvenBlocks := PySem.W.mg_of X G aLEvenBlocks
  have bLLayout := FLLayout.binds (ps := ["_law_script", "_law_at"]) fun _ _ _ _ _ _ us hl => match us, hl with | [_, _], _ => rfl
  have mLLayout := PySem.W.mg_of X G aLLayout
  have bLIs := FLIs.binds (ps := ["_law_found", "_law_due_here"]) fun _ _ _ _ _ _ us hl => match us, hl with | [_, _], _ => rfl
  have mLIs := PySem.W.mg_of X G aLIs
  have bDue := FDue.binds (ps := ["_law_cases"]) fun _ _ _ _ _ _ us hl => match us, hl with | [_], _ => rfl
  have mDue := PySem.W.mg_of X G aDue
  have bLGreat := FLGreat.binds (ps := ["_law_script", "_law_at"]) fun _ _ _ _ _ _ us hl => match us, hl with | [_, _], _ => rfl
  have mLGreat := PySem.W.mg_of X G aLGreat
  have bLTriples := FLTriples.binds (ps := ["_law_layout_here"]) fun _ _ _ _ _ _ us hl => match us, hl with | [_], _ => rfl
  have mLTriples := PySem.W.mg_of X G aLTriples
  have bLFlags := FLFlags.binds (ps := ["_law_layout_here"]) fun _ _ _ _ _ _ us hl => match us, hl with | [_], _ => rfl
  have mLFlags := PySem.W.mg_of X G aLFlags
  refine ⟨fdLaw, ?_, fun base _ _ => ?_⟩
  · obtain ⟨oc, od, kV, doc, pm, an, cdv, ct, osl, rfl, lk, hcd⟩ := FLaw.ex
    exact fun s v => .of_eq rfl
  · have pN : Pm l.prog w K mg base CX0 1 "_law_numbers" ["_law_cell_here", "_law_many"] spNums := ⟨fLNumbers, fdLNumbers, mLNumbers, FLNumbers.kp, bLNumbers, ok_numbers FLNumbers T⟩
    have pC : Pm l.prog w K mg base CX0 1 "_law_cell" ["_law_script", "_law_k"] (spCell2 K) := ⟨fCell, fdCell, mCell, FCell.kp, bCell, ok_cell2 FCell T⟩
    have pM : Pm l.prog w K mg base CX0 1 "_law_mask" ["_law_x", "_law_many"] spMask := ⟨fLMask, fdLMask, mLMask, FLMask.kp, bLMask, ok_mask FLMask T⟩
    have pR : Pm l.prog w K mg base CX0 1 "_law_row" ["_law_xs", "_law_many"] (spRow K) := ⟨fLRow, fdLRow, mLRow, FLRow.kp, bLRow, ok_row FLRow T⟩
    have pS : Pm l.prog w K mg base CX0 1 "_law_of_size" ["_law_x", "_law_many", "_law_size"] spOfSize := ⟨fLOfSize, fdLOfSize, mLOfSize, FLOfSize.kp, bLOfSize, ok_ofsize FLOfSize T⟩
    have pA : Pm l.prog w K mg base CX0 2 "_law_all_sets" ["_law_many", "_law_size"] spAllSets := ⟨fLAllSets, fdLAllSets, mLAllSets, FLAllSets.kp, bLAllSets, ok_allsets FLAllSets T pM⟩
    have pT : Pm l.prog w K mg base CX0 1 "_law_turned_base" ["_law_base", "_law_many"] (spTBase K) := ⟨fLTurnedBase, fdLTurnedBase, mLTurnedBase, FLTurnedBase.kp, bLTurnedBase, ok_tbase FLTurnedBase T⟩
    have pE : Pm l.prog w K mg base CX0 3 "_law_even_blocks" ["_law_x", "_law_y"] spEven := ⟨fLEvenBlocks, fdLEvenBlocks, mLEvenBlocks, FLEvenBlocks.kp, bLEvenBlocks, ok_even FLEvenBlocks T pM pT pA⟩
    have pL : Pm l.prog w K mg base CX0 4 "_law_layout" ["_law_script", "_law_at"] (spLLayout K) := ⟨fLLayout, fdLLayout, mLLayout, FLLayout.kp, bLLayout, ok_llayout FLLayout T pC pN pM pS pR pE⟩
    have pX : Pm l.prog w K mg base CX0 1 "marks_of" ["points", "block"] spMarks := ⟨fMarksOf, fdMarksOf, mMarksOf, FMarksOf.kp, bMarksOf, ok_marks FMarksOf T⟩
    have pB : Pm l.prog w K mg base CX0 2 "marked_blocks" ["M"] spMarked := ⟨fMarkedBlocks, fdMarkedBlocks, mMarkedBlocks, FMarkedBlocks.kp, bMarkedBlocks, ok_marked FMarkedBlocks T pX⟩
    have pW : Pm l.prog w K mg base CX0 1 "rows_with" ["rows", "point"] spRowsWith := ⟨fRowsWith, fdRowsWith, mRowsWith, FRowsWith.kp, bRowsWith, ok_rowswith FRowsWith T⟩
    have pO : Pm l.prog w K mg base CX0 1 "told_of" ["cases", "counts"] spTold := ⟨fToldOf, fdToldOf, mToldOf, FToldOf.kp, bToldOf, ok_told FToldOf T⟩
    have pG : Pm l.prog w K mg base CX0 2 "_law_great" ["_law_script", "_law_at"] (spGreat K) := ⟨fLGreat, fdLGreat, mLGreat, FLGreat.kp, bLGreat, ok_great FLGreat T pC pN pT pS⟩
    have pTr : Pm l.prog w K mg base CX0 3 "triples_told" ["M"] (spTri cnt fun m _ => tri m m) := ⟨fTriplesTold, fdTriplesTold, mTriplesTold, FTriplesTold.kp, bTriplesTold, ok_triples FTriplesTold T pB pW pO⟩
    have pBe : Pm l.prog w K mg base CX0 2 "points_beside" ["M", "point"] spBeside := ⟨fPointsBeside, fdPointsBeside, mPointsBeside, FPointsBeside.kp, bPointsBeside, ok_beside FPointsBeside T pX⟩
    have pFl : Pm l.prog w K mg base CX0 3 "flags_told" ["M"] (spTri gF fun m bs => flg bs m) := ⟨fFlagsTold, fdFlagsTold, mFlagsTold, FFlagsTold.kp, bFlagsTold, ok_flags FFlagsTold T pBe pO⟩
    have pLT : Pm l.prog w K mg base CX0 1 "_law_triples" ["_law_layout_here"] (spLTri cnt fun m _ => tri m m) := ⟨fLTriples, fdLTriples, mLTriples, FLTriples.kp, bLTriples, ok_ltri FLTriples T⟩
    have pLF : Pm l.prog w K mg base CX0 1 "_law_flags" ["_law_layout_here"] (spLTri gF fun m bs => flg bs m) := ⟨fLFlags, fdLFlags, mLFlags, FLFlags.kp, bLFlags, ok_lflags FLFlags T⟩
    have pD : Pm l.prog w K mg base CX0 1 "_law_due" ["_law_cases"] (spLDue K) := ⟨fDue, fdDue, mDue, FDue.kp, bDue, ok_due FDue T⟩
    have pI : Pm l.prog w K mg base CX0 3 "_law_is" ["_law_found", "_law_due_here"] (spIsR 2) := ⟨fLIs, fdLIs, mLIs, FLIs.kp, bLIs, ok_isr FLIs T mLIs bLIs 2⟩
    exact ok_law FLaw T pC pN pL pG pTr pFl pLT pLF pD pI
end E1
open PySem PySem.W PyProof.Rows
set_option maxRecDepth 100000 in
set_option maxHeartbeats 0 in
theorem PySem.Challenge.cw_evenmeet_k17_triples_and_flags_holds : PySem.Challenge.rw_evenmeet_k17_triples_and_flags.Holds := by
  w_on; o_law; k_head; (case hw => w_witness2)
  k_fill
  refine E1.walk (l := PySem.Challenge.rw_evenmeet_k17_triples_and_flags) (k := 12) ⟨rfl, by decide, by decide, rfl⟩ rfl rfl (fun w h Y => PySem.W.kIn_of Y) ?F
  case F =>
    intro w mg fa h KX G hmg
    have N : PySem.W.nsIn (L2.KOf KX) mainGlobals "isinstance" = some none ∧ PySem.W.nsIn (L2.KOf KX) mainGlobals "int" = some none ∧ PySem.W.nsIn (L2.KOf KX) mainGlobals "bool" = some none ∧ PySem.W.nsIn (L2.KOf KX) mainGlobals "abs" = some none ∧ PySem.W.nsIn (L2.KOf KX) mainGlobals "len" = some none ∧ PySem.W.nsIn (L2.KOf KX) mainGlobals "range" = some none ∧ PySem.W.nsIn (L2.KOf KX) mainGlobals "tuple" = some none ∧ PySem.W.nsIn (L2.KOf KX) mainGlobals "list" = some none ∧ PySem.W.nsIn (L2.KOf KX) mainGlobals "sorted" = some none ∧ PySem.W.nsIn (L2.KOf KX) mainGlobals "all" = some none ∧ PySem.W.nsIn (L2.KOf KX) mainGlobals "set" = some none ∧ PySem.W.nsIn (L2.KOf KX) mainGlobals "zip" = some none ∧ PySem.W.nsIn (L2.KOf KX) mainGlobals "enumerate" = some none ∧ PySem.W.nsIn (L2.KOf KX) mainGlobals "any" = some none ∧ PySem.W.nsIn (L2.KOf KX) mainGlobals "max" = some none ∧ PySem.W.nsIn (L2.KOf KX) mainGlobals "min" = some none ∧ PySem.W.nsIn (L2.KOf KX) mainGlobals "str" = some none ∧ PySem.W.nsIn (L2.KOf KX) mainGlobals "sum" = some none := by
      dsimp only [L2.KOf]
      refine' ⟨?z0, ?z1, ?z2, ?z3, ?z4, ?z5, ?z6, ?z7, ?z8, ?z9, ?z10, ?z11, ?z12, ?z13, ?z14, ?z15, ?z16, ?z17⟩
      (case z0 => k_is)
      (case z1 => k_is)
      (case z2 => k_is)
      (case z3 => k_is)
      (case z4 => k_is)
      (case z5 => k_is)
      (case z6 => k_is)
      (case z7 => k_is)
      (case z8 => k_is)
      (case z9 => k_is)
      (case z10 => k_is)
      (case z11 => k_is)
      (case z12 => k_is)
      (case z13 => k_is)
      (case z14 => k_is)
      (case z15 => k_is)
      (case z16 => k_is)
      (case z17 => k_is)
    have ATriplesTold : E1.At (L2.KOf KX) "triples_told" E1.sTriplesTold := by
      dsimp only [L2.KOf]
      refine' E1.fn_mk ?a ?l ?c ?k
      (case a => k_is); (case l => k_is); (case c => k_is); (case k => k_is)
    have AFlagsTold : E1.At (L2.KOf KX) "flags_told" E1.sFlagsTold := by
      dsimp only [L2.KOf]
      refine' E1.fn_mk ?a ?l ?c ?k
      (case a => k_is); (case l => k_is); (case c => k_is); (case k => k_is)
    have AToldOf : E1.At (L2.KOf KX) "told_of" E1.sToldOf := by
      dsimp only [L2.KOf]
      refine' E1.fn_mk ?a ?l ?c ?k
      (case a => k_is); (case l => k_is); (case c => k_is); (case k => k_is)
    have AMarkedBlocks : E1.At (L2.KOf KX) "marked_blocks" E1.sMarkedBlocks := by
      dsimp only [L2.KOf]
      refine' E1.fn_mk ?a ?l ?c ?k
      (case a => k_is); (case l => k_is); (case c => k_is); (case k => k_is)
    have AMarksOf : E1.At (L2.KOf KX) "marks_of" E1.sMarksOf := by
      dsimp only [L2.KOf]
      refine' E1.fn_mk ?a ?l ?c ?k
      (case a => k_is); (case l => k_is); (case c => k_is); (case k => k_is)
    have ARowsWith : E1.At (L2.KOf KX) "rows_with" E1.sRowsWith := by
      dsimp only [L2.KOf]
      refine' E1.fn_mk ?a ?l ?c ?k
      (case a => k_is); (case l => k_is); (case c => k_is); (case k => k_is)
    have APointsBeside : E1.At (L2.KOf KX) "points_beside" E1.sPointsBeside := by
      dsimp only [L2.KOf]
      refine' E1.fn_mk ?a ?l ?c ?k
      (case a => k_is); (case l => k_is); (case c => k_is); (case k => k_is)
    have ACell : E1.At (L2.KOf KX) "_law_cell" E1.sCell := by
      dsimp only [L2.KOf]
      refine' E1.fn_mk ?a ?l ?c ?k
      (case a => k_is); (case l => k_is); (case c => k_is); (case k => k_is)
    have ALNumbers : E1.At (L2.KOf KX) "_law_numbers" E1.sLNumbers := by
      dsimp only [L2.KOf]
      refine' E1.fn_mk ?a ?l ?c ?k
      (case a => k_is); (case l => k_is); (case c => k_is); (case k => k_is)
    have ALRow : E1.At (L2.KOf KX) "_law_row" E1.sLRow := by
      dsimp only [L2.KOf]
      refine' E1.fn_mk ?a ?l ?c ?k
      (case a => k_is); (case l => k_is); (case c => k_is); (case k => k_is)
    have ALMask : E1.At (L2.KOf KX) "_law_mask" E1.sLMask := by
      dsimp only [L2.KOf]
      refine' E1.fn_mk ?a ?l ?c ?k
      (case a => k_is); (case l => k_is); (case c => k_is); (case k => k_is)
    have ALOfSize : E1.At (L2.KOf KX) "_law_of_size" E1.sLOfSize := by
      dsimp only [L2.KOf]
      refine' E1.fn_mk ?a ?l ?c ?k
      (case a => k_is); (case l => k_is); (case c => k_is); (case k => k_is)
    have ALAllSets : E1.At (L2.KOf KX) "_law_all_sets" E1.sLAllSets := by
      dsimp only [L2.KOf]
      refine' E1.fn_mk ?a ?l ?c ?k
      (case a => k_is); (case l => k_is); (case c => k_is); (case k => k_is)
    have ALTurnedBase : E1.At (L2.KOf KX) "_law_turned_base" E1.sLTurnedBase := by
      dsimp only [L2.KOf]
      refine' E1.fn_mk ?a ?l ?c ?k
      (case a => k_is); (case l => k_is); (case c => k_is); (case k => k_is)
    have ALEvenBlocks : E1.At (L2.KOf KX) "_law_even_blocks" E1.sLEvenBlocks := by
      dsimp only [L2.KOf]
      refine' E1.fn_mk ?a ?l ?c ?k
      (case a => k_is); (case l => k_is); (case c => k_is); (case k => k_is)
    have ALLayout : E1.At (L2.KOf KX) "_law_layout" E1.sLLayout := by
      dsimp only [L2.KOf]
      refine' E1.fn_mk ?a ?l ?c ?k
      (case a => k_is); (case l => k_is); (case c => k_is); (case k => k_is)
    have ALIs : E1.At (L2.KOf KX) "_law_is" E1.sLIs := by
      dsimp only [L2.KOf]
      refine' E1.fn_mk ?a ?l ?c ?k
      (case a => k_is); (case l => k_is); (case c => k_is); (case k => k_is)
    have ADue : E1.At (L2.KOf KX) "_law_due" E1.sDue := by
      dsimp only [L2.KOf]
      refine' E1.fn_mk ?a ?l ?c ?k
      (case a => k_is); (case l => k_is); (case c => k_is); (case k => k_is)
    have ALGreat : E1.At (L2.KOf KX) "_law_great" E1.sLGreat := by
      dsimp only [L2.KOf]
      refine' E1.fn_mk ?a ?l ?c ?k
      (case a => k_is); (case l => k_is); (case c => k_is); (case k => k_is)
    have ALTriples : E1.At (L2.KOf KX) "_law_triples" E1.sLTriples := by
      dsimp only [L2.KOf]
      refine' E1.fn_mk ?a ?l ?c ?k
      (case a => k_is); (case l => k_is); (case c => k_is); (case k => k_is)
    have ALFlags : E1.At (L2.KOf KX) "_law_flags" E1.sLFlags := by
      dsimp only [L2.KOf]
      refine' E1.fn_mk ?a ?l ?c ?k
      (case a => k_is); (case l => k_is); (case c => k_is); (case k => k_is)
    have ALaw : E1.At (L2.KOf KX) "law" E1.sLaw := by
      dsimp only [L2.KOf]
      refine' E1.fn_mk ?a ?l ?c ?k
      (case a => k_is); (case l => k_is); (case c => k_is); (case k => k_is)
    exact E1.all_mk KX G hmg N  ATriplesTold AFlagsTold AToldOf AMarkedBlocks AMarksOf ARowsWith APointsBeside ACell ALNumbers ALRow ALMask ALOfSize ALAllSets ALTurnedBase ALEvenBlocks ALLayout ALIs ADue ALGreat ALTriples ALFlags ALaw


