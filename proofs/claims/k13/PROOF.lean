import PyProof.Rows.All
import Wide.All
import OpenK.AllK
import Wide.FinOn
import Lean
import PyProof.EqAt
import PyProof.EqKinds
import PyProof.TupleCall
import PySem.Challenge.RW_evenmeet_k13_texts_refused
set_option Elab.async false
set_option linter.all false
set_option maxRecDepth 100000
/-! THE HAND LAYER, for ints, bools, texts, own classes, LISTS and tuples (index, slices, in, append, pop ..), calls, loops. Paste it whole ahead of your own text; what your proof does not reach may be deleted. -/
namespace L2
open PySem PySem.Spec PyProof.Rows

/-- a key: an int or a str -/
abbrev Key := Sum Int Str
def keyIs : Key → Value → Bool
  | .inl k, v => Value.isInt k v
  | .inr x, v => Value.isStrOf x v
def keyH (w : World) : Key → Int
  | .inl k => hashInt k
  | .inr x => hashStr w x
theorem keyIs_shape : ∀ {k : Key} {v : Value}, keyIs k v = true → (∃ i t, k = Sum.inl i ∧ v = Value.int i t) ∨ (∃ x t, k = Sum.inr x ∧ v = Value.str x t)
  | .inl i, v, h => by
    obtain ⟨t, e⟩ := Value.isInt_shape (k := i) (v := v) h
    exact .inl ⟨i, t, rfl, e⟩
  | .inr x, v, h => by
    obtain ⟨t, e⟩ := Value.isStrOf_shape (x := x) (v := v) h
    exact .inr ⟨x, t, rfl, e⟩
theorem key_ll (a b : Int) : decide ((Sum.inl a : Key) = Sum.inl b) = (a == b) := by
  by_cases e : a = b
  · subst e; simp
  · have h : ¬ (Sum.inl a : Key) = Sum.inl b := fun q => e (Sum.inl.inj q)
    rw [decide_eq_false h]
    exact (beq_eq_false_iff_ne.mpr e).symm
theorem key_rr (a b : Str) : decide ((Sum.inr a : Key) = Sum.inr b) = decide (a = b) := by
  by_cases e : a = b
  · subst e; simp
  · have h : ¬ (Sum.inr a : Key) = Sum.inr b := fun q => e (Sum.inr.inj q)
    rw [decide_eq_false h, decide_eq_false e]
theorem key_lr (a : Int) (b : Str) : decide ((Sum.inl a : Key) = Sum.inr b) = false := decide_eq_false (fun q => nomatch q)
theorem key_rl (a : Str) (b : Int) : decide ((Sum.inr a : Key) = Sum.inl b) = false := decide_eq_false (fun q => nomatch q)

def mixKind (prog : Program) (w : World) : PySem.KeyKind prog w Key where
  is := keyIs
  hash := keyH w
  inj := fun v a b ha hb => by
    rcases keyIs_shape ha with ⟨i, t, rfl, rfl⟩ | ⟨x, t, rfl, rfl⟩
    · rcases keyIs_shape hb with ⟨j, u, rfl, e⟩ | ⟨y, u, rfl, e⟩
      · injection e with e1 _; rw [e1]
      · exact nomatch e
    · rcases keyIs_shape hb with ⟨j, u, rfl, e⟩ | ⟨y, u, rfl, e⟩
      · exact nomatch e
      · injection e with e1 _; rw [e1]
  byValue := fun k v h => by
    rcases keyIs_shape h with ⟨i, t, rfl, rfl⟩ | ⟨x, t, rfl, rfl⟩ <;> rfl
  pyHash := fun hv h => by
    rcases keyIs_shape hv with ⟨i, t, rfl, rfl⟩ | ⟨x, t, rfl, rfl⟩
    · exact wpAny_pyHash_int h
    · exact wpAny_pyHash_str h
  eqBool := fun hu hv h => by
    rcases keyIs_shape hu with ⟨i, t, rfl, rfl⟩ | ⟨x, t, rfl, rfl⟩
    · rcases keyIs_shape hv with ⟨j, u, rfl, rfl⟩ | ⟨y, u, rfl, rfl⟩
      · rw [key_ll] at h; exact wpAny_eqBool_int h
      · rw [key_lr] at h; exact SeqAt.EqAt.int_str i t y u _ _ _ _ h
    · rcases keyIs_shape hv with ⟨j, u, rfl, rfl⟩ | ⟨y, u, rfl, rfl⟩
      · rw [key_rl] at h; exact SeqAt.EqAt.str_int x t j u _ _ _ _ h
      · rw [key_rr] at h; exact wpAny_eqBool_str h
  «strs» := fun k x t v h => by
    rcases keyIs_shape h with ⟨i, u, rfl, e⟩ | ⟨y, u, rfl, e⟩
    · exact nomatch e
    · injection e with e1 _
      subst e1
      cases v <;> rfl

end L2

namespace L2
open PySem PySem.Spec PyProof.Rows

/-- a value, without the heap -/
inductive V where
  | non | bl (b : Bool) | int (i : Int) | str (x : Str) | byt (b : Array UInt8) | flt (b : UInt64) | ref (a : Addr) | ty (n : String)
  deriving DecidableEq

def RelV : V → Value → Prop
  | .non, u => u = Value.none
  | .bl b, u => u = Value.bool b
  | .int i, u => ∃ t, u = Value.int i t
  | .str x, u => ∃ t, u = Value.str x t
  | .byt b, u => ∃ t, u = Value.bytes b t
  | .flt b, u => ∃ t, u = Value.float b t
  | .ref a, u => u = Value.ref a
  | .ty n, u => u = Value.type n

abbrev Vals : List V → List Value → Prop := Paired RelV
theorem Vals.length {xs : List V} {us : List Value} (r : Vals xs us) : xs.length = us.length := Paired.length r
theorem Vals.get : ∀ {xs : List V} {us : List Value} {i : Nat} {x : V}, Vals xs us → xs[i]? = some x → ∃ u, us[i]? = some u ∧ RelV x u
  | _, _, _, _, .nil, e => by simp at e
  | _, _, 0, _, .cons r _, e => by simp at e; subst e; exact ⟨_, rfl, r⟩
  | _, _, i + 1, x, .cons _ t, e => by
    obtain ⟨u, h1, h2⟩ := Vals.get (i := i) (x := x) t (by simpa using e)
    exact ⟨u, by simpa using h1, h2⟩
theorem Vals.set {x : V} {u : Value} (r : RelV x u) : ∀ {xs : List V} {us : List Value} (i : Nat), Vals xs us → Vals (xs.set i x) (us.set i u)
  | _, _, _, .nil => .nil
  | _, _, 0, .cons _ t => .cons r t
  | _, _, i + 1, .cons q t => .cons q (Vals.set r i t)
theorem Vals.append : ∀ {xs ys : List V} {us ws : List Value}, Vals xs us → Vals ys ws → Vals (xs ++ ys) (us ++ ws)
  | _, _, _, _, .nil, s => s
  | _, _, _, _, .cons r t, s => .cons r (Vals.append t s)
theorem Vals.take : ∀ {xs : List V} {us : List Value} (n : Nat), Vals xs us → Vals (xs.take n) (us.take n)
  | _, _, 0, _ => .nil
  | _, _, _ + 1, .nil => .nil
  | _, _, n + 1, .cons r t => .cons r (Vals.take n t)
theorem Vals.drop : ∀ {xs : List V} {us : List Value} (n : Nat), Vals xs us → Vals (xs.drop n) (us.drop n)
  | _, _, 0, r => r
  | _, _, _ + 1, .nil => .nil
  | _, _, n + 1, .cons _ t => Vals.drop n t
def RelO : Option V → Option Value → Prop
  | some v, some u => RelV v u
  | none, none => True
  | _, _ => False
def KV {κ : Type} : List (κ × V) → List (κ × Value) → Prop := Paired fun (p : κ × V) (q : κ × Value) => p.1 = q.1 ∧ RelV p.2 q.2

/-- a key of a dict (00_mix): an int or a text -/
def kV : Key → V
  | .inl i => .int i
  | .inr x => .str x

/-- what stands at a tracked address -/
inductive HO where
  /-- a list -/
  | lst (xs : List V)
  /-- a tuple (never changes) -/
  | tup (xs : List V)
  /-- a dict whose keys are ints and texts; one whose keys are tuples of ints and texts (the empty one is both) -/
  | dK (kvs : List (Key × V)) | dT (kvs : List (List Key × V))
  /-- a set of ints: its members, its size -/
  | set (S : Int → Bool) (n : Nat)
  /-- an instance of the class at C, its dict at dx, its attributes -/
  | ins (C dx : Addr) (fs : List (Str × V))
  /-- the dict of the instance at x -/
  | own (x : Addr)
  /-- the dict of an exception -/
  | xd (fs : List (Str × V))
  /-- a bound method, f of x -/
  | met (f x : Addr)
  /-- a range object lo, lo + 1, .. below hi -/
  | rng (lo hi : Int)
  /-- a thing that is known to the object (the script; a dict while a loop walks it): read, never written while it is so -/
  | frz (o : Obj) (u : HO)
  /-- a code object's table -/
  | tbl (ps : Array Value)
  /-- any other thing, by what is true of its one object (a def of one's own: SetO a S n := HO.ext fun h => ..) -/
  | ext (φ : Heap → Prop)

abbrev Hp := Addr → Option HO
def upd (H : Hp) (a : Addr) (o : HO) : Hp := fun b => if b = a then some o else H b
theorem upd_same {H : Hp} {a : Addr} {o : HO} : upd H a o a = some o := by unfold upd; rw [if_pos rfl]
theorem upd_ne {H : Hp} {a b : Addr} {o : HO} (h : b ≠ a) : upd H a o b = H b := by unfold upd; rw [if_neg h]
theorem ne_of_none {H : Hp} {a b : Addr} {o : HO} (h : H a = some o) (h' : H b = none) : a ≠ b := by
  intro e; subst e; rw [h] at h'; cases h'

section
variable (P : Program) (w : World)
def ObjOk (H : Hp) (h : Heap) (a : Addr) : HO → Prop
  | .lst xs => xs.length ≤ sizeLine ∧ ∃ (its : List Value) (n : Nat), Vals xs its ∧ h.get? a = some { cls := .type "list", data := .seq its.toArray n }
  | .tup xs => xs.length ≤ sizeLine ∧ ∃ its : List Value, Vals xs its ∧ IsTup h a its.toArray
  | .dK kvs => kvs.length ≤ sizeLine ∧ (a == sysModules) = false ∧ ∃ vs, KV kvs vs ∧ h.DictOf (mixKind P w) a vs
  | .dT kvs => kvs.length ≤ sizeLine ∧ (a == sysModules) = false ∧ ∃ xs : List (List Key × Addr × Value),
      Paired (fun (p : List Key × V) (q : List Key × Addr × Value) => p.1 = q.1 ∧ H q.2.1 = some (.tup (p.1.map kV)) ∧ RelV p.2 q.2.2) kvs xs ∧
      ∃ o es ep, h.get? a = some o ∧ o.ExactDict ∧ o.data = .dict es ep ∧ es.toList = xs.map (entryOfKey (tupleKind (mixKind P w))) ∧ (xs.map (·.1)).Nodup
  | .set S n => h.SetOf (intKind P w) a S n
  | .ins C dx fs => H dx = some (.own a) ∧ fs.length ≤ 1000 ∧ dx ≠ a ∧ h.get? a = some (PySem.W.instObj C dx) ∧
      ∃ mA, h.Ns1 dx mA ∧ (∀ f, RelO (fs.lookup f) (mA f)) ∧ PySem.Within mA (fs.map (·.1))
  | .own _ => ∃ o, h.get? a = some o
  | .xd fs => ∃ mA, h.Ns1 a mA ∧ ∀ f, RelO (fs.lookup f) (mA f)
  | .rng lo hi => ∃ t u v, h.get? a = some { cls := .type "range", data := .fields #[.int lo t, .int hi u, .int 1 v] }
  | .frz o u => h.get? a = some o ∧ ObjOk H h a u
  | .tbl ps => h.get? a = some { cls := .none, data := .fields ps }
  | .met f x => h.get? a = some (PySem.W.methodObj (.ref f) (.ref x))
  | .ext φ => φ h ∧ (∃ o, h.get? a = some o) ∧ ∀ h1 h2 : Heap, φ h1 → (∀ o, h1.get? a = some o → h2.get? a = some o) → φ h2
/-- the abstract heap is held -/
def HOk (H : Hp) (h : Heap) : Prop := ∀ a o, H a = some o → ObjOk P w H h a o
end

section
variable {P : Program} {w : World} {H H' : Hp} {h h' : Heap} {a : Addr} {o : HO}
theorem ObjOk.lt (x : ObjOk P w H h a o) : a < h.objs.size := by
  cases o with
  | lst xs => obtain ⟨_, _, _, _, e⟩ := x; exact Heap.lt_size e
  | tup xs => obtain ⟨_, _, _, p⟩ := x; exact p.lt
  | dK kvs => obtain ⟨_, _, _, _, o, _, _, e, _⟩ := x; exact Heap.lt_size e
  | dT kvs => obtain ⟨_, _, _, _, o, _, _, e, _⟩ := x; exact Heap.lt_size e
  | set S n => obtain ⟨o, _, _, _, e, _⟩ := x; exact Heap.lt_size e
  | ins C dx fs => obtain ⟨_, _, _, e, _⟩ := x; exact Heap.lt_size e
  | own y => obtain ⟨_, e⟩ := x; exact Heap.lt_size e
  | xd fs => obtain ⟨_, ⟨_, _, _, e, _⟩, _⟩ := x; exact Heap.lt_size e
  | rng lo hi => obtain ⟨_, _, _, e⟩ := x; exact Heap.lt_size e
  | frz ob u => obtain ⟨e, _⟩ := x; exact Heap.lt_size e
  | tbl ps => exact Heap.lt_size (show h.get? a = some _ from x)
  | met f y => exact Heap.lt_size (show h.get? a = some _ from x)
  | ext φ => obtain ⟨_, ⟨_, e⟩, _⟩ := x; exact Heap.lt_size e
theorem Paired.mapP {α β : Type} {F G : α → β → Prop} : ∀ {l₁ : List α} {l₂ : List β}, Paired F l₁ l₂ → (∀ a b, F a b → G a b) → Paired G l₁ l₂
  | _, _, .nil, _ => .nil
  | _, _, .cons r t, f => .cons (f _ _ r) (Paired.mapP t f)
/-- what an object's description leans on: its own object, its own dict, the tuples -/
theorem ObjOk.stay (x : ObjOk P w H h a o) (k : ∀ b u, (b = a ∨ H b = some (.own a)) → h.get? b = some u → h'.get? b = some u)
    (ho : ∀ b, H b = some (.own a) → H' b = some (.own a)) (ht : ∀ b xs, H b = some (.tup xs) → H' b = some (.tup xs)) : ObjOk P w H' h' a o := by
  induction o with
  | lst xs => obtain ⟨z, its, n, r, e⟩ := x; exact ⟨z, its, n, r, k _ _ (.inl rfl) e⟩
  | tup xs => obtain ⟨z, its, r, ob, e, c⟩ := x; exact ⟨z, its, r, ob, k _ _ (.inl rfl) e, c⟩
  | dK kvs => obtain ⟨z, y, vs, r, ob, es, ep, e, c⟩ := x; exact ⟨z, y, vs, r, ob, es, ep, k _ _ (.inl rfl) e, c⟩
  | dT kvs =>
    obtain ⟨z, y, xs, r, ob, es, ep, e, c⟩ := x
    exact ⟨z, y, xs, Paired.mapP r fun p q z => ⟨z.1, ht _ _ z.2.1, z.2.2⟩, ob, es, ep, k _ _ (.inl rfl) e, c⟩
  | set S n => obtain ⟨ob, es, ep, t, e, c⟩ := x; exact ⟨ob, es, ep, t, k _ _ (.inl rfl) e, c⟩
  | ins C dx fs =>
    obtain ⟨d, z, ne, e, mA, ⟨od, es, ep, e2, c⟩, r⟩ := x
    exact ⟨ho _ d, z, ne, k _ _ (.inl rfl) e, mA, ⟨od, es, ep, k _ _ (.inr d) e2, c⟩, r⟩
  | own y => obtain ⟨ob, e⟩ := x; exact ⟨ob, k _ _ (.inl rfl) e⟩
  | xd fs => obtain ⟨mA, ⟨od, es, ep, e, c⟩, r⟩ := x; exact ⟨mA, ⟨od, es, ep, k _ _ (.inl rfl) e, c⟩, r⟩
  | rng lo hi => obtain ⟨t, u, v, e⟩ := x; exact ⟨t, u, v, k _ _ (.inl rfl) e⟩
  | frz ob u ih => obtain ⟨e, q⟩ := x; exact ⟨k _ _ (.inl rfl) e, ih q⟩
  | tbl ps =>
    have e : h.get? a = some { cls := .none, data := .fields ps } := x
    show h'.get? a = some { cls := .none, data := .fields ps }
    exact k a _ (.inl rfl) e
  | met f y =>
    have e : h.get? a = some (PySem.W.methodObj (.ref f) (.ref y)) := x
    show h'.get? a = some (PySem.W.methodObj (.ref f) (.ref y))
    exact k a _ (.inl rfl) e
  | ext φ => obtain ⟨p, ⟨o, e⟩, st⟩ := x; exact ⟨st _ _ p fun o q => k _ _ (.inl rfl) q, ⟨o, k _ _ (.inl rfl) e⟩, st⟩
theorem HOk.lt (x : HOk P w H h) (e : H a = some o) : a < h.objs.size := (x a o e).lt
theorem HOk.fresh (x : HOk P w H h) (e : h.objs.size ≤ a) : H a = none := by
  cases q : H a with
  | none => rfl
  | some u => exact absurd (Nat.lt_of_lt_of_le (x.lt q) e) (Nat.lt_irrefl _)
/-- every object of the heap is kept -/
theorem HOk.kept (x : HOk P w H h) (k : ∀ b u, h.get? b = some u → h'.get? b = some u) : HOk P w H h' := fun a o e =>
  (x a o e).stay (fun b u _ q => k b u q) (fun _ q => q) fun _ _ q => q
/-- a new object is laid and tracked -/
theorem HOk.laid (x : HOk P w H h) (k : ∀ b u, h.get? b = some u → h'.get? b = some u) (hp : h.objs.size ≤ a) (new : ObjOk P w (upd H a o) h' a o) : HOk P w (upd H a o) h' := fun b u e => by
  have hn := x.fresh hp
  by_cases hb : b = a
  · subst hb; rw [upd_same] at e; cases e; exact new
  · rw [upd_ne hb] at e
    exact (x b u e).stay (fun c v _ q => k c v q) (fun c q => by rw [upd_ne (ne_of_none q hn)]; exact q) fun c xs q => by rw [upd_ne (ne_of_none q hn)]; exact q
end

/-- what may be read as u: it is u, or a known u -/
def Rd (H : Hp) (a : Addr) (u : HO) : Prop := H a = some u ∨ ∃ o, H a = some (.frz o u)
theorem Rd.ok {P : Program} {w : World} {H : Hp} {h : Heap} {a : Addr} {u : HO} (r : Rd H a u) (x : HOk P w H h) : ObjOk P w H h a u := by
  rcases r with r | ⟨o, r⟩
  · exact x a u r
  · obtain ⟨_, q⟩ := x a _ r
    exact q
/-- what may be written -/
def Mut : Option HO → Prop
  | some (.lst _) => True
  | some (.dK _) => True
  | some (.dT _) => True
  | some (.set _ _) => True
  | some (.ins _ _ _) => True
  | some (.ext _) => True
  | _ => False
section
variable {P : Program} {w : World} {H : Hp} {h h' : Heap} {x e : Addr} {o' : HO}
/-- the object at e is changed: x itself, or the dict of the instance x -/
theorem HOk.write (ok : HOk P w H h) (mu : Mut (H x)) (he : e = x ∨ H e = some (.own x)) (k : ∀ b u, b ≠ e → h.get? b = some u → h'.get? b = some u) (heo : ∃ u, h'.get? e = some u)
    (new : ObjOk P w (upd H x o') h' x o') : HOk P w (upd H x o') h' := fun b u q => by
  have nown : ∀ c y, H c = some (.own y) → c ≠ x := fun c y r z => by subst z; rw [r] at mu; exact mu
  have ntup : ∀ c xs, H c = some (.tup xs) → c ≠ x := fun c xs r z => by subst z; rw [r] at mu; exact mu
  by_cases hb : b = x
  · subst hb; rw [upd_same] at q; cases q; exact new
  · rw [upd_ne hb] at q
    by_cases hbe : b = e
    · have q' : H b = some (.own x) := by
        rcases he with z | z
        · exact absurd (hbe.trans z) hb
        · rw [hbe]; exact z
      rw [q] at q'; cases q'
      obtain ⟨v, hv⟩ := heo
      exact ⟨v, by rw [hbe]; exact hv⟩
    · refine (ok b u q).stay (fun c v hc r => k c v ?_ r) (fun c r => by rw [upd_ne (nown c b r)]; exact r) fun c xs r => by rw [upd_ne (ntup c xs r)]; exact r
      rcases hc with rfl | hc
      · exact hbe
      · rintro rfl
        rcases he with z | z
        · exact nown c b hc z
        · rw [hc] at z; cases z; exact hb rfl
end

/-! ### kept unless tracked; of the frames at fs (the callers') the slots may change (an exception that passes writes there); of the records at ex (iterators) nothing is said -/
structure Un (fs ex : List Addr) (H H' : Hp) (h h' : Heap) : Prop where
  keep : ∀ b o, h.get? b = some o → H b = none → b ∉ fs → b ∉ ex → h'.get? b = some o
  slot : ∀ b o, h.get? b = some o → H b = none → b ∈ fs → b ∉ ex → ∃ sl, h'.get? b = some { o with slots := sl }
  free : ∀ b o, h.get? b = some o → H b = none → b ∉ ex → H' b = none
  there : ∀ b o, h.get? b = some o → b ∉ ex → ∃ o', h'.get? b = some o'
  tups : ∀ b xs, H b = some (.tup xs) → H' b = some (.tup xs)
  frzs : ∀ b o u, H b = some (.frz o u) → H' b = some (.frz o u)
  tbls : ∀ b ps, H b = some (.tbl ps) → ∃ more, H' b = some (.tbl (ps ++ more))
section
variable {fs fs' ex ex' : List Addr} {H H1 H2 : Hp} {h h1 h2 h' : Heap} {a x e : Addr} {o : HO}
theorem Un.any (u : Un fs ex H H1 h h1) {b : Addr} {ob : Obj} (q : h.get? b = some ob) (n : H b = none) (hx : b ∉ ex) : ∃ sl, h1.get? b = some { ob with slots := sl } := by
  by_cases hb : b ∈ fs
  · exact u.slot b ob q n hb hx
  · exact ⟨ob.slots, u.keep b ob q n hb hx⟩
theorem Un.kept (k : ∀ b u, h.get? b = some u → h'.get? b = some u) : Un fs ex H H h h' :=
  ⟨fun b ob q _ _ _ => k b ob q, fun b ob q _ _ _ => ⟨ob.slots, k b ob q⟩, fun _ _ _ n _ => n, fun b ob q _ => ⟨ob, k b ob q⟩, fun _ _ q => q, fun _ _ _ q => q, fun _ ps q => ⟨#[], by rw [q]; simp⟩⟩
theorem Un.refl : Un fs ex H H h h := Un.kept fun _ _ q => q
theorem Un.laid (k : ∀ b u, h.get? b = some u → h'.get? b = some u) (hp : h.objs.size ≤ a) (hn : H a = none) : Un fs ex H (upd H a o) h h' where
  keep := fun b u q _ _ _ => k b u q
  slot := fun b u q _ _ _ => ⟨u.slots, k b u q⟩
  free := fun b u q n _ => by rw [upd_ne (Nat.ne_of_lt (Nat.lt_of_lt_of_le (Heap.lt_size q) hp))]; exact n
  there := fun b u q _ => ⟨u, k b u q⟩
  tups := fun b xs q => by rw [upd_ne (ne_of_none q hn)]; exact q
  frzs := fun b u xs q => by rw [upd_ne (ne_of_none q hn)]; exact q
  tbls := fun b ps q => ⟨#[], by rw [upd_ne (ne_of_none q hn), q]; simp⟩
theorem Un.write (mu : Mut (H x)) (he : e = x ∨ H e = some (.own x)) (k : ∀ b u, b ≠ e → h.get? b = some u → h'.get? b = some u) (heo : ∃ u, h'.get? e = some u) : Un fs ex H (upd H x o) h h' := by
  have hx : ∀ b, H b = none → b ≠ x := fun b n z => by subst z; rw [n] at mu; exact mu
  have hb : ∀ b, H b = none → b ≠ e := fun b n z => by
    subst z
    rcases he with r | r
    · exact hx b n r
    · rw [n] at r; cases r
  have hm : ∀ b u, H b = some u → ¬ Mut (some u) → b ≠ x := fun b u q nm z => by subst z; rw [q] at mu; exact nm mu
  refine ⟨fun b u q n _ _ => k b u (hb b n) q, fun b u q n _ _ => ⟨u.slots, k b u (hb b n) q⟩, fun b u q n _ => by rw [upd_ne (hx b n)]; exact n, fun b u q _ => ?_,
    fun b xs q => by rw [upd_ne (hm b _ q fun z => z)]; exact q, fun b u xs q => by rw [upd_ne (hm b _ q fun z => z)]; exact q, fun b ps q => ⟨#[], by rw [upd_ne (hm b _ q fun z => z), q]; simp⟩⟩
  by_cases hbe : b = e
  · subst hbe; exact heo
  · exact ⟨u, k b u hbe q⟩
end

/-! ### the heap without what is tracked -/
def trk (h : Heap) (H : Hp) : List Addr := (List.range h.objs.size).filter fun a => (H a).isSome
def hidT (h : Heap) (H : Hp) : Heap := PySem.W.hideAll h (trk h H)
theorem hidT_size (h : Heap) (H : Hp) : (hidT h H).objs.size = h.objs.size := PySem.W.hideAll_size _ _
theorem hidT_get {h : Heap} {H : Hp} {b : Addr} {o : Obj} (e : h.get? b = some o) (n : H b = none) : (hidT h H).get? b = some o :=
  PySem.W.hideAll_get _ e fun hm => by
    have q : (H b).isSome = true := (List.mem_filter.mp hm).2
    rw [n] at q; simp at q
theorem of_hidT {h : Heap} {H : Hp} {b : Addr} {o : Obj} (e : (hidT h H).get? b = some o) : h.get? b = some o ∧ H b = none := by
  have e' : h.get? b = some o := PySem.W.of_hideAll (trk h H) e
  refine ⟨e', ?_⟩
  cases q : H b with
  | none => rfl
  | some x =>
    have hm : b ∈ trk h H := List.mem_filter.mpr ⟨List.mem_range.mpr (Heap.lt_size e'), by simp [q]⟩
    have z : (hidT h H).get? b = none := PySem.W.hideAll_none (trk h H) hm
    rw [z] at e; cases e

/-! ### OpenK's ledger, filled with every new object but one -/
end L2

namespace L2
open PySem PySem.Spec PyProof.Rows

/-- the module's facts, over the base: the heap at the law's entry without what is tracked there -/
structure Mod (K : PySem.W.Frag) (mg : Str → Option Value) (base : Heap) : Prop where
  kin : K.In base
  glob : base.Ns mainGlobals mg
  blt : ∃ mb, base.Ns builtinsNs mb ∧ ∀ x : Str, x ≠ "__name__" → mb x = bootBuiltins x
  nolimit : base.NoLimit

/-- the context: a def's body (or a comprehension's block) running. base: fixed through the whole law; s₀, H₀: the entry; outer: the frames whose slots others may change (a def's callers); stack: all frames that run;
   ex: iterators that were made ahead of the entry and are walked here (a comprehension's); fn: the names whose cells were made at the entry (a def: all; a comprehension's block: its own); calm: not within an except suite; pn: pins that every state bears; xe: what is wanted of an exception that leaves the code -/
structure Cx where
  prog : Program
  w : World
  K : PySem.W.Frag
  mg : Str → Option Value
  base : Heap
  A : Around
  N : List Str
  s₀ : Shared
  H₀ : Hp
  env : Env
  outer : List Env
  stack : List Env
  ex : List Addr
  fn : Str → Bool
  calm : Bool
  pn : List (Addr × Obj)
  xe : Value → Shared → Prop
/-- the callers' frames -/
def frs (l : List Env) : List Addr := l.filterMap (·.frame)
abbrev Cx.fs (X : Cx) : List Addr := frs X.outer

def Vis (sc : Scope) (x : Str) : Prop := sc.names.lookup x = some .local ∨ sc.names.lookup x = some .cell ∨ sc.names.lookup x = some .free
def Loc (sc : Scope) (x : Str) : Prop := sc.names.lookup x = some .local ∨ sc.names.lookup x = some .cell
def Look (env : Env) (h : Heap) (m : Str → Option Value) (x : Str) (u : Value) : Prop :=
  (env.kindOf x = some .local ∧ m x = some u) ∨ ((env.kindOf x = some .cell ∨ env.kindOf x = some .free) ∧ ∃ c, env.cells.lookup x = some c ∧ h.IsCell c (some u))

structure Cx.Ok (X : Cx) : Prop where
  mod : Mod X.K X.mg X.base
  kind : X.env.scope.kind = .function
  glob : X.env.globals = mainGlobals
  blt : X.env.builtins = builtinsNs
  above : X.s₀.heap.objs.size ≤ X.env.locals
  inj : ∀ x y c, X.env.cells.lookup x = some c → X.env.cells.lookup y = some c → x = y
  has : ∀ x, (X.env.kindOf x = some .cell ∨ X.env.kindOf x = some .free) → ∃ c, X.env.cells.lookup x = some c
  cab : ∀ x c, X.fn x = true → X.env.cells.lookup x = some c → X.s₀.heap.objs.size ≤ c
  hd : X.calm = true → X.A.handled = none
  frames : X.A.frames = some X.stack
  stk : X.stack = X.outer ∨ (X.stack = X.env :: X.outer ∧ X.env.frame = some X.env.locals)
  exf : ∀ b ∈ X.ex, b ≠ X.env.locals ∧ ∀ x c, X.env.cells.lookup x = some c → c ≠ b
  bs : ∀ b o, X.base.get? b = some o → X.s₀.heap.get? b = some o ∧ X.H₀ b = none
  bsz : X.base.objs.size ≤ X.s₀.heap.objs.size
  noex : ∀ b o, X.base.get? b = some o → b ∉ X.ex
  exfs : ∀ b ∈ X.ex, b ∉ X.fs
  funs : X.s₀.heap.FunFrames X.base X.outer
  frf : ∀ b ∈ X.fs, X.H₀ b = none

structure Inv (X : Cx) (pins : List (Addr × Obj)) (σ : List (Option V)) (H : Hp) (s : Shared) : Prop where
  ok : X.Ok
  os : s.os = X.s₀.os
  bare : AllBare s.gens
  base : Un X.fs X.ex X.H₀ H X.s₀.heap s.heap
  loc : ∃ m, s.heap.Ns X.env.locals m ∧ ∀ (i : Nat) (x : Str) (v : V), X.N[i]? = some x → σ[i]? = some (some v) → Vis X.env.scope x → ∃ u, RelV v u ∧ Look X.env s.heap m x u
  cell : ∀ x c, X.env.cells.lookup x = some c → ∃ v, s.heap.IsCell c v
  free : H X.env.locals = none
  freeC : ∀ x c, X.env.cells.lookup x = some c → H c = none
  pin : ∀ p ∈ X.pn ++ pins, s.heap.get? p.1 = some p.2 ∧ H p.1 = none ∧ p.1 ≠ X.env.locals ∧ p.1 ∉ X.fs ∧ ∀ v, p.2.data ≠ .cell v
  hok : HOk X.prog X.w H s.heap
  len : σ.length = X.N.length

section
variable {X : Cx} {pins : List (Addr × Obj)} {σ : List (Option V)} {H H' : Hp} {s : Shared} {h' : Heap}

theorem Cx.Ok.nofr (ok : X.Ok) {b : Addr} {o : Obj} (e : X.base.get? b = some o) : b ∉ X.fs := fun hb => by
  have := (ok.funs.mem hb).1
  rw [e] at this; cases this
theorem Inv.bs (I : Inv X pins σ H s) : ∀ b o, X.base.get? b = some o → s.heap.get? b = some o ∧ H b = none := fun b o e =>
  ⟨I.base.keep b o (I.ok.bs b o e).1 (I.ok.bs b o e).2 (I.ok.nofr e) (I.ok.noex b o e), I.base.free b o (I.ok.bs b o e).1 (I.ok.bs b o e).2 (I.ok.noex b o e)⟩
theorem Inv.bk (I : Inv X pins σ H s) : ∀ b o, X.base.get? b = some o → s.heap.get? b = some o := fun b o e => (I.bs b o e).1
theorem Inv.mod (I : Inv X pins σ H s) : Mod X.K X.mg X.base := I.ok.mod
theorem Inv.kIn (I : Inv X pins σ H s) : X.K.In s.heap := I.ok.mod.kin.keeps I.bk
theorem Inv.lt (I : Inv X pins σ H s) : X.env.locals < s.heap.objs.size := let ⟨_, hn, _⟩ := I.loc; hn.lt
theorem Inv.sz (I : Inv X pins σ H s) : X.s₀.heap.objs.size ≤ s.heap.objs.size := Nat.le_trans I.ok.above (Nat.le_of_lt I.lt)
theorem Inv.nofs (I : Inv X pins σ H s) {a : Addr} (h : s.heap.objs.size ≤ a) : a ∉ X.fs := fun hb => by
  obtain ⟨_, o, ho, _⟩ := I.ok.funs.mem hb
  exact absurd (Nat.lt_of_lt_of_le (Heap.lt_size ho) (Nat.le_trans I.sz h)) (Nat.lt_irrefl _)
theorem Inv.cne (I : Inv X pins σ H s) : ∀ x c, X.env.cells.lookup x = some c → c ≠ X.env.locals := fun x c e z => by
  obtain ⟨v, o, ho, hd⟩ := I.cell x c e
  obtain ⟨m, ⟨o', es, ep, ho', hd', _⟩, _⟩ := I.loc
  rw [z, ho'] at ho; cases ho; rw [hd'] at hd; cases hd
theorem Inv.funs (I : Inv X pins σ H s) : s.heap.FunFrames X.base X.outer := by
  have all : ∀ (l : List Env), (∀ b ∈ frs l, b ∈ X.fs) → X.s₀.heap.FunFrames X.base l → s.heap.FunFrames X.base l := by
    intro l
    induction l with
    | nil => intro _ _; trivial
    | cons env r ih =>
      intro hs hl
      obtain ⟨hk, ⟨L, o, hf, hn, ho, hd⟩, hr⟩ := hl
      have hL : L ∈ X.fs := hs L (by unfold frs; rw [List.filterMap_cons, hf]; exact List.mem_cons_self)
      obtain ⟨sl, e⟩ := I.base.slot L o ho (I.ok.frf L hL) hL fun z => I.ok.exfs L z hL
      exact ⟨hk, ⟨L, _, hf, hn, e, hd⟩, ih (fun b hb => hs b (by unfold frs; rw [List.filterMap_cons, hf]; exact List.mem_cons_of_mem _ hb)) hr⟩
  exact all X.outer (fun _ hb => hb) I.ok.funs

/-- the frames that run, for a call -/
theorem Inv.stack (I : Inv X pins σ H s) : s.heap.FunFrames X.base X.stack := by
  rcases I.ok.stk with e | ⟨e, hf⟩
  · rw [e]; exact I.funs
  · rw [e]
    obtain ⟨m, hn, _⟩ := I.loc
    refine .cons (by rw [I.ok.kind]; decide) hf hn ?_ I.funs
    exact Heap.get?_none_of_le (Nat.le_trans I.ok.bsz I.ok.above)
theorem Inv.stkSub (I : Inv X pins σ H s) : ∀ b ∈ frs X.stack, b ∈ X.env.locals :: X.fs := fun b hb => by
  rcases I.ok.stk with e | ⟨e, hf⟩
  · rw [e] at hb; exact List.mem_cons_of_mem _ hb
  · rw [e] at hb
    unfold frs at hb
    rw [List.filterMap_cons, hf] at hb
    exact hb
theorem Inv.stkFree (I : Inv X pins σ H s) : ∀ b ∈ frs X.stack, H b = none := fun b hb => by
  rcases List.mem_cons.mp (I.stkSub b hb) with e | hb
  · rw [e]; exact I.free
  · obtain ⟨_, o, ho, _⟩ := I.ok.funs.mem hb
    exact I.base.free b o ho (I.ok.frf b hb) fun z => I.ok.exfs b z hb

/-- THE STEP: the untracked objects but the frame and the records at ch are kept (the callers' frames up to slots), the frame's map is kept, the new abstract heap is held -/
theorem Inv.step {g' : Array GenState} {t' : Nat} {d' : Drawn} {ch : List Addr} (I : Inv X pins σ H s)
    (hch : ∀ b ∈ ch, (b ∈ X.ex ∨ X.s₀.heap.objs.size ≤ b) ∧ b ≠ X.env.locals ∧ (∀ x c, X.env.cells.lookup x = some c → c ≠ b) ∧ ∀ p ∈ X.pn ++ pins, p.1 ≠ b)
    (keep : ∀ b o, b ≠ X.env.locals → b ∉ X.fs → b ∉ ch → s.heap.get? b = some o → H b = none → h'.get? b = some o)
    (slot : ∀ b o, b ≠ X.env.locals → b ∈ X.fs → b ∉ ch → s.heap.get? b = some o → H b = none → ∃ sl, h'.get? b = some { o with slots := sl }) (free : ∀ b o, b ∉ ch → s.heap.get? b = some o → H b = none → H' b = none)
    (there : ∀ b o, b ∉ ch → s.heap.get? b = some o → ∃ o', h'.get? b = some o')
    (tups : ∀ b xs, H b = some (.tup xs) → H' b = some (.tup xs)) (frzs : ∀ b o u, H b = some (.frz o u) → H' b = some (.frz o u)) (tbls : ∀ b ps, H b = some (.tbl ps) → ∃ more, H' b = some (.tbl (ps ++ more)))
    (ns : ∀ m, s.heap.Ns X.env.locals m → h'.Ns X.env.locals m) (hok : HOk X.prog X.w H' h') (hg : AllBare g') :
    Inv X pins σ H' { s with heap := h', gens := g', drawn := d', toks := t' } := by
  have neL : ∀ b o, X.s₀.heap.get? b = some o → b ≠ X.env.locals := fun b o e => Nat.ne_of_lt (Nat.lt_of_lt_of_le (Heap.lt_size e) I.ok.above)
  have neC : ∀ b o, X.s₀.heap.get? b = some o → b ∉ X.ex → b ∉ ch := fun b o e hx hb => by
    rcases (hch b hb).1 with z | z
    · exact hx z
    · exact absurd (Nat.lt_of_lt_of_le (Heap.lt_size e) z) (Nat.lt_irrefl _)
  have cellK : ∀ x c, X.env.cells.lookup x = some c → ∀ v, s.heap.IsCell c v → h'.IsCell c v := fun x c e v ⟨o, ho, hd⟩ => by
    have nch : c ∉ ch := fun z => (hch c z).2.2.1 x c e rfl
    by_cases hc : c ∈ X.fs
    · obtain ⟨sl, q⟩ := slot c o (I.cne x c e) hc nch ho (I.freeC x c e)
      exact ⟨_, q, hd⟩
    · exact ⟨o, keep c o (I.cne x c e) hc nch ho (I.freeC x c e), hd⟩
  refine ⟨I.ok, I.os, hg, ⟨fun b o e n hb hx => ?_, fun b o e n hb hx => ?_, fun b o e n hx => ?_, fun b o e hx => ?_, fun b xs e => tups b xs (I.base.tups b xs e), fun b o xs e => frzs b o xs (I.base.frzs b o xs e), fun b ps e => ?_⟩, ?_, fun x c e => ?_, ?_, fun x c e => ?_, fun p hp => ?_, hok, I.len⟩
  · exact keep b o (neL b o e) hb (neC b o e hx) (I.base.keep b o e n hb hx) (I.base.free b o e n hx)
  · obtain ⟨sl, e1⟩ := I.base.slot b o e n hb hx
    obtain ⟨sl', e2⟩ := slot b _ (neL b o e) hb (neC b o e hx) e1 (I.base.free b o e n hx)
    exact ⟨sl', e2⟩
  · obtain ⟨o', e1⟩ := I.base.there b o e hx
    exact free b o' (neC b o e hx) e1 (I.base.free b o e n hx)
  · obtain ⟨o', e1⟩ := I.base.there b o e hx
    exact there b o' (neC b o e hx) e1
  · obtain ⟨m1, e1⟩ := I.base.tbls b ps e
    obtain ⟨m2, e2⟩ := tbls b _ e1
    exact ⟨m1 ++ m2, by rw [e2, Array.append_assoc]⟩
  · obtain ⟨m, hn, hl⟩ := I.loc
    refine ⟨m, ns m hn, fun i x v e1 e2 e3 => ?_⟩
    obtain ⟨u, r, l⟩ := hl i x v e1 e2 e3
    refine ⟨u, r, ?_⟩
    rcases l with l | ⟨k, c, e, z⟩
    · exact .inl l
    · exact .inr ⟨k, c, e, cellK x c e _ z⟩
  · obtain ⟨v, z⟩ := I.cell x c e
    exact ⟨v, cellK x c e v z⟩
  · obtain ⟨m, ⟨o, _, _, ho, _⟩, _⟩ := I.loc
    exact free _ o (fun z => (hch _ z).2.1 rfl) ho I.free
  · obtain ⟨v, o, ho, hd⟩ := I.cell x c e
    exact free c o (fun z => (hch c z).2.2.1 x c e rfl) ho (I.freeC x c e)
  · obtain ⟨e, n, ne, nf, d⟩ := I.pin p hp
    have nch : p.1 ∉ ch := fun z => (hch p.1 z).2.2.2 p hp rfl
    exact ⟨keep p.1 p.2 ne nf nch e n, free p.1 p.2 nch e n, ne, nf, d⟩
/-- .. where the frame's own object is kept too -/
theorem Inv.un {t' : Nat} (I : Inv X pins σ H s) (u : Un X.fs [] H H' s.heap h') (hok : HOk X.prog X.w H' h') : Inv X pins σ H' { s with heap := h', toks := t' } := by
  obtain ⟨m, ⟨o, es, ep, ho, r⟩, _⟩ := id I.loc
  obtain ⟨sl, hL⟩ := u.any ho I.free (by simp)
  exact I.step (g' := s.gens) (d' := s.drawn) (ch := []) (fun _ z => nomatch z) (fun b o _ hb _ e n => u.keep b o e n hb (by simp)) (fun b o _ hb _ e n => u.slot b o e n hb (by simp)) (fun b o _ e n => u.free b o e n (by simp)) (fun b o _ e => u.there b o e (by simp)) u.tups u.frzs u.tbls (fun m' hm => by
    obtain ⟨o', es', ep', ho', r'⟩ := hm
    rw [ho] at ho'; cases ho'
    exact ⟨_, es', ep', hL, r'⟩) hok I.bare
/-- behind a call (or a comprehension's block): the slots of this frame may have changed too, the records at ch may have turned -/
theorem Inv.call {g' : Array GenState} {t' : Nat} {d' : Drawn} {ch : List Addr} (I : Inv X pins σ H s) (u : Un (frs X.stack) ch H H' s.heap h') (hok : HOk X.prog X.w H' h') (hg : AllBare g')
    (hch : ∀ b ∈ ch, (b ∈ X.ex ∨ X.s₀.heap.objs.size ≤ b) ∧ b ≠ X.env.locals ∧ (∀ x c, X.env.cells.lookup x = some c → c ≠ b) ∧ ∀ p ∈ X.pn ++ pins, p.1 ≠ b) :
    Inv X pins σ H' { s with heap := h', gens := g', drawn := d', toks := t' } := by
  obtain ⟨m, ⟨o, es, ep, ho, r⟩, _⟩ := id I.loc
  obtain ⟨sl, hL⟩ := u.any ho I.free fun z => (hch _ z).2.1 rfl
  exact I.step (ch := ch) hch (fun b o hL hb hc e n => u.keep b o e n (fun z => (List.mem_cons.mp (I.stkSub b z)).elim hL hb) hc) (fun b o _ _ hc e n => u.any e n hc) (fun b o hc e n => u.free b o e n hc) (fun b o hc e => u.there b o e hc) u.tups u.frzs u.tbls (fun m' hm => by
    obtain ⟨o', es', ep', ho', r'⟩ := hm
    rw [ho] at ho'; cases ho'
    exact ⟨_, es', ep', hL, r'⟩) hok hg
/-- an untracked record of ours (an iterator) has turned -/
theorem Inv.turned {t' : Nat} {it : Addr} (I : Inv X pins σ H s) (k : ∀ b o, b ≠ it → s.heap.get? b = some o → h'.get? b = some o) (hn : H it = none) (hL : it ≠ X.env.locals)
    (h1 : it ∈ X.ex ∨ X.s₀.heap.objs.size ≤ it) (h2 : ∀ x c, X.env.cells.lookup x = some c → c ≠ it) (h3 : ∀ p ∈ X.pn ++ pins, p.1 ≠ it) : Inv X pins σ H { s with heap := h', toks := t' } := by
  have nit : ∀ b u, H b = some u → b ≠ it := fun b u e z => by rw [z, hn] at e; cases e
  refine I.step (g' := s.gens) (d' := s.drawn) (ch := [it]) (fun b hb => ?_) (fun b o _ _ hc e _ => k b o (fun z => hc (by simp [z])) e) (fun b o _ _ hc e _ => ⟨o.slots, k b o (fun z => hc (by simp [z])) e⟩) (fun _ _ _ _ n => n)
    (fun b o hc e => ⟨o, k b o (fun z => hc (by simp [z])) e⟩) (fun _ _ e => e) (fun _ _ _ e => e) (fun b ps e => ⟨#[], by rw [e]; simp⟩) (fun m hm => ?_) (fun b u e => ?_) I.bare
  · have e : b = it := by simpa using hb
    subst e
    exact ⟨h1, hL, h2, h3⟩
  · obtain ⟨o, es, ep, ho, r⟩ := hm
    exact ⟨o, es, ep, k _ o (Ne.symm hL) ho, r⟩
  · refine (I.hok b u e).stay (fun c v hc q => k c v ?_ q) (fun _ q => q) fun _ _ q => q
    rcases hc with z | z
    · rw [z]; exact nit b u e
    · exact nit c _ z
theorem Inv.tok (I : Inv X pins σ H s) (t : Nat) : Inv X pins σ H { s with toks := t } := I.un (h' := s.heap) (t' := t) Un.refl I.hok
/-- all objects kept -/
theorem Inv.kept {t' : Nat} (I : Inv X pins σ H s) (k : ∀ b u, s.heap.get? b = some u → h'.get? b = some u) : Inv X pins σ H { s with heap := h', toks := t' } := I.un (Un.kept k) (I.hok.kept k)
/-- a new object laid and tracked -/
theorem Inv.laid {a : Addr} {o : HO} {t' : Nat} (I : Inv X pins σ H s) (k : ∀ b u, s.heap.get? b = some u → h'.get? b = some u) (hp : s.heap.objs.size ≤ a) (new : ObjOk X.prog X.w (upd H a o) h' a o) :
    Inv X pins σ (upd H a o) { s with heap := h', toks := t' } := I.un (Un.laid k hp (I.hok.fresh hp)) (I.hok.laid k hp new)
/-- an object written -/
theorem Inv.write {x e : Addr} {o : HO} {t' : Nat} (I : Inv X pins σ H s) (mu : Mut (H x)) (he : e = x ∨ H e = some (.own x)) (k : ∀ b u, b ≠ e → s.heap.get? b = some u → h'.get? b = some u) (heo : ∃ u, h'.get? e = some u)
    (new : ObjOk X.prog X.w (upd H x o) h' x o) : Inv X pins σ (upd H x o) { s with heap := h', toks := t' } := I.un (Un.write mu he k heo) (I.hok.write mu he k heo new)
/-- forgetting slots, pins -/
theorem Inv.weak {σ' : List (Option V)} (I : Inv X pins σ H s) (hl : σ'.length = σ.length) (w : ∀ (i : Nat) v, σ'[i]? = some (some v) → σ[i]? = some (some v)) : Inv X pins σ' H s :=
  ⟨I.ok, I.os, I.bare, I.base, let ⟨m, hn, hl'⟩ := I.loc; ⟨m, hn, fun i x v e1 e2 e3 => hl' i x v e1 (w i v e2) e3⟩, I.cell, I.free, I.freeC, I.pin, I.hok, hl.trans I.len⟩
theorem Inv.pins_of {pins' : List (Addr × Obj)} (I : Inv X pins σ H s) (h : ∀ p ∈ pins', s.heap.get? p.1 = some p.2 ∧ H p.1 = none ∧ p.1 ≠ X.env.locals ∧ p.1 ∉ X.fs ∧ ∀ v, p.2.data ≠ .cell v) : Inv X pins' σ H s :=
  ⟨I.ok, I.os, I.bare, I.base, I.loc, I.cell, I.free, I.freeC, fun p hp => (List.mem_append.mp hp).elim (fun z => I.pin p (List.mem_append_left _ z)) (h p), I.hok, I.len⟩

theorem nodup_ix {N : List Str} (hN : N.Nodup) {i j : Nat} {x : Str} (a : N[i]? = some x) (b : N[j]? = some x) : i = j := by
  obtain ⟨h1, e1⟩ := List.getElem?_eq_some_iff.mp a
  obtain ⟨h2, e2⟩ := List.getElem?_eq_some_iff.mp b
  exact (List.getElem_inj hN).mp (e1.trans e2.symm)

/-- a name is stored; what changed -/
theorem store_ok2 {M : Model} {A : Around} {E : Value → Shared → Prop} {i : Nat} {x : Str} {v : V} {u : Value} {Q : Unit → Shared → Prop} (I : Inv X pins σ H s) (hN : X.N.Nodup) (hi : X.N[i]? = some x) (hx : Loc X.env.scope x) (r : RelV v u)
    (h : ∀ s', Inv X pins (σ.set i (some v)) H s' → (∃ a, Heap.SameBut a s.heap s'.heap ∧ (a = X.env.locals ∨ X.env.cells.lookup x = some a)) → Q () s') (hf : X.fn x = true ∨ X.env.scope.names.lookup x = some .local := by first | exact .inl rfl | exact .inr rfl | assumption) : wpAny M A (storeName X.env x u) Q E s := by
  obtain ⟨m, hn, hl⟩ := id I.loc
  have hcls : (X.env.scope.kind == .class || (X.env.scope.kind == .module && X.env.locals != X.env.globals)) = false := by rw [I.ok.kind]; rfl
  have hiσ : i < σ.length := by rw [I.len]; exact (List.getElem?_eq_some_iff.mp hi).1
  have cne := I.cne
  have tracked : ∀ {a : Addr} {h' : Heap}, (∃ o, s.heap.get? a = some o ∧ H a = none) → Heap.SameBut a s.heap h' → HOk X.prog X.w H h' := fun {a h'} ha hs b ob e => by
    obtain ⟨_, _, hfree⟩ := ha
    refine (I.hok b ob e).stay (fun c w' hc q => (hs.2 c ?_).trans q) (fun _ q => q) fun _ _ q => q
    rintro rfl
    rcases hc with rfl | hc
    · rw [hfree] at e; cases e
    · rw [hfree] at hc; cases hc
  rcases hx with hk | hk
  · refine wpAny_storeName_local hk hn (fun h' hn' hs => ?_) hcls
    obtain ⟨oL, _, _, hoL, _⟩ := id hn
    refine h _ ⟨I.ok, I.os, I.bare, ⟨fun b o e n hb hx => ?_, fun b o e n hb hx => ?_, I.base.free, fun b o e hx => ?_, I.base.tups, I.base.frzs, I.base.tbls⟩, ⟨_, hn', fun j y v' e1 e2 e3 => ?_⟩, fun y c e => ?_, I.free, I.freeC, fun p hp => ?_, tracked ⟨oL, hoL, I.free⟩ hs, by simpa using I.len⟩ ⟨_, hs, .inl rfl⟩
    · exact (hs.2 b (Nat.ne_of_lt (Nat.lt_of_lt_of_le (Heap.lt_size e) I.ok.above))).trans (I.base.keep b o e n hb hx)
    · obtain ⟨sl, e1⟩ := I.base.slot b o e n hb hx
      exact ⟨sl, (hs.2 b (Nat.ne_of_lt (Nat.lt_of_lt_of_le (Heap.lt_size e) I.ok.above))).trans e1⟩
    · obtain ⟨o', e1⟩ := I.base.there b o e hx
      exact ⟨o', (hs.2 b (Nat.ne_of_lt (Nat.lt_of_lt_of_le (Heap.lt_size e) I.ok.above))).trans e1⟩
    · by_cases hj : j = i
      · subst hj
        rw [hi] at e1; cases e1
        rw [List.getElem?_set_self hiσ] at e2
        cases e2
        exact ⟨u, r, .inl ⟨hk, by simp⟩⟩
      · rw [List.getElem?_set_ne (Ne.symm hj)] at e2
        obtain ⟨u', r', q⟩ := hl j y v' e1 e2 e3
        refine ⟨u', r', ?_⟩
        rcases q with ⟨k, e⟩ | ⟨k, c, e, z⟩
        · refine .inl ⟨k, ?_⟩
          have : y ≠ x := fun e => hj (nodup_ix hN e1 (e ▸ hi))
          simp [this, e]
        · exact .inr ⟨k, c, e, z.sameBut hs (cne y c e)⟩
    · obtain ⟨w', z⟩ := I.cell y c e
      exact ⟨w', z.sameBut hs (cne y c e)⟩
    · obtain ⟨e, n, ne, nf, d⟩ := I.pin p hp
      exact ⟨(hs.2 p.1 ne).trans e, n, ne, nf, d⟩
  · have hfn : X.fn x = true := by
      rcases hf with z | z
      · exact z
      · rw [z] at hk; cases hk
    obtain ⟨c, hc⟩ := I.ok.has x (.inl hk)
    obtain ⟨w', z⟩ := I.cell x c hc
    refine wpAny_storeName_cell I.ok.kind hk hc z (fun h' hc' hs => ?_)
    obtain ⟨oc, hoc, hocd⟩ := id z
    refine h { s with heap := h' } ⟨I.ok, I.os, I.bare, ⟨fun b o e n hb hx => ?_, fun b o e n hb hx => ?_, I.base.free, fun b o e hx => ?_, I.base.tups, I.base.frzs, I.base.tbls⟩, ⟨m, hn.sameBut hs (Ne.symm (cne x c hc)), fun j y v' e1 e2 e3 => ?_⟩, fun y c' e => ?_, I.free, I.freeC, fun p hp => ?_, tracked ⟨oc, hoc, I.freeC x c hc⟩ hs, by simpa using I.len⟩ ⟨c, hs, .inr hc⟩
    · exact (hs.2 b (Nat.ne_of_lt (Nat.lt_of_lt_of_le (Heap.lt_size e) (I.ok.cab x c hfn hc)))).trans (I.base.keep b o e n hb hx)
    · obtain ⟨sl, e1⟩ := I.base.slot b o e n hb hx
      exact ⟨sl, (hs.2 b (Nat.ne_of_lt (Nat.lt_of_lt_of_le (Heap.lt_size e) (I.ok.cab x c hfn hc)))).trans e1⟩
    · obtain ⟨o', e1⟩ := I.base.there b o e hx
      exact ⟨o', (hs.2 b (Nat.ne_of_lt (Nat.lt_of_lt_of_le (Heap.lt_size e) (I.ok.cab x c hfn hc)))).trans e1⟩
    · by_cases hj : j = i
      · subst hj
        rw [hi] at e1; cases e1
        rw [List.getElem?_set_self hiσ] at e2
        cases e2
        exact ⟨u, r, .inr ⟨.inl hk, c, hc, hc'⟩⟩
      · rw [List.getElem?_set_ne (Ne.symm hj)] at e2
        obtain ⟨u', r', q⟩ := hl j y v' e1 e2 e3
        refine ⟨u', r', ?_⟩
        rcases q with q | ⟨k, c', e, z'⟩
        · exact .inl q
        · refine .inr ⟨k, c', e, z'.sameBut hs ?_⟩
          rintro rfl
          exact hj (nodup_ix hN e1 (I.ok.inj _ _ _ e hc ▸ hi))
    · by_cases hcc : c' = c
      · subst hcc; exact ⟨_, hc'⟩
      · obtain ⟨w2, z2⟩ := I.cell y c' e
        exact ⟨w2, z2.sameBut hs hcc⟩
    · obtain ⟨e, n, ne, nf, d⟩ := I.pin p hp
      refine ⟨(hs.2 p.1 ?_).trans e, n, ne, nf, d⟩
      intro q
      rw [q, hoc] at e
      have q' : oc = p.2 := Option.some.inj e
      exact d w' (by rw [← q']; exact hocd)
theorem store_ok {M : Model} {A : Around} {E : Value → Shared → Prop} {i : Nat} {x : Str} {v : V} {u : Value} {Q : Unit → Shared → Prop} (I : Inv X pins σ H s) (hN : X.N.Nodup) (hi : X.N[i]? = some x) (hx : Loc X.env.scope x) (r : RelV v u)
    (h : ∀ s', Inv X pins (σ.set i (some v)) H s' → Q () s') (hf : X.fn x = true ∨ X.env.scope.names.lookup x = some .local := by first | exact .inl rfl | exact .inr rfl | assumption) : wpAny M A (storeName X.env x u) Q E s :=
  store_ok2 I hN hi hx r (fun s' I' _ => h s' I') hf
/-- behind a call or a block, the state as it is -/
theorem Inv.call' {s' : Shared} {ch : List Addr} (I : Inv X pins σ H s) (ho : s'.os = s.os) (u : Un (frs X.stack) ch H H' s.heap s'.heap) (hok : HOk X.prog X.w H' s'.heap) (hg : AllBare s'.gens)
    (hch : ∀ b ∈ ch, (b ∈ X.ex ∨ X.s₀.heap.objs.size ≤ b) ∧ b ≠ X.env.locals ∧ (∀ x c, X.env.cells.lookup x = some c → c ≠ b) ∧ ∀ p ∈ X.pn ++ pins, p.1 ≠ b) : Inv X pins σ H' s' := by
  obtain ⟨h', g', d', t', o'⟩ := s'
  have e : o' = s.os := ho
  subst e
  exact I.call (g' := g') (t' := t') (d' := d') u hok hg hch
end

/-! ### the judgements -/
/-- an exception: its class, its own dict's address (where it has one), the abstract heap behind it -/
abbrev XK := Value → Option Addr → Hp → Prop
abbrev St := List (Option V)
abbrev VK := V → Hp → Prop
/-- an expression's reading; a test's; an argument list's -/
abbrev TE := St → Hp → VK → Prop
abbrev TT := St → Hp → (Bool → Hp → Prop) → Prop
abbrev TA := St → Hp → (List V → Hp → Prop) → Prop
/-- what is wanted behind a statement -/
structure Ends where
  nx : St → Hp → Prop
  rt : VK
  bk : St → Hp → Prop := fun _ _ => False
  ct : St → Hp → Prop := fun _ _ => False
abbrev TS := Ends → St → Hp → Prop

def EP (X : Cx) (pins : List (Addr × Obj)) (σ : St) (Q : VK) (u : Value) (s' : Shared) : Prop := ∃ v H', Inv X pins σ H' s' ∧ RelV v u ∧ Q v H'
def TP (X : Cx) (pins : List (Addr × Obj)) (σ : St) (Q : Bool → Hp → Prop) (b : Bool) (s' : Shared) : Prop := ∃ H', Inv X pins σ H' s' ∧ Q b H'
def AP (X : Cx) (pins : List (Addr × Obj)) (σ : St) (Q : List V → Hp → Prop) (us : List Value) (s' : Shared) : Prop := ∃ vs H', Inv X pins σ H' s' ∧ Vals vs us ∧ Q vs H'
def SP (X : Cx) (pins : List (Addr × Obj)) (D : Ends) (f : Flow) (s' : Shared) : Prop :=
  match f with
  | .next => ∃ σ' H', Inv X pins σ' H' s' ∧ D.nx σ' H'
  | .brk => ∃ σ' H', Inv X pins σ' H' s' ∧ D.bk σ' H'
  | .cont => ∃ σ' H', Inv X pins σ' H' s' ∧ D.ct σ' H'
  | .ret u => ∃ v σ' H', Inv X pins σ' H' s' ∧ RelV v u ∧ D.rt v H'

def PE (X : Cx) (e : Expr) (t : TE) : Prop :=
  ∀ (pins : List (Addr × Obj)) (s : Shared) (σ : St) (H : Hp) (Q : VK), Inv X pins σ H s → t σ H Q → wpAny (model X.prog X.w) X.A (eval e X.env) (EP X pins σ Q) X.xe s
def PT (X : Cx) (e : Expr) (t : TT) : Prop :=
  ∀ (pins : List (Addr × Obj)) (s : Shared) (σ : St) (H : Hp) (Q : Bool → Hp → Prop), Inv X pins σ H s → t σ H Q → wpAny (model X.prog X.w) X.A (isTrue e X.env (eval e X.env)) (TP X pins σ Q) X.xe s
/-- a test whatever its 'whole' is (and, or) -/
def PW (X : Cx) (e : Expr) (t : TT) : Prop :=
  ∀ (whole : Sem Value) (pins : List (Addr × Obj)) (s : Shared) (σ : St) (H : Hp) (Q : Bool → Hp → Prop), Inv X pins σ H s → t σ H Q → wpAny (model X.prog X.w) X.A (isTrue e X.env whole) (TP X pins σ Q) X.xe s
theorem PW.pt {X : Cx} {e : Expr} {t : TT} (h : PW X e t) : PT X e t := h _
/-- an argument list (no star), from the left -/
def PA (X : Cx) (es : List Expr) (t : TA) : Prop :=
  ∀ (pos : Pos) (pins : List (Addr × Obj)) (s : Shared) (σ : St) (H : Hp) (Q : List V → Hp → Prop), Inv X pins σ H s → t σ H Q → wpAny (model X.prog X.w) X.A (spliced (backTo pos (starEach es X.env))) (AP X pins σ Q) X.xe s
def PS (X : Cx) (st : Stmt) (t : TS) : Prop :=
  ∀ (pins : List (Addr × Obj)) (s : Shared) (σ : St) (H : Hp) (D : Ends), Inv X pins σ H s → t D σ H → wpAny (model X.prog X.w) X.A (exec st X.env) (SP X pins D) X.xe s
def PSs (X : Cx) (st : List Stmt) (t : TS) : Prop :=
  ∀ (pins : List (Addr × Obj)) (s : Shared) (σ : St) (H : Hp) (D : Ends), Inv X pins σ H s → t D σ H → wpAny (model X.prog X.w) X.A (execs st X.env) (SP X pins D) X.xe s
/-- weaken the end -/
theorem thn {α : Type} {t : Sem α} {Q Q' : α → Shared → Prop} {M : Model} {A : Around} {E : Value → Shared → Prop} {s : Shared} (h : wpAny M A t Q E s) (hQ : ∀ a s, Q a s → Q' a s) : wpAny M A t Q' E s := wpAny_mono h hQ fun _ _ x => x
end L2

namespace L2
open PySem PySem.Spec PyProof.Rows
section
variable {X : Cx}

/-! ### names and constants -/
def tVar (i : Nat) : TE := fun σ H Q => ∃ v, σ[i]? = some (some v) ∧ Q v H
def tC (v : V) : TE := fun _ H Q => Q v H
theorem pe_var {i : Nat} {x : Str} {pos : Pos} (hN : X.N[i]? = some x) (hv : Vis X.env.scope x) (hd : (x == ("__debug__" : Str)) = false := by decide) (hcd : (x == ("__classdict__" : Str)) = false := by decide) : PE X (.Name x pos) (tVar i) := by
  intro pins s σ H Q I h
  obtain ⟨v, e, h⟩ := h
  obtain ⟨m, hn, hl⟩ := I.loc
  obtain ⟨u, r, l⟩ := hl i x v hN e hv
  have fin : EP X pins σ Q u s := ⟨v, H, I, r, h⟩
  rcases l with ⟨hk, hm⟩ | ⟨hk, c, hc, hcell⟩
  · exact wpAny_Name (wpAny_loadName_local I.ok.kind hk hn hm fin) hd
  · rcases hk with hk | hk
    · exact wpAny_Name (wpAny_loadName_cell I.ok.kind hk hc hcell fin) hd
    · exact wpAny_Name (wpAny_loadName_free I.ok.kind hk hc hcell fin hcd) hd
theorem pe_int {i j pos} : PE X (.Constant (.int i) j pos) (tC (.int i)) := fun _ _ _ H _ I h => wpAny_Constant_int ⟨.int i, H, I.tok _, ⟨_, rfl⟩, h⟩
theorem pe_bl {b j pos} : PE X (.Constant (.bool b) j pos) (tC (.bl b)) := fun _ _ _ H _ I h => Constant_bool ⟨.bl b, H, I, rfl, h⟩
theorem pe_non {j pos} : PE X (.Constant .none j pos) (tC .non) := fun _ _ _ H _ I h => Constant_none ⟨.non, H, I, rfl, h⟩
theorem pe_str {x j pos} : PE X (.Constant (.str x) j pos) (tC (.str x)) := fun _ _ _ H _ I h => Calls.Constant_str ⟨.str x, H, I.tok _, ⟨_, rfl⟩, h⟩

/-- a global name of the def -/
def Gl (X : Cx) (x : Str) : Prop := X.env.kindOf x = some .globalImplicit
theorem ld_glob {E : Value → Shared → Prop} {pins : List (Addr × Obj)} {s : Shared} {σ : St} {H : Hp} {x : Str} {u : Value} {pos : Pos} {Q : Value → Shared → Prop} (I : Inv X pins σ H s) (hg : Gl X x) (hm : X.mg x = some u) (h : Q u s)
    (hd : (x == ("__debug__" : Str)) = false := by decide) : wpAny (model X.prog X.w) X.A (eval (.Name x pos) X.env) Q E s :=
  Calls.Name_function_global I.ok.kind hg (Calls.loadGlobal_global (by rw [I.ok.glob]; exact I.mod.glob.keeps I.bk) hm h) hd
theorem ld_blt {E : Value → Shared → Prop} {pins : List (Addr × Obj)} {s : Shared} {σ : St} {H : Hp} {x : Str} {u : Value} {pos : Pos} {Q : Value → Shared → Prop} (I : Inv X pins σ H s) (hg : Gl X x) (hm : X.mg x = none) (hv : bootBuiltins x = some u) (h : Q u s)
    (hn : x ≠ "__name__" := by decide) (hd : (x == ("__debug__" : Str)) = false := by decide) : wpAny (model X.prog X.w) X.A (eval (.Name x pos) X.env) Q E s := by
  obtain ⟨mb, h1, h2⟩ := I.mod.blt
  exact Calls.Name_function_global I.ok.kind hg (Calls.loadGlobal_builtin (by rw [I.ok.glob]; exact I.mod.glob.keeps I.bk) hm (by rw [I.ok.blt]; exact h1.keeps I.bk) ((h2 x hn).trans hv) h) hd
/-- a module's constant, a class, a function, as a value -/
theorem pe_glob {x : Str} {v : V} {u : Value} {pos : Pos} (hg : Gl X x) (hm : X.mg x = some u) (r : RelV v u) (hd : (x == ("__debug__" : Str)) = false := by decide) : PE X (.Name x pos) (tC v) :=
  fun _ _ _ H _ I h => ld_glob I hg hm ⟨v, H, I, r, h⟩ hd
theorem pe_bltn {x : Str} {v : V} {u : Value} {pos : Pos} (hg : Gl X x) (hm : X.mg x = none) (hv : bootBuiltins x = some u) (r : RelV v u) (hn : x ≠ "__name__" := by decide) (hd : (x == ("__debug__" : Str)) = false := by decide) : PE X (.Name x pos) (tC v) :=
  fun _ _ _ H _ I h => ld_blt I hg hm hv ⟨v, H, I, r, h⟩ hn hd

/-! ### arithmetic -/
variable {a b : Expr} {ta tb : TE} {pos : Pos}
/-! ### comparisons -/
theorem nobehind (b : Expr) {op : CmpOp} (h : op ≠ .In) (h2 : op ≠ .NotIn) : behindInMarks op b = false := by
  have e1 : (op == CmpOp.In) = false := by cases op <;> first | rfl | exact absurd rfl h
  have e2 : (op == CmpOp.NotIn) = false := by cases op <;> first | rfl | exact absurd rfl h2
  cases b <;> simp [behindInMarks, e1, e2]
/-- a comparison as a value, as a test -/
def tB (t : TE) : TT := fun σ H Q => t σ H fun x H1 => ∃ c, x = .bl c ∧ Q c H1
/-- an expression whose value is a bool, as a test -/
theorem pt_val {e : Expr} {t : TE} (h : PE X e t) (he : ∀ whole, isTrue e X.env whole = (do let v ← whole; standAt e.pos; holding [v] (truthy v)) := by intro _; rfl) : PT X e (tB t) := by
  intro pins s σ H Q I hw
  refine isTrue_plain (thn (h pins s σ H _ I hw) fun v s1 ⟨x, H1, I1, r1, q1⟩ => ?_) (he _)
  obtain ⟨d, rfl, q⟩ := q1
  cases r1
  exact wpAny_truthy_bool ⟨H1, I1, q⟩

/-! ### and, or, not -/
variable {tA tB' : TT} {rest : List Expr}
def tAnd (t u : TT) : TT := fun σ H Q => t σ H fun c H1 => if c = true then u σ H1 Q else Q false H1
def tOr (t u : TT) : TT := fun σ H Q => t σ H fun c H1 => if c = true then Q true H1 else u σ H1 Q
def tNot (t : TT) : TT := fun σ H Q => t σ H fun c H1 => Q (!c) H1
theorem pw_and1 (ha : PT X a tA) : PW X (.BoolOp .And [a] pos) tA := by
  intro wh pins s σ H Q I h
  refine isTrue_and (thn (ha pins s σ H Q I h) fun c s1 e => ?_)
  cases c with
  | true => exact isTrue_and_nil e
  | false => exact e
theorem pw_or1 (ha : PT X a tA) : PW X (.BoolOp .Or [a] pos) tA := by
  intro wh pins s σ H Q I h
  refine isTrue_or (thn (ha pins s σ H Q I h) fun c s1 e => ?_)
  cases c with
  | false => exact isTrue_or_nil e
  | true => exact e
theorem pw_and (ha : PT X a tA) (hb : PW X (.BoolOp .And (b :: rest) pos) tB') : PW X (.BoolOp .And (a :: b :: rest) pos) (tAnd tA tB') := by
  intro wh pins s σ H Q I h
  refine isTrue_and (thn (ha pins s σ H _ I h) fun c s1 ⟨H1, I1, q1⟩ => ?_)
  cases c with
  | true => exact hb wh pins s1 σ H1 Q I1 q1
  | false => exact ⟨H1, I1, q1⟩
theorem pw_or (ha : PT X a tA) (hb : PW X (.BoolOp .Or (b :: rest) pos) tB') : PW X (.BoolOp .Or (a :: b :: rest) pos) (tOr tA tB') := by
  intro wh pins s σ H Q I h
  refine isTrue_or (thn (ha pins s σ H _ I h) fun c s1 ⟨H1, I1, q1⟩ => ?_)
  cases c with
  | true => exact ⟨H1, I1, q1⟩
  | false => exact hb wh pins s1 σ H1 Q I1 q1
theorem pt_not (ha : PT X a tA) : PT X (.UnaryOp .Not a pos) (tNot tA) := by
  intro pins s σ H Q I h
  exact isTrue_not (ha pins s σ H (fun c H1 => Q (!c) H1) I h)
/-- .. as values (bools) -/
def tAndV (ta tb : TE) : TE := fun σ H Q => ta σ H fun x H1 => ∃ c, x = .bl c ∧ if c = true then tb σ H1 Q else Q (.bl false) H1
def tOrV (ta tb : TE) : TE := fun σ H Q => ta σ H fun x H1 => ∃ c, x = .bl c ∧ if c = true then Q (.bl true) H1 else tb σ H1 Q
def tNotV (ta : TE) : TE := fun σ H Q => ta σ H fun x H1 => ∃ c, x = .bl c ∧ Q (.bl (!c)) H1
theorem pe_one {op} {t : TE} (h : PE X a t) : PE X (.BoolOp op [a] pos) t := fun pins s σ H Q I hw => BoolOp_one (h pins s σ H Q I hw)
theorem pe_and (ha : PE X a ta) (hb : PE X (.BoolOp .And (b :: rest) pos) tb) : PE X (.BoolOp .And (a :: b :: rest) pos) (tAndV ta tb) := by
  intro pins s σ H Q I h
  refine BoolOp_and (thn (ha pins s σ H _ I h) fun v s1 ⟨x, H1, I1, r1, q1⟩ => ?_)
  obtain ⟨c, rfl, q1⟩ := q1
  cases r1
  refine wpAny_truthy_bool ?_
  cases c with
  | true => exact hb pins s1 σ H1 Q I1 q1
  | false => exact ⟨.bl false, H1, I1, rfl, q1⟩
theorem pe_or (ha : PE X a ta) (hb : PE X (.BoolOp .Or (b :: rest) pos) tb) : PE X (.BoolOp .Or (a :: b :: rest) pos) (tOrV ta tb) := by
  intro pins s σ H Q I h
  refine BoolOp_or (thn (ha pins s σ H _ I h) fun v s1 ⟨x, H1, I1, r1, q1⟩ => ?_)
  obtain ⟨c, rfl, q1⟩ := q1
  cases r1
  refine wpAny_truthy_bool ?_
  cases c with
  | false => exact hb pins s1 σ H1 Q I1 q1
  | true => exact ⟨.bl true, H1, I1, rfl, q1⟩
theorem pe_not (ha : PE X a ta) : PE X (.UnaryOp .Not a pos) (tNotV ta) := by
  intro pins s σ H Q I h
  refine UnaryOp_ (thn (ha pins s σ H _ I h) fun v s1 ⟨x, H1, I1, r1, q1⟩ => ?_)
  obtain ⟨c, rfl, q1⟩ := q1
  cases r1
  exact not_of (wpAny_truthy_bool ⟨.bl (!c), H1, I1, rfl, q1⟩)
end
end L2

namespace L2
open PySem PySem.Spec PyProof.Rows

/-! ### a list, a tuple that is read: tracked, frozen, or an object of the module -/
def SqL (K : PySem.W.Frag) (H : Hp) (a : Addr) (xs : List V) : Prop :=
  Rd H a (.lst xs) ∨
    ∃ (o : Obj) (its : Array Value) (n : Nat), K.lookup a = some o ∧ o.cls = .type "list" ∧ o.dict = none ∧ o.data = .seq its n ∧ its.size ≤ sizeLine ∧ Vals xs its.toList
def SqT (K : PySem.W.Frag) (H : Hp) (a : Addr) (xs : List V) : Prop :=
  Rd H a (.tup xs) ∨
    ∃ (o : Obj) (its : Array Value) (n : Nat), K.lookup a = some o ∧ o.cls = .type "tuple" ∧ o.data = .seq its n ∧ its.size ≤ sizeLine ∧ Vals xs its.toList
def absV : Value → Option V
  | .none => some .non
  | .bool b => some (.bl b)
  | .int i _ => some (.int i)
  | .str x _ => some (.str x)
  | .bytes b _ => some (.byt b)
  | .float b _ => some (.flt b)
  | .ref a => some (.ref a)
  | .type n => some (.ty n)
  | _ => none
theorem RelV.abs {x : V} {u : Value} (r : RelV x u) : absV u = some x := by
  cases x with
  | non => cases r; rfl
  | bl _ => cases r; rfl
  | int _ => obtain ⟨t, rfl⟩ := r; rfl
  | str _ => obtain ⟨t, rfl⟩ := r; rfl
  | byt _ => obtain ⟨t, rfl⟩ := r; rfl
  | flt _ => obtain ⟨t, rfl⟩ := r; rfl
  | ref _ => cases r; rfl
  | ty _ => cases r; rfl
theorem RelV.inj {x y : V} {u : Value} (r : RelV x u) (q : RelV y u) : x = y := Option.some.inj (r.abs.symm.trans q.abs)
theorem Vals.inj : ∀ {xs ys : List V} {us : List Value}, Vals xs us → Vals ys us → xs = ys
  | _, _, _, .nil, .nil => rfl
  | _, _, _, .cons r t, .cons r' t' => by rw [r.inj r', Vals.inj t t']
section
variable {X : Cx} {pins : List (Addr × Obj)} {σ : St} {H : Hp} {s : Shared} {a : Addr} {xs ys : List V}
theorem SqL.of {K : PySem.W.Frag} (h : H a = some (.lst xs)) : SqL K H a xs := .inl (.inl h)
theorem SqT.of {K : PySem.W.Frag} (h : H a = some (.tup xs)) : SqT K H a xs := .inl (.inl h)
theorem Inv.list (I : Inv X pins σ H s) (h : SqL X.K H a xs) : ∃ its : List Value, Vals xs its ∧ PlainL s.heap a its.toArray ∧ xs.length ≤ sizeLine := by
  rcases h with h | ⟨o, its, n, hk, hc, hd, hs, hz, r⟩
  · obtain ⟨z, its, n, r, e⟩ := h.ok I.hok
    exact ⟨its, r, ⟨_, n, e, rfl, rfl, rfl⟩, z⟩
  · refine ⟨its.toList, r, ⟨o, n, I.kIn a o hk, hc, hd, by simpa using hs⟩, ?_⟩
    have e := r.length
    simp only [Array.length_toList] at e
    omega
theorem Inv.tuple (I : Inv X pins σ H s) (h : SqT X.K H a xs) : ∃ its : List Value, Vals xs its ∧ IsTup s.heap a its.toArray ∧ xs.length ≤ sizeLine := by
  rcases h with h | ⟨o, its, n, hk, hc, hs, hz, r⟩
  · obtain ⟨z, its, r, p⟩ := h.ok I.hok
    exact ⟨its, r, p, z⟩
  · refine ⟨its.toList, r, ⟨o, I.kIn a o hk, hc, n, by simpa using hs⟩, ?_⟩
    have e := r.length
    simp only [Array.length_toList] at e
    omega
theorem Inv.list_inj (I : Inv X pins σ H s) (h : SqL X.K H a xs) (h' : SqL X.K H a ys) : xs = ys := by
  obtain ⟨its, r, ⟨o, n, e, _, _, d⟩, _⟩ := I.list h
  obtain ⟨its', r', ⟨o', n', e', _, _, d'⟩, _⟩ := I.list h'
  rw [e] at e'; cases e'
  rw [d] at d'
  injection d' with d1 _
  have : its = its' := by simpa using congrArg Array.toList d1
  subst this
  exact r.inj r'
end

/-! ### another wish about exceptions -/
abbrev Cx.wish (X : Cx) (E : Value → Shared → Prop) : Cx := { X with xe := E }
/-- no exception leaves -/
abbrev Cx.nox (X : Cx) : Cx := X.wish fun _ _ => False
theorem Cx.Ok.wish {X : Cx} (ok : X.Ok) (E : Value → Shared → Prop) : (X.wish E).Ok :=
  ⟨ok.mod, ok.kind, ok.glob, ok.blt, ok.above, ok.inj, ok.has, ok.cab, ok.hd, ok.frames, ok.stk, ok.exf, ok.bs, ok.bsz, ok.noex, ok.exfs, ok.funs, ok.frf⟩
theorem Cx.Ok.unwish {X : Cx} {E : Value → Shared → Prop} (ok : (X.wish E).Ok) : X.Ok :=
  ⟨ok.mod, ok.kind, ok.glob, ok.blt, ok.above, ok.inj, ok.has, ok.cab, ok.hd, ok.frames, ok.stk, ok.exf, ok.bs, ok.bsz, ok.noex, ok.exfs, ok.funs, ok.frf⟩
section
variable {X : Cx} {pins : List (Addr × Obj)} {σ : St} {H : Hp} {s : Shared} {E : Value → Shared → Prop}
theorem Inv.wish (I : Inv X pins σ H s) (E : Value → Shared → Prop) : Inv (X.wish E) pins σ H s := ⟨I.ok.wish E, I.os, I.bare, I.base, I.loc, I.cell, I.free, I.freeC, I.pin, I.hok, I.len⟩
theorem Inv.unwish (I : Inv (X.wish E) pins σ H s) : Inv X pins σ H s := ⟨I.ok.unwish, I.os, I.bare, I.base, I.loc, I.cell, I.free, I.freeC, I.pin, I.hok, I.len⟩
theorem SP.unwish {D : Ends} {f : Flow} {s' : Shared} (h : SP (X.wish E) pins D f s') : SP X pins D f s' := by
  cases f with
  | next => obtain ⟨σ', H', I, q⟩ := h; exact ⟨σ', H', I.unwish, q⟩
  | brk => obtain ⟨σ', H', I, q⟩ := h; exact ⟨σ', H', I.unwish, q⟩
  | cont => obtain ⟨σ', H', I, q⟩ := h; exact ⟨σ', H', I.unwish, q⟩
  | ret u => obtain ⟨v, σ', H', I, r, q⟩ := h; exact ⟨v, σ', H', I.unwish, r, q⟩
theorem PSs.nox {st : List Stmt} {t : TS} (h : PSs X.nox st t) : PSs X st t := fun pins s σ H D I hw =>
  wpAny_mono (h pins s σ H D (I.wish _) hw) (fun _ _ q => q.unwish) fun _ _ z => False.elim z
end

/-! ### blocks and small statements -/
section
variable {X : Cx} {st : Stmt} {rest : List Stmt} {t u : TS} {e : Expr} {te : TE} {pos : Pos}
def tNext : TS := fun D σ H => D.nx σ H
def tSeq (t u : TS) : TS := fun D σ H => t { D with nx := u D } σ H
theorem pss_nil : PSs X [] tNext := fun _ _ σ H _ I h => wpAny_execs_nil ⟨σ, H, I, h⟩
theorem pss_cons (h1 : PS X st t) (h2 : PSs X rest u) : PSs X (st :: rest) (tSeq t u) := by
  intro pins s σ H D I h
  refine wpAny_execs_cons (thn (h1 pins s σ H { D with nx := u D } I h) fun f s1 q => ?_)
  cases f with
  | next =>
    obtain ⟨σ', H', I', q⟩ := q
    exact h2 pins s1 σ' H' D I' q
  | ret v => exact q
  | brk => exact q
  | cont => exact q
theorem pss_one (h1 : PS X st t) : PSs X [st] t := by
  intro pins s σ H D I h
  refine wpAny_execs_cons (thn (h1 pins s σ H D I h) fun f s1 q => ?_)
  cases f with
  | next => exact wpAny_execs_nil q
  | ret v => exact q
  | brk => exact q
  | cont => exact q
/-- in a def's body nothing is shown -/
theorem Inv.quiet {pins : List (Addr × Obj)} {σ : St} {H : Hp} {s : Shared} (I : Inv X pins σ H s) : interactive X.env = false := by simp [interactive, I.ok.kind]
/-- an expression whose value is dropped -/
def tDrop (te : TE) : TS := fun D σ H => te σ H fun _ H1 => D.nx σ H1
theorem ps_expr (he : PE X e te) (hs : swapsWith e none pos.line X.env = pure false := by rfl) : PS X (.Expr e pos) (tDrop te) := by
  intro pins s σ H D I h
  exact wpAny_Expr_any (thn (he pins s σ H _ I h) fun v s1 ⟨x, H1, I1, r1, q1⟩ => ⟨σ, H1, I1, q1⟩) I.quiet hs
def tRet (te : TE) : TS := fun D σ H => te σ H D.rt
theorem ps_ret (he : PE X e te) : PS X (.Return (some e) pos) (tRet te) := by
  intro pins s σ H D I h
  exact wpAny_Return_some (thn (he pins s σ H _ I h) fun v s1 ⟨x, H1, I1, r1, q1⟩ => ⟨x, σ, H1, I1, r1, q1⟩)
def tIfS (c : TT) (t u : TS) : TS := fun D σ H => c σ H fun b H1 => if b = true then t D σ H1 else u D σ H1
theorem ps_if {c : Expr} {a b : List Stmt} {tc : TT} (hc : PT X c tc) (ha : PSs X a t) (hb : PSs X b u) : PS X (.If c a b pos) (tIfS tc t u) := by
  intro pins s σ H D I h
  refine wpAny_If (thn (hc pins s σ H _ I h) fun d s1 ⟨H1, I1, q1⟩ => ?_)
  cases d with
  | true => exact ha pins s1 σ H1 D I1 q1
  | false => exact hb pins s1 σ H1 D I1 q1
end

/-! ### targets -/
abbrev TG := V → St → Hp → (St → Hp → Prop) → Prop
abbrev TGs := List V → St → Hp → (St → Hp → Prop) → Prop
def PG (X : Cx) (target : Expr) (t : TG) : Prop :=
  ∀ (pins : List (Addr × Obj)) (s : Shared) (σ : St) (H : Hp) (v : V) (u : Value) (Q : St → Hp → Prop), Inv X pins σ H s → RelV v u → t v σ H Q →
    wpAny (model X.prog X.w) X.A (assign target X.env u) (fun _ s' => ∃ σ' H', Inv X pins σ' H' s' ∧ Q σ' H') X.xe s
/-- several targets, one after another -/
def PGs (X : Cx) (ts : List Expr) (t : TGs) : Prop :=
  ∀ (pins : List (Addr × Obj)) (s : Shared) (σ : St) (H : Hp) (vs : List V) (us : List Value) (Q : St → Hp → Prop), Inv X pins σ H s → Vals vs us → t vs σ H Q →
    wpAny (model X.prog X.w) X.A (assignInOrder ((assignEach ts X.env).map (·.2)) us) (fun _ s' => ∃ σ' H', Inv X pins σ' H' s' ∧ Q σ' H') X.xe s
/-- o[i] = v, by values -/
abbrev TSet := V → V → V → Hp → (Hp → Prop) → Prop
def PSet (X : Cx) (t : TSet) : Prop :=
  ∀ (pins : List (Addr × Obj)) (s : Shared) (σ : St) (H : Hp) (o i v : V) (ov iv u : Value) (Q : Hp → Prop), Inv X pins σ H s → RelV o ov → RelV i iv → RelV v u → t o i v H Q →
    wpAny (model X.prog X.w) X.A (setItem ov iv u) (fun _ s' => ∃ H', Inv X pins σ H' s' ∧ Q H') X.xe s
section
variable {X : Cx} {pos : Pos}
def gName (i : Nat) : TG := fun v σ H Q => Q (σ.set i (some v)) H
theorem pg_name {i : Nat} {x : Str} (hN : X.N.Nodup) (hi : X.N[i]? = some x) (hx : Loc X.env.scope x) (hf : X.fn x = true ∨ X.env.scope.names.lookup x = some .local := by first | exact .inl rfl | exact .inr rfl | assumption) : PG X (.Name x pos) (gName i) := by
  intro pins s σ H v u Q I r h
  exact wpAny_assign_Name (store_ok I hN hi hx r (fun s' I' => ⟨_, H, I', h⟩) hf)
def gNil : TGs := fun vs σ H Q => vs = [] ∧ Q σ H
def gCons (t : TG) (u : TGs) : TGs := fun vs σ H Q => ∃ v r, vs = v :: r ∧ t v σ H fun σ' H' => u r σ' H' Q
theorem pgs_nil : PGs X [] gNil := by
  intro pins s σ H vs us Q I r h
  obtain ⟨e, h⟩ := h
  subst e
  cases r
  exact assignInOrder_nil ⟨σ, H, I, h⟩
theorem pgs_cons {e : Expr} {es : List Expr} {t : TG} {u : TGs} (h1 : PG X e t) (h2 : PGs X es u)
    (hs : (assignEach (e :: es) X.env).map (·.2) = assign e X.env :: (assignEach es X.env).map (·.2) := by rfl) : PGs X (e :: es) (gCons t u) := by
  intro pins s σ H vs us Q I r h
  obtain ⟨v, vr, e1, h⟩ := h
  subst e1
  cases r with
  | cons r rr =>
    rw [hs]
    refine assignInOrder_cons (thn (h1 pins s σ H _ _ _ I r h) fun _ s1 ⟨σ1, H1, I1, q1⟩ => ?_)
    exact h2 pins s1 σ1 H1 _ _ Q I1 rr q1
/-- (a, b, ..) = a tuple of that length -/
def gTup (K : PySem.W.Frag) (n : Nat) (t : TGs) : TG := fun v σ H Q => ∃ a xs, v = .ref a ∧ SqT K H a xs ∧ xs.length = n ∧ t xs σ H Q
theorem pg_tup {es : List Expr} {k : Nat} {t : TGs} {n : Nat} (hc : X.calm = true) (h : PGs X es t)
    (hn : (assignEach es X.env).length = n := by rfl) (hst : (assignEach es X.env).findIdx? (·.1) = none := by rfl) : PG X (.Tuple es k pos) (gTup X.K n t) := by
  intro pins s σ H v u Q I r hw
  obtain ⟨a, xs, e1, hq, hl, hw⟩ := hw
  subst e1
  cases r
  obtain ⟨its, rv, ht, hz⟩ := I.tuple hq
  refine assign_Tuple_tuple (I.ok.hd hc) ht (by simp [hn, ← hl, rv.length]) hst fun h' hx => ?_
  have I1 : Inv X pins σ H { s with heap := h' } := I.kept (t' := s.toks) fun b o e => hx b o (Nat.ne_of_lt (Heap.lt_size e)) e
  exact h pins _ σ H xs _ Q I1 (by simpa using rv) hw
/-- o[i] = .. -/
def gSub (to ti : TE) (t : TSet) : TG := fun v σ H Q => to σ H fun o H1 => ti σ H1 fun i H2 => t o i v H2 fun H3 => Q σ H3
theorem pg_sub {o i : Expr} {to ti : TE} {t : TSet} (ho : PE X o to) (hi : PE X i ti) (hs : PSet X t)
    (ha : ∀ v, assign (.Subscript o i pos) X.env v = (do
      let ov ← holding [v] (eval o X.env)
      let iv ← holding [v, ov] (eval i X.env)
      standAt pos
      holding [v, ov, iv] (setItem ov iv v)
      release [v, ov, iv] []) := by intro _; rfl) : PG X (.Subscript o i pos) (gSub to ti t) := by
  intro pins s σ H v u Q I r h
  rw [ha]
  refine wpAny_bind (wpAny_holding (thn (ho pins s σ H _ I h) fun ov s1 ⟨x, H1, I1, r1, q1⟩ => ?_))
  refine wpAny_bind (wpAny_holding (thn (hi pins s1 σ H1 _ I1 q1) fun iv s2 ⟨y, H2, I2, r2, q2⟩ => ?_))
  refine wpAny_bind (wpAny_standAt (wpAny_bind (wpAny_holding (thn (hs pins s2 σ H2 x y v ov iv u _ I2 r1 r2 r q2) fun _ s3 ⟨H3, I3, q3⟩ => ?_))))
  exact wpAny_release ⟨σ, H3, I3, q3⟩
/-- target = value -/
def tAsg (te : TE) (g : TG) : TS := fun D σ H => te σ H fun x H1 => g x σ H1 D.nx
theorem ps_asg {tg e : Expr} {te : TE} {g : TG} (he : PE X e te) (hg : PG X tg g) (hs : swapsWithSole [tg] e pos.line X.env = pure false := by rfl) (hw : swappedStores [tg] e X.env = pure none := by rfl)
    (h1 : (assignEach [tg] X.env).map (·.2) = [assign tg X.env] := by rfl) : PS X (.Assign [tg] e pos) (tAsg te g) := by
  intro pins s σ H D I h
  refine wpAny_Assign_stores (thn (he pins s σ H _ I h) fun v s1 ⟨x, H1, I1, r1, q1⟩ => ?_) hs hw
  rw [h1]
  exact thn (hg pins s1 σ H1 x v _ I1 r1 q1) fun _ s2 q => q
/-- name = value -/
theorem ps_set {i : Nat} {x : Str} {e : Expr} {te : TE} {pos' : Pos} (hN : X.N.Nodup) (hi : X.N[i]? = some x) (hx : Loc X.env.scope x) (he : PE X e te) (hs : swapsWith e (some (.Name x pos')) pos.line X.env = pure false := by rfl) (hf : X.fn x = true ∨ X.env.scope.names.lookup x = some .local := by first | exact .inl rfl | exact .inr rfl | assumption) :
    PS X (.Assign [.Name x pos'] e pos) (tAsg te (gName i)) := by
  intro pins s σ H D I h
  refine wpAny_Assign_Name (thn (he pins s σ H _ I h) fun v s1 ⟨y, H1, I1, r1, q1⟩ => ?_) hs
  exact store_ok I1 hN hi hx r1 (fun s2 I2 => ⟨_, H1, I2, q1⟩) hf
end

/-! ### while -/
section
variable {X : Cx} {pos : Pos}
end

/-! ### what a loop or a comprehension walks -/
/-- at turn i: it yields x (the heap may grow), or it stops -/
structure It where
  go : Nat → Hp → Prop
  yld : Nat → Hp → V → Hp → Prop
  stop : Nat → Hp → Prop
/-- the iterator's own objects may turn: they are not the frame's, not pinned, younger than the entry (or a comprehension's own) -/
def FpOk (X : Cx) (pins : List (Addr × Obj)) (H : Hp) (b : Addr) : Prop :=
  H b = none ∧ b ≠ X.env.locals ∧ b ∉ X.fs ∧ (b ∈ X.ex ∨ X.s₀.heap.objs.size ≤ b) ∧ (∀ x c, X.env.cells.lookup x = some c → c ≠ b) ∧ ∀ p ∈ X.pn ++ pins, p.1 ≠ b
theorem Inv.fpOk {X : Cx} {pins : List (Addr × Obj)} {σ : St} {H H' : Hp} {s : Shared} {b : Addr} (I : Inv X pins σ H s) (hb : s.heap.objs.size ≤ b) (hn : H' b = none) : FpOk X pins H' b := by
  refine ⟨hn, Nat.ne_of_gt (Nat.lt_of_lt_of_le I.lt hb), I.nofs hb, .inr (Nat.le_trans I.sz hb), fun x c e z => ?_, fun p hp z => ?_⟩
  · obtain ⟨v, q⟩ := I.cell x c e
    exact absurd (Nat.lt_of_lt_of_le q.lt (by rw [z]; exact hb)) (Nat.lt_irrefl _)
  · exact absurd (Nat.lt_of_lt_of_le (Heap.lt_size (I.pin p hp).1) (by rw [z]; exact hb)) (Nat.lt_irrefl _)
structure Turn (P : Program) (w : World) (K : PySem.W.Frag) (tg : Expr) (J : It) (fp : List Addr) (it : Addr) (tn : Nat → Heap → Prop) : Prop where
  mem : it ∈ fp
  obj : ∀ i h, tn i h → ∀ b ∈ fp, ∃ o, h.get? b = some o ∧ ∀ v, o.data ≠ .cell v
  keep : ∀ i h h', tn i h → (∀ b ∈ fp, ∀ o, h.get? b = some o → h'.get? b = some o) → tn i h'
  item : ∀ (X : Cx), X.prog = P → X.w = w → X.K = K → X.calm = true → ∀ (i : Nat) (pins : List (Addr × Obj)) (s : Shared) (σ : St) (H : Hp) (E : Value → Shared → Prop), Inv X pins σ H s → (∀ b ∈ fp, FpOk X pins H b) → tn i s.heap → J.go i H →
    wpAny (model P w) X.A (pyNext (.ref it)) (fun r s1 => ∃ u, r = some u ∧
      wpAny (model P w) X.A (letOwnedTupleGo tg (.ref it) u) (fun _ s2 => ∃ x H', Inv X pins σ H' s2 ∧ RelV x u ∧ J.yld i H x H' ∧ tn (i + 1) s2.heap ∧ ∀ b ∈ fp, H' b = none) E s1) E s
  done : ∀ (X : Cx), X.prog = P → X.w = w → X.K = K → X.calm = true → ∀ (i : Nat) (pins : List (Addr × Obj)) (s : Shared) (σ : St) (H : Hp) (E : Value → Shared → Prop), Inv X pins σ H s → (∀ b ∈ fp, FpOk X pins H b) → tn i s.heap → J.stop i H →
    wpAny (model P w) X.A (pyNext (.ref it)) (fun r s1 => r = none ∧ Inv X pins σ H s1) E s
  self : ∀ (A : Around) (i : Nat) (s : Shared) (Q : Value → Shared → Prop) (E : Value → Shared → Prop), tn i s.heap → Q (.ref it) s → wpAny (model P w) A (pyIter (.ref it)) Q E s
abbrev TI := St → Hp → (It → Hp → Prop) → Prop
/-- an iterator has come -/
def PIE (X : Cx) (pins : List (Addr × Obj)) (σ : St) (tg : Expr) (R : It → Hp → Prop) (itv : Value) (s2 : Shared) : Prop :=
  ∃ (it : Addr) (fp : List Addr) (tn : Nat → Heap → Prop) (J : It) (H' : Hp), itv = .ref it ∧ Inv X pins σ H' s2 ∧ Turn X.prog X.w X.K tg J fp it tn ∧ tn 0 s2.heap ∧ (∀ b ∈ fp, FpOk X pins H' b) ∧ R J H'
def PI (X : Cx) (tg iter : Expr) (wi : TI) : Prop :=
  ∀ (pins : List (Addr × Obj)) (s : Shared) (σ : St) (H : Hp) (R : It → Hp → Prop), Inv X pins σ H s → wi σ H R →
    wpAny (model X.prog X.w) X.A (eval iter X.env) (fun v s1 => wpAny (model X.prog X.w) X.A (pyIter v) (PIE X pins σ tg R) X.xe s1) X.xe s

/-- the step ahead of the store is nothing for an iterator that keeps no tuple -/
theorem go_of {M : Model} {A : Around} {E : Value → Shared → Prop} {s : Shared} {tg : Expr} {it : Addr} {u : Value} {o : Obj} {n : String} {vs : Array Value} {Q : Unit → Shared → Prop} (ho : s.heap.get? it = some o) (hc : o.cls = .type n) (hd : o.data = .fields vs)
    (hn : ["enumerate", "zip", "dict_itemiterator", "dict_reverseitemiterator", "odict_iterator", "itertools.zip_longest", "itertools.pairwise"].contains n = false) (hQ : Q () s) : wpAny M A (letOwnedTupleGo tg (.ref it) u) Q E s := by
  unfold letOwnedTupleGo
  cases tg <;> first
    | exact wpAny_pure hQ
    | (cases u <;> first
        | exact wpAny_pure hQ
        | (refine wpAny_bind (wpAny_load ho ?_)
           rw [hc, hd]
           show wpAny M A (if (["enumerate", "zip", "dict_itemiterator", "dict_reverseitemiterator", "odict_iterator", "itertools.zip_longest", "itertools.pairwise"].contains n && vs[0]? == some (rawInt _)) = true then _ else _) Q E s
           rw [if_neg (by intro h; rw [hn, Bool.false_and] at h; cases h)]
           exact wpAny_pure hQ))

/-- the list at a, as it stands at each turn (a loop may append to it) -/
def Itl (K : PySem.W.Frag) (a : Addr) : It :=
  ⟨fun i H => ∃ xs x, SqL K H a xs ∧ xs[i]? = some x, fun i H x H' => H' = H ∧ ∀ xs, SqL K H a xs → xs[i]? = some x, fun i H => ∃ xs, SqL K H a xs ∧ xs.length ≤ i⟩
/-- lo, lo + 1, .. (n of them) -/
def Itr (lo : Int) (n : Nat) : It := ⟨fun i _ => i < n, fun i H x H' => H' = H ∧ x = .int (lo + i), fun i _ => n ≤ i⟩
theorem turn_list {P : Program} {w : World} {K : PySem.W.Frag} {tg : Expr} (a it : Addr) : Turn P w K tg (Itl K a) [it] it (fun i h => h.IsListIter it a i) where
  mem := by simp
  obj := fun i h st b hb => by
    have e : b = it := by simpa using hb
    subst e
    obtain ⟨o, e, c, d⟩ := st
    exact ⟨o, e, fun v z => by rw [d] at z; cases z⟩
  keep := fun i h h' st k => st.at fun o e => k it (by simp) o e
  item := by
    intro X hP hw hK hc i pins s σ H E I hf st hg
    subst hP hw hK
    obtain ⟨xs, x, hq, hx⟩ := hg
    obtain ⟨its, rv, p, hz⟩ := I.list hq
    obtain ⟨u, hu, ru⟩ := rv.get hx
    obtain ⟨f0, f1, f2, f3, f4, f5⟩ := hf it (by simp)
    refine wpAny_pyNext_list_item st p.isList (x := u) (by simpa using hu) fun h' st' sb => ?_
    have I1 : Inv X pins σ H { s with heap := h' } := I.turned (t' := s.toks) (fun b o hb e => (sb.2 b hb).trans e) f0 f1 f3 f4 f5
    obtain ⟨o, e, c, d⟩ := id st'
    exact ⟨u, rfl, go_of (s := { s with heap := h' }) e c d (by decide) ⟨x, H, I1, ru, ⟨rfl, fun ys hy => by rw [I.list_inj hy hq]; exact hx⟩, st', fun b hb => (hf b hb).1⟩⟩
  done := by
    intro X hP hw hK hc i pins s σ H E I hf st hg
    subst hP hw hK
    obtain ⟨xs, hq, hx⟩ := hg
    obtain ⟨its, rv, p, hz⟩ := I.list hq
    obtain ⟨f0, f1, f2, f3, f4, f5⟩ := hf it (by simp)
    have hl := rv.length
    exact wpAny_pyNext_list_end (I.ok.hd hc) st p.isList (by simp; omega) fun h' eb => ⟨rfl, I.turned (t' := s.toks) (fun b o hb e => eb b o hb e) f0 f1 f3 f4 f5⟩
  self := fun _ _ _ _ _ st h => wpAny_pyIter_listiter st h
theorem turn_range {P : Program} {w : World} {K : PySem.W.Frag} {tg : Expr} (it : Addr) (lo : Int) (n : Nat) : Turn P w K tg (Itr lo n) [it] it (fun i h => IsRangeIter h it (lo + (i : Nat) * 1) ((n : Int) - (i : Nat)) 1) where
  mem := by simp
  obj := fun i h st b hb => by
    have e : b = it := by simpa using hb
    subst e
    exact ⟨_, st, fun v z => by
      have z' : Data.fields _ = Data.cell v := z
      cases z'⟩
  keep := fun i h h' st k => k it (by simp) _ st
  item := by
    intro X hP hw hK hc i pins s σ H E I hf st hg
    subst hP hw hK
    obtain ⟨f0, f1, f2, f3, f4, f5⟩ := hf it (by simp)
    have W := Walks.range (prog := X.prog) (w := X.w) (I.ok.hd hc) it lo 1 n
    refine W.item i s _ _ hg st fun v h' tk hv st' kk => ?_
    obtain ⟨t, rfl⟩ := hv
    have I1 : Inv X pins σ H { s with heap := h', toks := tk } := I.turned (fun b o hb e => kk b o (by simpa using hb) e) f0 f1 f3 f4 f5
    refine ⟨_, rfl, go_of (s := { s with heap := h', toks := tk }) (n := "range_iterator") st' rfl rfl (by decide) ⟨.int (lo + i), H, I1, ⟨t, ?_⟩, ⟨rfl, rfl⟩, st', fun b hb => (hf b hb).1⟩⟩
    rw [Int.mul_one]
  done := by
    intro X hP hw hK hc i pins s σ H E I hf st hg
    subst hP hw hK
    obtain ⟨f0, f1, f2, f3, f4, f5⟩ := hf it (by simp)
    exact wpAny_pyNext_range_end (I.ok.hd hc) st (by have : n ≤ i := hg; omega) fun h' eb => ⟨rfl, I.turned (t' := s.toks) (fun b o hb e => eb b o hb e) f0 f1 f3 f4 f5⟩
  self := fun _ _ _ _ _ st h => wpAny_pyIter_rangeiter st h
end L2

namespace L2
open PySem PySem.Spec PyProof.Rows
section
variable {X : Cx} {tg : Expr}
def iList (K : PySem.W.Frag) (tl : TE) : TI := fun σ H R => tl σ H fun x H1 => ∃ a, x = .ref a ∧ (∃ xs, SqL K H1 a xs) ∧ R (Itl K a) H1
theorem pi_list {l : Expr} {tl : TE} (hl : PE X l tl) : PI X tg l (iList X.K tl) := by
  intro pins s σ H R I h
  refine thn (hl pins s σ H _ I h) fun v s1 ⟨x, H1, I1, r1, q1⟩ => ?_
  obtain ⟨a, e, ⟨xs, hq⟩, q⟩ := q1
  subst e
  cases r1
  obtain ⟨its, rv, p, hz⟩ := I1.list hq
  refine wpAny_pyIter_list p.isList ?_
  refine ⟨s1.heap.objs.size, [s1.heap.objs.size], _, _, H1, rfl, I1.kept (t' := s1.toks) fun b o e => Heap.get?_push_of_some _ e, turn_list a _, ⟨_, Heap.get?_push_size _ rfl, rfl, rfl⟩, fun b hb => ?_, q⟩
  have e : b = s1.heap.objs.size := by simpa using hb
  subst e
  exact I1.fpOk (Nat.le_refl _) (I1.hok.fresh (Nat.le_refl _))
/-- a range object just made, walked -/
theorem range_it {pins : List (Addr × Obj)} {σ : St} {H : Hp} {s : Shared} {R : It → Hp → Prop} {E : Value → Shared → Prop} {lo hi : Int} {t u v : Tok} {tk : Nat} (I : Inv X pins σ H s) (h1 : -(2 ^ 62) ≤ lo) (h2 : lo < 2 ^ 62) (h3 : -(2 ^ 62) ≤ hi) (h4 : hi < 2 ^ 62)
    (q : R (Itr lo (hi - lo).toNat) H) : wpAny (model X.prog X.w) X.A (pyIter (.ref s.heap.objs.size)) (PIE X pins σ tg R) E { s with heap := s.heap.push { cls := .type "range", data := .fields #[.int lo t, .int hi u, .int 1 v] }, toks := tk } := by
  refine wpAny_pyIter_range (IsRange.new ..) (small_one h1 h2 h3 h4) ?_
  have I1 : Inv X pins σ H { s with heap := s.heap.push { cls := .type "range", data := .fields #[.int lo t, .int hi u, .int 1 v] }, toks := tk } := I.kept fun b o e => Heap.get?_push_of_some _ e
  refine ⟨(s.heap.push { cls := .type "range", data := .fields #[.int lo t, .int hi u, .int 1 v] }).objs.size, [(s.heap.push { cls := .type "range", data := .fields #[.int lo t, .int hi u, .int 1 v] }).objs.size], _, _, H, rfl,
    I1.kept (t' := tk) fun b o e => Heap.get?_push_of_some _ e, turn_range _ lo (hi - lo).toNat, ?_, fun b hb => ?_, q⟩
  · have e1 : lo + ((0 : Nat) : Int) * 1 = lo := by simp
    have e2 : (((hi - lo).toNat : Nat) : Int) - ((0 : Nat) : Int) = Builtin.Range.rangeSize lo hi 1 := by rw [rangeSize_one]; split <;> omega
    show IsRangeIter _ _ (lo + ((0 : Nat) : Int) * 1) ((((hi - lo).toNat : Nat) : Int) - ((0 : Nat) : Int)) 1
    rw [e1, e2]
    exact Heap.get?_push_size _ rfl
  · have e : b = (s.heap.push { cls := .type "range", data := .fields #[.int lo t, .int hi u, .int 1 v] }).objs.size := by simpa using hb
    subst e
    exact I1.fpOk (Nat.le_refl _) (I1.hok.fresh (Nat.le_refl _))
def iRng1 (ta : TA) : TI := fun σ H R => ta σ H fun vs H1 => ∃ j : Int, vs = [.int j] ∧ -(2 ^ 62) ≤ j ∧ j < 2 ^ 62 ∧ R (Itr 0 j.toNat) H1
theorem pi_range1 {a : Expr} {ta : TA} {p pos : Pos} (hg : Gl X "range") (hm : X.mg "range" = none) (ha : PA X [a] ta) (hs : starEach [a] X.env = [(false, eval a X.env)] := by rfl) : PI X tg (.Call (.Name "range" p) [a] [] pos) (iRng1 ta) := by
  intro pins s σ H R I h
  refine Call_ (ld_blt I hg hm boot_range (PyProof.Rows.callWith_type1 (thn (ha pos pins s σ H _ I h) fun us s1 ⟨vs, H1, I1, r1, q1⟩ => ?_) hs rfl))
  obtain ⟨j, e, q1, q2, q⟩ := q1
  subst e
  cases r1 with
  | cons r rr =>
    cases rr
    obtain ⟨t, rfl⟩ := r
    exact call_range_1 (range_it I1 (by omega) (by omega) q1 q2 (by simpa using q))
/-! ### for -/
/-- W: the invariant by the turn and a measure; N: what the body is to reach -/
def tFor (wi : TI) (g : TG) (tb : TS) : TS := fun D σ H => wi σ H fun J H1 => ∃ W : Nat → Nat → St → Hp → Prop, (∃ m, W 0 m σ H1) ∧ ∀ i m σ H, W i m σ H →
  (J.stop i H ∧ D.nx σ H) ∨ (J.go i H ∧ ∃ N : St → Hp → Prop, (∀ σ' H', N σ' H' → ∃ m', m' < m ∧ W (i + 1) m' σ' H') ∧ ∀ x H', J.yld i H x H' → g x σ H' fun σ2 H2 => tb { D with nx := N, ct := N, bk := D.nx } σ2 H2)
/-- the records at fp as they stand -/
def pinsAt (fp : List Addr) (h : Heap) : List (Addr × Obj) := fp.filterMap fun b => (h.get? b).map fun o => (b, o)
theorem mem_pinsAt {fp : List Addr} {h : Heap} {b : Addr} {o : Obj} (hb : b ∈ fp) (e : h.get? b = some o) : (b, o) ∈ pinsAt fp h := List.mem_filterMap.mpr ⟨b, hb, by rw [e]; rfl⟩
theorem of_pinsAt {fp : List Addr} {h : Heap} {p : Addr × Obj} (hp : p ∈ pinsAt fp h) : p.1 ∈ fp ∧ h.get? p.1 = some p.2 := by
  obtain ⟨b, hb, e⟩ := List.mem_filterMap.mp hp
  cases q : h.get? b with
  | none => rw [q] at e; cases e
  | some o =>
    rw [q] at e
    have e' : (b, o) = p := Option.some.inj e
    subst e'
    exact ⟨hb, q⟩
theorem Inv.pinned {pins : List (Addr × Obj)} {σ : St} {H : Hp} {s : Shared} {fp : List Addr} (I : Inv X pins σ H s) (hf : ∀ b ∈ fp, FpOk X pins H b) (ho : ∀ b ∈ fp, ∃ o, s.heap.get? b = some o ∧ ∀ v, o.data ≠ .cell v) : Inv X (pins ++ pinsAt fp s.heap) σ H s :=
  I.pins_of fun p hp => (List.mem_append.mp hp).elim (fun z => I.pin p (List.mem_append_right _ z)) fun z => by
    obtain ⟨hb, e⟩ := of_pinsAt z
    obtain ⟨f0, f1, f2, _⟩ := hf p.1 hb
    obtain ⟨o, e', d⟩ := ho p.1 hb
    rw [e] at e'; cases e'
    exact ⟨e, f0, f1, f2, d⟩
theorem Inv.unpinned {pins pl : List (Addr × Obj)} {σ : St} {H : Hp} {s : Shared} (I : Inv X (pins ++ pl) σ H s) : Inv X pins σ H s := I.pins_of fun p hp => I.pin p (List.mem_append_right _ (List.mem_append_left _ hp))
theorem ps_for {iter : Expr} {body : List Stmt} {wi : TI} {g : TG} {tb : TS} {pos : Pos} (hp : PassesOwn (model X.prog X.w) X.A X.env X.xe) (hc : X.calm = true) (hi : PI X tg iter wi) (hg : PG X tg g) (hb : PSs X body tb)
    (hs : ∀ x, foldedSetIterable iter X.env x = pure x := by intro _; rfl) : PS X (.For tg iter body [] pos) (tFor wi g tb) := by
  intro pins s σ H D I h
  refine wpAny_For (thn (hi pins s σ H _ I h) fun v s1 h1 => thn h1 fun itv s2 h2 => ?_) hs
  obtain ⟨it, fp, tn, J, H2, e, I2, T, st2, f2, W, ⟨m0, w0⟩, turn⟩ := h2
  subst e
  -- what stays true of the iterator's objects through the loop
  have stat : ∀ {H' : Hp}, (∀ b ∈ fp, H' b = none) → ∀ b ∈ fp, FpOk X pins H' b := fun hn b hb => ⟨hn b hb, (f2 b hb).2⟩
  refine codeAny_forLoop_any (fun n s' => ∃ i σ' H', Inv X pins σ' H' s' ∧ tn i s'.heap ∧ (∀ b ∈ fp, H' b = none) ∧ W i n σ' H') ?_ m0 ⟨0, σ, H2, I2, st2, fun b hb => (f2 b hb).1, w0⟩
  rintro n s3 ⟨i, σ3, H3, I3, st3, fr3, w3⟩
  rcases turn i n σ3 H3 w3 with ⟨stop, qn⟩ | ⟨go, N, hN, step⟩
  · refine wpAny_passesOwn hp (thn (T.done X rfl rfl rfl hc i pins s3 σ3 H3 X.xe I3 (stat fr3) st3 stop) fun r s4 ⟨hr, I4⟩ => ?_)
    subst hr
    exact wpAny_execs_nil ⟨σ3, H3, I4, qn⟩
  · refine wpAny_passesOwn hp (thn (T.item X rfl rfl rfl hc i pins s3 σ3 H3 X.xe I3 (stat fr3) st3 go) fun r s4 ⟨u, hr, h4⟩ => ?_)
    subst hr
    refine wpAny_passesOwn hp (thn h4 fun _ s5 ⟨x, H5, I5, r5, y5, st5, fr5⟩ => ?_)
    have I5' := I5.pinned (stat fr5) (T.obj _ _ st5)
    refine wpAny_passesOwn hp (thn (hg _ s5 σ3 H5 x u _ I5' r5 (step x H5 y5)) fun _ s6 ⟨σ6, H6, I6, q6⟩ => ?_)
    refine wpAny_passesOwn hp (thn (hb _ s6 σ6 H6 _ I6 q6) fun f s7 q7 => ?_)
    have again : ∀ {σ7 : St} {H7 : Hp}, Inv X (pins ++ pinsAt fp s5.heap) σ7 H7 s7 → N σ7 H7 → ∃ m, m < n ∧ ∃ i σ' H', Inv X pins σ' H' s7 ∧ tn i s7.heap ∧ (∀ b ∈ fp, H' b = none) ∧ W i m σ' H' := fun {σ7 H7} I7 n7 => by
      obtain ⟨m', hm, w7⟩ := hN σ7 H7 n7
      refine ⟨m', hm, i + 1, σ7, H7, I7.unpinned, T.keep _ _ _ st5 fun b hb o e => (I7.pin (b, o) (List.mem_append_right _ (List.mem_append_right _ (mem_pinsAt hb e)))).1, fun b hb => ?_, w7⟩
      obtain ⟨o, e, d⟩ := T.obj _ _ st5 b hb
      exact (I7.pin (b, o) (List.mem_append_right _ (List.mem_append_right _ (mem_pinsAt hb e)))).2.1
    cases f with
    | next => obtain ⟨σ7, H7, I7, n7⟩ := q7; exact again I7 n7
    | cont => obtain ⟨σ7, H7, I7, n7⟩ := q7; exact again I7 n7
    | brk => obtain ⟨σ7, H7, I7, q7⟩ := q7; exact ⟨σ7, H7, I7.unpinned, q7⟩
    | ret v => obtain ⟨x7, σ7, H7, I7, r7, q7⟩ := q7; exact ⟨x7, σ7, H7, I7.unpinned, r7, q7⟩
end

/-! ### the forms one uses -/
/-- over a list that the body leaves as it is -/
theorem for_list {K : PySem.W.Frag} {a : Addr} {xs : List V} {g : TG} {tb : TS} {D : Ends} {σ : St} {H : Hp} (Pv : Nat → St → Hp → Prop) (h0 : Pv 0 σ H) (hl : ∀ i σ H, i ≤ xs.length → Pv i σ H → SqL K H a xs)
    (hs : ∀ i x σ H, xs[i]? = some x → Pv i σ H → g x σ H fun σ2 H2 => tb { D with nx := Pv (i + 1), ct := Pv (i + 1), bk := D.nx } σ2 H2) (hd : ∀ σ H, Pv xs.length σ H → D.nx σ H) :
    ∃ W : Nat → Nat → St → Hp → Prop, (∃ m, W 0 m σ H) ∧ ∀ i m σ H, W i m σ H →
      ((Itl K a).stop i H ∧ D.nx σ H) ∨ ((Itl K a).go i H ∧ ∃ N : St → Hp → Prop, (∀ σ' H', N σ' H' → ∃ m', m' < m ∧ W (i + 1) m' σ' H') ∧ ∀ x H', (Itl K a).yld i H x H' → g x σ H' fun σ2 H2 => tb { D with nx := N, ct := N, bk := D.nx } σ2 H2) := by
  refine ⟨fun i m σ H => m = xs.length - i ∧ i ≤ xs.length ∧ Pv i σ H, ⟨xs.length, by simp, Nat.zero_le _, h0⟩, ?_⟩
  rintro i m σ H ⟨rfl, hi, p⟩
  have q := hl i σ H hi p
  by_cases hlt : i < xs.length
  · refine .inr ⟨⟨xs, xs[i], q, by simp [hlt]⟩, Pv (i + 1), fun σ' H' p' => ⟨xs.length - (i + 1), by omega, rfl, hlt, p'⟩, fun x H' y => ?_⟩
    obtain ⟨e, y⟩ := y
    subst e
    exact hs i x σ _ (y xs q) p
  · have e : i = xs.length := by omega
    subst e
    exact .inl ⟨⟨xs, q, Nat.le_refl _⟩, hd σ H p⟩
theorem for_range {lo : Int} {n : Nat} {g : TG} {tb : TS} {D : Ends} {σ : St} {H : Hp} (Pv : Nat → St → Hp → Prop) (h0 : Pv 0 σ H)
    (hs : ∀ i σ H, i < n → Pv i σ H → g (.int (lo + i)) σ H fun σ2 H2 => tb { D with nx := Pv (i + 1), ct := Pv (i + 1), bk := D.nx } σ2 H2) (hd : ∀ σ H, Pv n σ H → D.nx σ H) :
    ∃ W : Nat → Nat → St → Hp → Prop, (∃ m, W 0 m σ H) ∧ ∀ i m σ H, W i m σ H →
      ((Itr lo n).stop i H ∧ D.nx σ H) ∨ ((Itr lo n).go i H ∧ ∃ N : St → Hp → Prop, (∀ σ' H', N σ' H' → ∃ m', m' < m ∧ W (i + 1) m' σ' H') ∧ ∀ x H', (Itr lo n).yld i H x H' → g x σ H' fun σ2 H2 => tb { D with nx := N, ct := N, bk := D.nx } σ2 H2) := by
  refine ⟨fun i m σ H => m = n - i ∧ i ≤ n ∧ Pv i σ H, ⟨n, by simp, Nat.zero_le _, h0⟩, ?_⟩
  rintro i m σ H ⟨rfl, hi, p⟩
  by_cases hlt : i < n
  · refine .inr ⟨hlt, Pv (i + 1), fun σ' H' p' => ⟨n - (i + 1), by omega, rfl, hlt, p'⟩, fun x H' y => ?_⟩
    obtain ⟨e, y⟩ := y
    subst e y
    exact hs i σ _ hlt p
  · have e : i = n := by omega
    subst e
    exact .inl ⟨Nat.le_refl _, hd σ H p⟩
end L2

namespace L2
open PySem PySem.Spec PyProof.Rows

abbrev R2 := V → V → Hp → VK → Prop
/-- a two-place operation on values: f is binaryOp op, inplaceOp op or compareOp op -/
def OpR (X : Cx) (f : Value → Value → Sem Value) (r : R2) : Prop :=
  ∀ (pins : List (Addr × Obj)) (s : Shared) (σ : St) (H : Hp) (x y : V) (v u : Value) (Q : VK), Inv X pins σ H s → RelV x v → RelV y u → r x y H Q →
    wpAny (model X.prog X.w) X.A (f v u) (EP X pins σ Q) X.xe s
/-- a one-place operation -/
def UnR (X : Cx) (f : Value → Sem Value) (r : V → Hp → VK → Prop) : Prop :=
  ∀ (pins : List (Addr × Obj)) (s : Shared) (σ : St) (H : Hp) (x : V) (v : Value) (Q : VK), Inv X pins σ H s → RelV x v → r x H Q →
    wpAny (model X.prog X.w) X.A (f v) (EP X pins σ Q) X.xe s
/-- a call of a value that is known (a builtin, a type) with values -/
def CallR (X : Cx) (f : Value) (r : List V → Hp → VK → Prop) : Prop :=
  ∀ (pins : List (Addr × Obj)) (s : Shared) (σ : St) (H : Hp) (xs : List V) (us : List Value) (Q : VK), Inv X pins σ H s → Vals xs us → r xs H Q →
    wpAny (model X.prog X.w) X.A (call f us) (EP X pins σ Q) X.xe s
def tOp (r : R2) (ta tb : TE) : TE := fun σ H Q => ta σ H fun x H1 => tb σ H1 fun y H2 => r x y H2 Q
def tUn (r : V → Hp → VK → Prop) (ta : TE) : TE := fun σ H Q => ta σ H fun x H1 => r x H1 Q
/-- ints in, under C, and a value out -/
def rI (C : Int → Int → Prop) (g : Int → Int → V) : R2 := fun x y H Q => ∃ i j, x = .int i ∧ y = .int j ∧ C i j ∧ Q (g i j) H
def rI0 (g : Int → Int → V) : R2 := fun x y H Q => ∃ i j, x = .int i ∧ y = .int j ∧ Q (g i j) H
def rU (g : Int → V) : V → Hp → VK → Prop := fun x H Q => ∃ i, x = .int i ∧ Q (g i) H

section
variable {X : Cx} {a b c : Expr} {ta tb tc : TE} {pos : Pos}

theorem binT (ha : PE X a ta) (hb : PE X b tb) {pins : List (Addr × Obj)} {s : Shared} {σ : St} {H : Hp} {R : V → V → Hp → Prop} (I : Inv X pins σ H s)
    (h : ta σ H fun x H1 => tb σ H1 fun y H2 => R x y H2) {Q : Value → Shared → Prop} {f : Value → Value → Sem Value}
    (hf : ∀ v u s2 x y H2, Inv X pins σ H2 s2 → RelV x v → RelV y u → R x y H2 → wpAny (model X.prog X.w) X.A (f v u) Q X.xe s2) :
    wpAny (model X.prog X.w) X.A (eval a X.env) (fun v s₁ => wpAny (model X.prog X.w) X.A (eval b X.env) (fun u s₂ => wpAny (model X.prog X.w) X.A (f v u) Q X.xe s₂) X.xe s₁) X.xe s := by
  refine thn (ha pins s σ H _ I h) fun v s1 ⟨x, H1, I1, r1, q1⟩ => ?_
  refine thn (hb pins s1 σ H1 _ I1 q1) fun u s2 ⟨y, H2, I2, r2, q2⟩ => ?_
  exact hf v u s2 x y H2 I2 r1 r2 q2

theorem pe_op {op : Operator} {r : R2} (ho : OpR X (binaryOp op) r) (ha : PE X a ta) (hb : PE X b tb) : PE X (.BinOp a op b pos) (tOp r ta tb) := by
  intro pins s σ H Q I h
  exact wpAny_BinOp (binT ha hb I h fun v u s2 x y H2 I2 rx ry q => ho pins s2 σ H2 x y v u Q I2 rx ry q)
theorem pe_un {op : UnaryOp} {r : V → Hp → VK → Prop} (ho : UnR X (unaryOp op) r) (ha : PE X a ta) : PE X (.UnaryOp op a pos) (tUn r ta) := by
  intro pins s σ H Q I h
  exact UnaryOp_ (thn (ha pins s σ H _ I h) fun v s1 ⟨x, H1, I1, r1, q1⟩ => ho pins s1 σ H1 x v Q I1 r1 q1)
/-! ### ints -/
theorem opI {f : Value → Value → Sem Value} {C : Int → Int → Prop} {g : Int → Int → Int}
    (rule : ∀ (i j : Int) (t u : Tok) (s : Shared) (Q : Value → Shared → Prop) (E : Value → Shared → Prop), C i j → Q (.int (g i j) s.toks) { s with toks := s.toks + 1 } → wpAny (model X.prog X.w) X.A (f (.int i t) (.int j u)) Q E s) :
    OpR X f (rI C fun i j => .int (g i j)) := by
  intro pins s σ H x y v u Q I rx ry h
  obtain ⟨i, j, rfl, rfl, hc, q⟩ := h
  obtain ⟨t, rfl⟩ := rx
  obtain ⟨t', rfl⟩ := ry
  exact rule i j t t' s _ _ hc ⟨.int (g i j), H, I.tok _, ⟨_, rfl⟩, q⟩
theorem opI0 {f : Value → Value → Sem Value} {g : Int → Int → Int}
    (rule : ∀ (i j : Int) (t u : Tok) (s : Shared) (Q : Value → Shared → Prop) (E : Value → Shared → Prop), Q (.int (g i j) s.toks) { s with toks := s.toks + 1 } → wpAny (model X.prog X.w) X.A (f (.int i t) (.int j u)) Q E s) :
    OpR X f (rI0 fun i j => .int (g i j)) := by
  intro pins s σ H x y v u Q I rx ry h
  obtain ⟨i, j, rfl, rfl, q⟩ := h
  obtain ⟨t, rfl⟩ := rx
  obtain ⟨t', rfl⟩ := ry
  exact rule i j t t' s _ _ ⟨.int (g i j), H, I.tok _, ⟨_, rfl⟩, q⟩
theorem opB0 {f : Value → Value → Sem Value} {g : Int → Int → Bool}
    (rule : ∀ (i j : Int) (t u : Tok) (s : Shared) (Q : Value → Shared → Prop) (E : Value → Shared → Prop), Q (.bool (g i j)) s → wpAny (model X.prog X.w) X.A (f (.int i t) (.int j u)) Q E s) :
    OpR X f (rI0 fun i j => .bl (g i j)) := by
  intro pins s σ H x y v u Q I rx ry h
  obtain ⟨i, j, rfl, rfl, q⟩ := h
  obtain ⟨t, rfl⟩ := rx
  obtain ⟨t', rfl⟩ := ry
  exact rule i j t t' s _ _ ⟨.bl (g i j), H, I, rfl, q⟩

def CDiv (i j : Int) : Prop := 0 < j ∧ j < 1073741824
def CPow (i j : Int) : Prop := 0 ≤ j ∧ j ≤ 1000000 ∧ i.natAbs < 2 ^ 64
def CMul (i j : Int) : Prop := (-(2 ^ 64) < i ∧ i < 2 ^ 64) ∨ (-(2 ^ 64) < j ∧ j < 2 ^ 64)
theorem CMul.ok {i j : Int} (h : CMul i j) : IntMulOk i j := by
  rcases h with ⟨h1, h2⟩ | ⟨h1, h2⟩
  · exact .of_left (intBits_le_64 h1 h2)
  · exact .of_right (intBits_le_64 h1 h2)
theorem op_add : OpR X (binaryOp .Add) (rI0 fun i j => .int (i + j)) := opI0 fun _ _ _ _ _ _ _ q => add_int q
theorem op_mul : OpR X (binaryOp .Mult) (rI CMul fun i j => .int (i * j)) := opI fun _ _ _ _ _ _ _ hc q => mul_int q hc.ok
/-- // by a positive divisor -/
theorem op_fdiv : OpR X (binaryOp .FloorDiv) (rI CDiv fun i j => .int (i / j)) := opI fun i j _ _ _ _ _ hc q => by
  have h1 : (0 : Int) < j := hc.1
  have h2 : j < 1073741824 := hc.2
  exact floordiv_int (by omega) (by rw [Int.fdiv_eq_ediv_of_nonneg i (by omega)]; exact q) (.inl (PyProof.noPylong_small (by omega)))
/-- % by a positive divisor of any size -/
theorem op_mod : OpR X (binaryOp .Mod) (rI (fun _ j => 0 < j) fun i j => .int (i % j)) := opI fun i j _ _ _ _ _ hc q => by
  have h1 : (0 : Int) < j := hc
  exact mod_int' (by omega) (by rw [Int.fmod_eq_emod_of_nonneg i (by omega)]; exact q)
theorem op_pow : OpR X (binaryOp .Pow) (rI CPow fun i j => .int (i ^ j.toNat)) := opI fun _ _ _ _ _ _ _ hc q => pow_int_small hc.1 hc.2.1 hc.2.2 q
theorem unI {f : Value → Sem Value} {g : Int → Int}
    (rule : ∀ (i : Int) (t : Tok) (s : Shared) (Q : Value → Shared → Prop) (E : Value → Shared → Prop), Q (.int (g i) s.toks) { s with toks := s.toks + 1 } → wpAny (model X.prog X.w) X.A (f (.int i t)) Q E s) :
    UnR X f (rU fun i => .int (g i)) := by
  intro pins s σ H x v Q I rx h
  obtain ⟨i, rfl, q⟩ := h
  obtain ⟨t, rfl⟩ := rx
  exact rule i t s _ _ ⟨.int (g i), H, I.tok _, ⟨_, rfl⟩, q⟩
theorem un_neg : UnR X (unaryOp .USub) (rU fun i => .int (-i)) := unI fun _ _ _ _ _ q => neg_int q
/-! ### bools among ints: n += (a < b) -/
end

/-! ### comparisons -/
/-- the scalars that == tells apart as data does -/
def scal : V → V → Bool
  | .non, .non => true | .non, .int _ => true | .int _, .non => true | .non, .bl _ => true | .bl _, .non => true | .non, .str _ => true | .str _, .non => true
  | .int _, .int _ => true | .bl _, .bl _ => true | .str _, .str _ => true | .byt _, .byt _ => true
  | .int _, .str _ => true | .str _, .int _ => true | .bl _, .str _ => true | .str _, .bl _ => true
  | _, _ => false
def rEq : R2 := fun x y H Q => scal x y = true ∧ Q (.bl (decide (x = y))) H
def rNe : R2 := fun x y H Q => scal x y = true ∧ Q (.bl (!decide (x = y))) H

theorem dec_int {i j : Int} : decide (V.int i = V.int j) = (i == j) := by
  rw [Bool.eq_iff_iff]
  simp
theorem dec_bl {i j : Bool} : decide (V.bl i = V.bl j) = (i == j) := by
  rw [Bool.eq_iff_iff]
  simp
theorem dec_str {i j : Str} : decide (V.str i = V.str j) = (i == j) := by
  rw [Bool.eq_iff_iff]
  simp
theorem dec_byt {i j : Array UInt8} : decide (V.byt i = V.byt j) = (i.toList == j.toList) := by
  rw [Bool.eq_iff_iff]
  cases i
  cases j
  simp

section
variable {X : Cx} {a b c : Expr} {ta tb tc : TE} {pos : Pos}
theorem fin_bl {pins : List (Addr × Obj)} {σ : St} {H : Hp} {s : Shared} {Q : VK} {k k' : Bool} (I : Inv X pins σ H s) (q : Q (.bl k) H) (e : k = k') : EP X pins σ Q (.bool k') s := by
  subst e
  exact ⟨.bl k, H, I, rfl, q⟩
theorem op_eq : OpR X (compareOp .Eq) rEq := by
  intro pins s σ H x y v u Q I rx ry h
  obtain ⟨hs, q⟩ := h
  cases x with
  | non =>
    cases rx
    cases y with
    | non => cases ry; exact PySem.EqNone.eq_none_none (fin_bl I q (by simp))
    | bl j => cases ry; exact PySem.EqNone.eq_none_bool (fin_bl I q (by simp))
    | int j => obtain ⟨t', rfl⟩ := ry; exact PySem.EqNone.eq_none_int (fin_bl I q (by simp))
    | str j => obtain ⟨t', rfl⟩ := ry; exact PySem.EqNone.eq_none_str (fin_bl I q (by simp))
    | _ => exact absurd (show false = true from hs) Bool.false_ne_true
  | bl i =>
    cases rx
    cases y with
    | non => cases ry; exact PySem.EqNone.eq_bool_none (fin_bl I q (by simp))
    | bl j => cases ry; exact eq_bool (fin_bl I q dec_bl)
    | str j => obtain ⟨t', rfl⟩ := ry; exact PySem.EqMixed.eq_bool_str (fin_bl I q (by simp))
    | _ => exact absurd (show false = true from hs) Bool.false_ne_true
  | int i =>
    obtain ⟨t, rfl⟩ := rx
    cases y with
    | non => cases ry; exact PySem.EqNone.eq_int_none (fin_bl I q (by simp))
    | int j => obtain ⟨t', rfl⟩ := ry; exact eq_int (fin_bl I q dec_int)
    | str j => obtain ⟨t', rfl⟩ := ry; exact PySem.EqMixed.eq_int_str (fin_bl I q (by simp))
    | _ => exact absurd (show false = true from hs) Bool.false_ne_true
  | str i =>
    obtain ⟨t, rfl⟩ := rx
    cases y with
    | non => cases ry; exact PySem.EqNone.eq_str_none (fin_bl I q (by simp))
    | bl j => cases ry; exact PySem.EqMixed.eq_str_bool (fin_bl I q (by simp))
    | int j => obtain ⟨t', rfl⟩ := ry; exact PySem.EqMixed.eq_str_int (fin_bl I q (by simp))
    | str j => obtain ⟨t', rfl⟩ := ry; exact eq_str (fin_bl I q dec_str)
    | _ => exact absurd (show false = true from hs) Bool.false_ne_true
  | byt i =>
    obtain ⟨t, rfl⟩ := rx
    cases y with
    | byt j => obtain ⟨t', rfl⟩ := ry; exact PySem.W.eq_bytes (fin_bl I q dec_byt)
    | _ => exact absurd (show false = true from hs) Bool.false_ne_true
  | _ => cases y <;> exact absurd (show false = true from hs) Bool.false_ne_true
theorem op_ne : OpR X (compareOp .NotEq) rNe := by
  intro pins s σ H x y v u Q I rx ry h
  obtain ⟨hs, q⟩ := h
  cases x with
  | non =>
    cases rx
    cases y with
    | non => cases ry; exact PySem.EqNone.ne_none_none (fin_bl I q (by simp))
    | bl j => cases ry; exact PySem.EqNone.ne_none_bool (fin_bl I q (by simp))
    | int j => obtain ⟨t', rfl⟩ := ry; exact PySem.EqNone.ne_none_int (fin_bl I q (by simp))
    | str j => obtain ⟨t', rfl⟩ := ry; exact PySem.EqNone.ne_none_str (fin_bl I q (by simp))
    | _ => exact absurd (show false = true from hs) Bool.false_ne_true
  | bl i =>
    cases rx
    cases y with
    | non => cases ry; exact PySem.EqNone.ne_bool_none (fin_bl I q (by simp))
    | bl j => cases ry; exact ne_bool (fin_bl I q (congrArg not dec_bl))
    | str j => obtain ⟨t', rfl⟩ := ry; exact PySem.EqMixed.ne_bool_str (fin_bl I q (by simp))
    | _ => exact absurd (show false = true from hs) Bool.false_ne_true
  | int i =>
    obtain ⟨t, rfl⟩ := rx
    cases y with
    | non => cases ry; exact PySem.EqNone.ne_int_none (fin_bl I q (by simp))
    | int j => obtain ⟨t', rfl⟩ := ry; exact ne_int (fin_bl I q (congrArg not dec_int))
    | str j => obtain ⟨t', rfl⟩ := ry; exact PySem.EqMixed.ne_int_str (fin_bl I q (by simp))
    | _ => exact absurd (show false = true from hs) Bool.false_ne_true
  | str i =>
    obtain ⟨t, rfl⟩ := rx
    cases y with
    | non => cases ry; exact PySem.EqNone.ne_str_none (fin_bl I q (by simp))
    | bl j => cases ry; exact PySem.EqMixed.ne_str_bool (fin_bl I q (by simp))
    | int j => obtain ⟨t', rfl⟩ := ry; exact PySem.EqMixed.ne_str_int (fin_bl I q (by simp))
    | str j => obtain ⟨t', rfl⟩ := ry; exact ne_str (fin_bl I q (congrArg not dec_str))
    | _ => exact absurd (show false = true from hs) Bool.false_ne_true
  | byt i =>
    obtain ⟨t, rfl⟩ := rx
    cases y with
    | byt j => obtain ⟨t', rfl⟩ := ry; exact PySem.W.ne_bytes (fin_bl I q (congrArg not dec_byt))
    | _ => exact absurd (show false = true from hs) Bool.false_ne_true
  | _ => cases y <;> exact absurd (show false = true from hs) Bool.false_ne_true

theorem op_lt : OpR X (compareOp .Lt) (rI0 fun i j => .bl (decide (i < j))) := opB0 fun _ _ _ _ _ _ _ q => lt_int q
theorem op_le : OpR X (compareOp .LtE) (rI0 fun i j => .bl (decide (i ≤ j))) := opB0 fun _ _ _ _ _ _ _ q => le_int q
theorem op_gt : OpR X (compareOp .Gt) (rI0 fun i j => .bl (decide (j < i))) := opB0 fun _ _ _ _ _ _ _ q => gt_int q
theorem op_ge : OpR X (compareOp .GtE) (rI0 fun i j => .bl (decide (j ≤ i))) := opB0 fun _ _ _ _ _ _ _ q => ge_int q
/-- the one string within the other -/
theorem op_in_str : OpR X (compareOp .In) (fun x y H Q => ∃ i j, x = .str i ∧ y = .str j ∧ Q (.bl (!(Builtin.Str.occurrences j i 0 j.length 1).isEmpty)) H) := by
  intro pins s σ H x y v u Q I rx ry h
  obtain ⟨i, j, rfl, rfl, q⟩ := h
  obtain ⟨t, rfl⟩ := rx
  obtain ⟨t', rfl⟩ := ry
  exact in_str (fin_bl I q rfl)

/-- is None, is not None: the right side a value none -/
theorem op_isN : OpR X (compareOp .Is) (fun x y H Q => y = .non ∧ Q (.bl (decide (x = .non))) H) := by
  intro pins s σ H x y v u Q I rx ry h
  obtain ⟨rfl, q⟩ := h
  cases ry
  refine is_none_gen (fin_bl I q ?_)
  cases x <;> first
    | (cases rx; rfl)
    | (obtain ⟨t, rfl⟩ := rx; rfl)
theorem nomark (b : Expr) {op : CmpOp} (h : op ≠ .In := by decide) (h2 : op ≠ .NotIn := by decide) : behindInMarks op b = false := by
  have e1 : (op == CmpOp.In) = false := by cases op <;> first | rfl | exact absurd rfl h
  have e2 : (op == CmpOp.NotIn) = false := by cases op <;> first | rfl | exact absurd rfl h2
  cases b <;> simp [behindInMarks, e1, e2]
/-- a comparison as a value; hm: nomark b, or (for in, not in) by with_unfolding_all rfl -/
theorem pe_cmpR {op : CmpOp} {r : R2} (ho : OpR X (compareOp op) r) (ha : PE X a ta) (hb : PE X b tb) (hm : behindInMarks op b = false) : PE X (.Compare a [op] [b] pos) (tOp r ta tb) := by
  intro pins s σ H Q I h
  exact wpAny_Compare1 (binT ha hb I h fun v u s2 x y H2 I2 rx ry q => ho pins s2 σ H2 x y v u Q I2 rx ry q) hm
/-- a reading of a value as a test -/
def tTest (t : TE) : TT := fun σ H Q => t σ H fun x H' => ∃ k, x = .bl k ∧ Q k H'
theorem pt_cmpR {op : CmpOp} {r : R2} (ho : OpR X (compareOp op) r) (ha : PE X a ta) (hb : PE X b tb) (hm : behindInMarks op b = false) : PT X (.Compare a [op] [b] pos) (tTest (tOp r ta tb)) := by
  intro pins s σ H Q I h
  refine wpAny_isTrue_Compare1 (thn (ha pins s σ H _ I h) fun v s1 ⟨x, H1, I1, r1, q1⟩ => thn (hb pins s1 σ H1 _ I1 q1) fun u s2 ⟨y, H2, I2, r2, q2⟩ =>
    thn (ho pins s2 σ H2 x y v u _ I2 r1 r2 q2) fun c s3 ⟨z, H3, I3, r3, k, e, q3⟩ => ?_) hm
  subst e
  cases r3
  exact wpAny_truthy_bool ⟨H3, I3, q3⟩
/-- a op1 b op2 c -/
def tChain (r r' : R2) (ta tb tc : TE) : TE := fun σ H Q => ta σ H fun x H1 => tb σ H1 fun y H2 => r x y H2 fun z H3 => ∃ k, z = .bl k ∧
  (if k = true then tc σ H3 fun w' H4 => r' y w' H4 Q else Q (.bl false) H3)
theorem pe_chain {op op' : CmpOp} {r r' : R2} (ho : OpR X (compareOp op) r) (ho' : OpR X (compareOp op') r') (ha : PE X a ta) (hb : PE X b tb) (hc : PE X c tc)
    (hm : lastMarks [op, op'] [b, c] = false := by with_unfolding_all rfl) : PE X (.Compare a [op, op'] [b, c] pos) (tChain r r' ta tb tc) := by
  intro pins s σ H Q I h
  refine Compare_chain (thn (ha pins s σ H _ I h) fun v s1 ⟨x, H1, I1, r1, q1⟩ => chain_link (thn (hb pins s1 σ H1 _ I1 q1) fun u s2 ⟨y, H2, I2, r2, q2⟩ =>
    thn (ho pins s2 σ H2 x y v u _ I2 r1 r2 q2) fun d s3 ⟨z, H3, I3, r3, k, e, q3⟩ => ?_)) hm
  subst e
  cases r3
  refine wpAny_truthy_bool ?_
  cases k with
  | false => exact ite_ff ⟨.bl false, H3, I3, rfl, q3⟩
  | true => exact ite_tt (chain_last (thn (hc pins s3 σ H3 _ I3 q3) fun w' s4 ⟨z', H4, I4, r4, q4⟩ => ho' pins s4 σ H4 y z' u w' Q I4 r2 r4 q4))
theorem pt_chain {op op' : CmpOp} {r r' : R2} (ho : OpR X (compareOp op) r) (ho' : OpR X (compareOp op') r') (ha : PE X a ta) (hb : PE X b tb) (hc : PE X c tc)
    (hm : lastMarks [op, op'] [b, c] = false := by with_unfolding_all rfl) : PT X (.Compare a [op, op'] [b, c] pos) (tTest (tChain r r' ta tb tc)) := by
  intro pins s σ H Q I h
  refine isTrue_chain (thn (ha pins s σ H _ I h) fun v s1 ⟨x, H1, I1, r1, q1⟩ => test_link (thn (hb pins s1 σ H1 _ I1 q1) fun u s2 ⟨y, H2, I2, r2, q2⟩ =>
    thn (ho pins s2 σ H2 x y v u _ I2 r1 r2 q2) fun d s3 ⟨z, H3, I3, r3, k, e, q3⟩ => ?_)) hm
  subst e
  cases r3
  refine wpAny_truthy_bool ?_
  cases k with
  | false =>
    obtain ⟨k', e', q'⟩ := q3
    cases e'
    exact ite_ff ⟨H3, I3, q'⟩
  | true =>
    refine ite_tt (test_last (thn (hc pins s3 σ H3 _ I3 q3) fun w' s4 ⟨z', H4, I4, r4, q4⟩ => thn (ho' pins s4 σ H4 y z' u w' _ I4 r2 r4 q4) fun d' s5 ⟨z2, H5, I5, r5, k2, e2, q5⟩ => ?_))
    subst e2
    cases r5
    exact wpAny_truthy_bool ⟨H5, I5, q5⟩

/-! ### truth -/
theorem line63 : (sizeLine : Nat) < 2 ^ 63 := by rw [sizeLine_eq]; decide
/-! ### strs and bytes -/
theorem op_add_str : OpR X (binaryOp .Add) (fun x y H Q => ∃ i j, x = .str i ∧ y = .str j ∧ i.length + j.length ≤ sizeLine ∧ Q (.str (i ++ j)) H) := by
  intro pins s σ H x y v u Q I rx ry h
  obtain ⟨i, j, rfl, rfl, hz, q⟩ := h
  obtain ⟨t, rfl⟩ := rx
  obtain ⟨t', rfl⟩ := ry
  exact add_str (fun t' tk => ⟨.str (i ++ j), H, I.tok _, ⟨_, rfl⟩, q⟩) hz
/-! ### scalar builtins, by CallR -/
theorem vals1 {x : V} {us : List Value} (r : Vals [x] us) : ∃ u, us = [u] ∧ RelV x u := by
  cases r with
  | cons r1 r2 => cases r2; exact ⟨_, rfl, r1⟩
theorem vals2 {x y : V} {us : List Value} (r : Vals [x, y] us) : ∃ u w', us = [u, w'] ∧ RelV x u ∧ RelV y w' := by
  cases r with
  | cons r1 r2 =>
    cases r2 with
    | cons r3 r4 => cases r4; exact ⟨_, _, rfl, r1, r3⟩
theorem call_abs : CallR X (.builtin "abs") (fun xs H Q => ∃ i, xs = [.int i] ∧ Q (.int (if i < 0 then -i else i)) H) := by
  intro pins s σ H xs us Q I r h
  obtain ⟨i, rfl, q⟩ := h
  obtain ⟨u, rfl, t, rfl⟩ := vals1 r
  exact call_abs_int fun u tk => ⟨.int (if i < 0 then -i else i), H, I.tok _, ⟨_, rfl⟩, q⟩
theorem call_int1 : CallR X (.type "int") (fun xs H Q => (∃ i, xs = [.int i] ∧ Q (.int i) H) ∨ ∃ k, xs = [.bl k] ∧ Q (.int (if k then 1 else 0)) H) := by
  intro pins s σ H xs us Q I r h
  rcases h with ⟨i, rfl, q⟩ | ⟨k, rfl, q⟩
  · obtain ⟨u, rfl, t, rfl⟩ := vals1 r
    exact call_int_int ⟨.int i, H, I, ⟨_, rfl⟩, q⟩
  · obtain ⟨u, rfl, r1⟩ := vals1 r
    cases r1
    exact call_int_bool ⟨.int (if k then 1 else 0), H, I.tok _, ⟨_, rfl⟩, q⟩
theorem call_str_int : CallR X (.type "str") (fun xs H Q => ∃ i, xs = [.int i] ∧ i.natAbs.log2 < 1920 ∧ Q (.str (toString i)) H) := by
  intro pins s σ H xs us Q I r h
  obtain ⟨i, rfl, hz, q⟩ := h
  obtain ⟨u, rfl, t, rfl⟩ := vals1 r
  exact PySem.P.str_of_int hz ⟨.str _, H, I.tok _, ⟨_, rfl⟩, q⟩
end
end L2

namespace L2
open PySem PySem.Spec PyProof.Rows

/-! ### an instance, its attributes a map -/
structure ObjM (h : Heap) (x dx C : Addr) (mA : Str → Option Value) : Prop where
  obj : h.get? x = some (PySem.W.instObj C dx)
  ns : h.Ns1 dx mA
  ne : dx ≠ x

theorem lookIn_ns {h : Heap} {dx : Addr} {mA : Str → Option Value} (n : h.Ns1 dx mA) : ∃ od, h.get? dx = some od ∧ ∀ name, PySem.W.lookIn name od = some (mA name) := by
  obtain ⟨o, es, ep, ho, hd, hk, _, hm⟩ := n
  refine ⟨o, ho, fun name => ?_⟩
  have e := hm name
  unfold nsFind findBy at e
  rw [← Array.find?_toList] at e
  unfold PySem.W.lookIn
  rw [hd]
  dsimp only
  split
  · rename_i y q
    rw [q] at e
    exact congrArg some e
  · rename_i q
    rw [q] at e
    have a : es.toList.any (·.refKey) = false := by
      rw [List.any_eq_false]
      intro y hy
      obtain ⟨z, t, hkey⟩ := hk y (Array.mem_toList_iff.mp hy)
      simp [DictEntry.refKey, hkey]
    have a' : ¬ es.toList.any (·.refKey) = true := by rw [a]; exact Bool.false_ne_true
    rw [if_neg a']
    exact congrArg some e

theorem ObjM.look {h : Heap} {x dx C : Addr} {mA : Str → Option Value} (I : ObjM h x dx C mA) : ∃ od, PySem.W.InstAt h x (PySem.W.instObj C dx) C (some od) ∧ ∀ name, PySem.W.lookIn name od = some (mA name) :=
  let ⟨od, ho, hl⟩ := lookIn_ns I.ns
  ⟨od, ⟨I.obj, rfl, rfl, ho⟩, hl⟩

section
variable {prog : Program} {w : World} {A : Around} {E : Value → Shared → Prop} {s : Shared} {K : PySem.W.Frag} {x dx C f : Addr} {mA : Str → Option Value} {name : Str} {v : Value}

end

/-! ### the attributes as a list of pairs -/
section
variable {P : Program} {w : World} {H H' : Hp} {h h' : Heap} {a C dx : Addr} {fs fs' : List (Str × V)}
theorem ins_get (hok : HOk P w H h) (e : H a = some (.ins C dx fs)) : ∃ mA, ObjM h a dx C mA ∧ (∀ f, RelO (fs.lookup f) (mA f)) ∧ PySem.Within mA (fs.map (·.1)) ∧ fs.length ≤ 1000 ∧ H dx = some (.own a) := by
  obtain ⟨d, z, ne, ob, mA, n, r, q⟩ := (show ObjOk P w H h a (.ins C dx fs) from hok a _ e)
  exact ⟨mA, ⟨ob, n, ne⟩, r, q, z, d⟩
end

/-! ### what of the text a class must have -/
structure Cls (K : PySem.W.Frag) (C : Addr) : Prop where
  pg : PySem.W.plainGet K C Str.empty = true
  hd : PySem.W.hasDictIn K C = true
  po : PySem.W.plainOver K C = true
  sa : PySem.W.findIn K (.ref C) "__setattr__" = some (some (.builtin "object.__setattr__"))
theorem Cls.get {K : PySem.W.Frag} {C : Addr} (c : Cls K C) (f : Str) : PySem.W.plainGet K C f = true := c.pg
section
variable {X : Cx} {pins : List (Addr × Obj)} {σ : St} {H : Hp} {s : Shared} {a C dx : Addr} {fs : List (Str × V)} {f : Str} {v : V} {A : Around} {E : Value → Shared → Prop}

/-- e.f where nothing but the object is asked: through attributeBase (super) and the last hold -/
theorem attr_of {prog : Program} {w : World} {env : Env} {e : Expr} {f : Str} {pos : Pos} {s : Shared} {Q : Value → Shared → Prop} (hb : attributeBase e f env (eval e env) = eval e env)
    (h : wpAny (model prog w) A (eval e env) (fun o s₁ => wpAny (model prog w) A (getAttr o f true) Q E s₁) E s) : wpAny (model prog w) A (eval (.Attribute e f pos) env) Q E s :=
  Attribute_any_ h (by rw [arm_eval_Attribute, hb])
end

/-! ### readings and rules -/
section
variable {X : Cx} {o e value : Expr} {f : Str} {pos pos' tpos : Pos} {ta tv : TE}
end

/-! ### isinstance -/
section
variable {X : Cx} {pins : List (Addr × Obj)} {σ : St} {H : Hp} {s : Shared} {A : Around} {E : Value → Shared → Prop} {Q : Value → Shared → Prop} {c : Value} {b : Bool}
/-- the type of a value, as the fragment's deciders take it; for an instance its class -/
inductive TyOf (K : PySem.W.Frag) (H : Hp) : V → Value → Prop where
  | non : TyOf K H .non (.type "NoneType")
  | bl (x : Bool) : TyOf K H (.bl x) (.type "bool")
  | int (i : Int) : TyOf K H (.int i) (.type "int")
  | str (x : Str) : TyOf K H (.str x) (.type "str")
  | flt (x : UInt64) : TyOf K H (.flt x) (.type "float")
  | lst {a : Addr} {xs : List V} (e : H a = some (.lst xs)) : TyOf K H (.ref a) (.type "list")
  | frz {a : Addr} {o : Obj} {xs : List V} (e : H a = some (.frz o (.lst xs))) : TyOf K H (.ref a) (.type "list")
  | tup {a : Addr} {xs : List V} (e : H a = some (.tup xs)) : TyOf K H (.ref a) (.type "tuple")
  | dK {a : Addr} {kvs : List (Key × V)} (e : H a = some (.dK kvs)) : TyOf K H (.ref a) (.type "dict")
  | dT {a : Addr} {kvs : List (List Key × V)} (e : H a = some (.dT kvs)) : TyOf K H (.ref a) (.type "dict")
  | ins {a C dx : Addr} {fs : List (Str × V)} (e : H a = some (.ins C dx fs)) (cl : Cls K C) (ha : PySem.W.findIn K (.ref C) "__class__" = some (some (.builtin "object.__class__")))
      (hn : PySem.W.specialIn K (.builtin "object.__class__") "__get__" = some (some (.builtin "getset_descriptor.__get__"))) (htk : PySem.W.takesIn K (.builtin "object.__class__") = some true)
      (hm : PySem.W.mroIn K C (.type "object") = some true) : TyOf K H (.ref a) (.ref C)
/-- isinstance(x, c) for one class c, a built-in or an own one: kitOne's answer -/
theorem isinst_ok {x : V} {u t : Value} (I : Inv X pins σ H s) (rx : RelV x u) (ty : TyOf X.K H x t) (e : PySem.W.kitOne X.K t c = some b) (h : ∀ tk, Q (.bool b) { s with toks := tk }) :
    wpAny (model X.prog X.w) A (call (.builtin "isinstance") [u, c]) Q E s := by
  cases ty with
  | non => cases (show u = Value.none from rx); exact PySem.W.kia_one PySem.W.kitx_none I.kIn True.intro e (fun z => nomatch z) h
  | bl y => cases (show u = Value.bool y from rx); exact PySem.W.kia_one PySem.W.kitx_bool I.kIn True.intro e (fun z => nomatch z) h
  | int i => obtain ⟨t, q⟩ := (show ∃ t, u = Value.int i t from rx); cases q; exact PySem.W.kia_one PySem.W.kitx_int I.kIn True.intro e (fun z => nomatch z) h
  | str y => obtain ⟨t, q⟩ := (show ∃ t, u = Value.str y t from rx); cases q; exact PySem.W.kia_one PySem.W.kitx_str I.kIn True.intro e (fun z => nomatch z) h
  | flt y => obtain ⟨t, q⟩ := (show ∃ t, u = Value.float y t from rx); cases q; exact PySem.W.kia_one PySem.W.kitx_float I.kIn True.intro e (fun z => nomatch z) h
  | @lst a xs ea =>
    cases (show u = Value.ref a from rx)
    obtain ⟨_, _, n, _, h1⟩ := (show ObjOk X.prog X.w H s.heap a (.lst xs) from I.hok a _ ea)
    exact PySem.W.kia_one PySem.W.kitx_list I.kIn ⟨_, h1, rfl⟩ e (fun z => nomatch z) h
  | @frz a ob xs ea =>
    cases (show u = Value.ref a from rx)
    obtain ⟨_, _, _, n, _, h1⟩ := (show ObjOk X.prog X.w H s.heap a (.frz ob (.lst xs)) from I.hok a _ ea)
    exact PySem.W.kia_one PySem.W.kitx_list I.kIn ⟨_, h1, rfl⟩ e (fun z => nomatch z) h
  | @tup a xs ea =>
    cases (show u = Value.ref a from rx)
    obtain ⟨_, _, _, p⟩ := (show ObjOk X.prog X.w H s.heap a (.tup xs) from I.hok a _ ea)
    obtain ⟨o, h1, h2, _⟩ := p
    exact PySem.W.kia_one PySem.W.kitx_tuple I.kIn ⟨o, h1, h2⟩ e (fun z => nomatch z) h
  | @dK a kvs ea =>
    cases (show u = Value.ref a from rx)
    obtain ⟨_, _, vs, _, p⟩ := (show ObjOk X.prog X.w H s.heap a (.dK kvs) from I.hok a _ ea)
    obtain ⟨o, es, ep, h1, h2, _⟩ := p
    exact PySem.W.kia_one PySem.W.kitx_dict I.kIn ⟨o, h1, h2.1⟩ e (fun z => nomatch z) h
  | @dT a kvs ea =>
    cases (show u = Value.ref a from rx)
    obtain ⟨_, _, xs, _, o, es, ep, h1, h2, _⟩ := (show ObjOk X.prog X.w H s.heap a (.dT kvs) from I.hok a _ ea)
    exact PySem.W.kia_one PySem.W.kitx_dict I.kIn ⟨o, h1, h2.1⟩ e (fun z => nomatch z) h
  | @ins a C dx fs ea cl ha hn htk hm =>
    cases (show u = Value.ref a from rx)
    obtain ⟨mA, O, _⟩ := ins_get I.hok ea
    obtain ⟨od, J, _⟩ := O.look
    exact PySem.W.kia_one (PySem.W.kitx_own (cl.get _) cl.hd ha hn htk hm) I.kIn J e (fun z => nomatch z) h
end
end L2

namespace L2
open PySem PySem.Spec PyProof.Rows

/-! ### room -/
structure Room (k : Nat) (A : Around) : Prop where
  hd : A.handled = none
  dp : A.depth + 3 * k + 5 < recursionLimit
  un : A.units + 16 * k + 200 < cLine
  gd : A.guards = some []
theorem Room.mono {j k : Nat} {A : Around} (r : Room k A) (h : j ≤ k) : Room j A := ⟨r.hd, by have := r.dp; omega, by have := r.un; omega, r.gd⟩
theorem Room.deeper {k : Nat} {A : Around} (r : Room (k + 1) A) (env : Env) : Room k (A.deeper env) :=
  ⟨r.hd, by have := r.dp; show A.depth + 1 + 3 * k + 5 < _; omega, by have := r.un; show A.units + 3 + 16 * k + 200 < _; omega, r.gd⟩
theorem make_depth {A : Around} {C : Addr} {us : List Value} {kw : List (Str × Value)} : (A.under (.builtin "type.__call__" ⟨.ref C :: us, kw⟩)).depth = A.depth + 1 := by
  first | rfl | simp [Around.under, Code.weight, Code.isCreation, Code.isGuard, Code.isCaller, Code.frames, Code.isFrame, guardIds]
theorem make_units {A : Around} {C : Addr} {us : List Value} {kw : List (Str × Value)} : (A.under (.builtin "type.__call__" ⟨.ref C :: us, kw⟩)).units = A.units + 1 := by
  first | rfl | simp [Around.under, Code.cUnits, Code.frames, Code.isFrame]
theorem Room.make {k : Nat} {A : Around} (r : Room (k + 1) A) (C : Addr) (us : List Value) (kw : List (Str × Value)) : Room k (A.under (.builtin "type.__call__" ⟨.ref C :: us, kw⟩)) :=
  ⟨r.hd, by have := r.dp; rw [make_depth]; omega, by have := r.un; rw [make_units]; omega, by simp [Around.under, r.gd, pushGuards, Code.guards, Code.isGuard, guardIds]⟩
theorem Room.depth {k : Nat} {A : Around} (r : Room k A) : A.depth < recursionLimit := by have := r.dp; omega
theorem Room.units {k : Nat} {A : Around} (r : Room k A) : A.units + 64 < cLine := by have := r.un; omega
/-! ### argument lists and displays -/
def tNil : TA := fun _ H Q => Q [] H
def tCons (ta : TE) (tr : TA) : TA := fun σ H Q => ta σ H fun x H1 => tr σ H1 fun xs H2 => Q (x :: xs) H2
section
variable {X : Cx} {e : Expr} {es : List Expr} {te : TE} {t : TA} {pos : Pos}
theorem pa_nil : PA X [] tNil := fun _ _ _ _ H Q I h => Calls.spliced_nil ⟨[], H, I, .nil, h⟩
theorem pa_cons (ha : PE X e te) (hr : PA X es t) (hs : starEach (e :: es) X.env = (false, eval e X.env) :: starEach es X.env := by rfl) : PA X (e :: es) (tCons te t) := by
  intro pos pins s σ H Q I h
  rw [hs]
  show wpAny _ _ (spliced ((false, eval e X.env) :: backTo pos (starEach es X.env))) _ _ s
  refine Calls.spliced_cons (thn (ha pins s σ H _ I h) fun u s1 ⟨x, H1, I1, r1, q1⟩ => ?_)
  exact thn (hr pos pins s1 σ H1 _ I1 q1) fun us s2 ⟨xs, H2, I2, r2, q2⟩ => ⟨x :: xs, H2, I2, .cons r1 r2, q2⟩

/-- a tuple, a list of written items -/
def tTup (t : TA) : TE := fun σ H Q => t σ H fun xs H1 => xs.length ≤ sizeLine ∧ ∀ p, H1 p = none → Q (.ref p) (upd H1 p (.tup xs))
def tLst (t : TA) : TE := fun σ H Q => t σ H fun xs H1 => xs.length ≤ sizeLine ∧ ∀ p, H1 p = none → Q (.ref p) (upd H1 p (.lst xs))
theorem pe_tup {x1} (h : PA X es t) : PE X (.Tuple es x1 pos) (tTup t) := by
  intro pins s σ H Q I hq
  refine wpAny_Tuple_spliced (thn (h pos pins s σ H _ I hq) fun us s1 ⟨xs, H1, I1, r, z, q⟩ => ⟨by rw [← r.length]; exact z, ?_⟩)
  have hf : H1 s1.heap.objs.size = none := I1.hok.fresh (Nat.le_refl _)
  refine ⟨.ref s1.heap.objs.size, upd H1 s1.heap.objs.size (.tup xs), I1.laid (t' := s1.toks) (fun b u e => Heap.get?_push_of_some _ e) (Nat.le_refl _) ?_, rfl, q _ hf⟩
  exact ⟨z, us, r, ⟨_, Heap.get?_push_size _ rfl, rfl, _, rfl⟩⟩
theorem pe_lst (h : PA X es t) : PE X (.List es pos) (tLst t) := by
  intro pins s σ H Q I hq
  refine wpAny_List_spliced (thn (h pos pins s σ H _ I hq) fun us s1 ⟨xs, H1, I1, r, z, q⟩ => ⟨by rw [← r.length]; exact z, ?_⟩)
  have hf : H1 s1.heap.objs.size = none := I1.hok.fresh (Nat.le_refl _)
  refine ⟨.ref s1.heap.objs.size, upd H1 s1.heap.objs.size (.lst xs), I1.laid (t' := s1.toks) (fun b u e => Heap.get?_push_of_some _ e) (Nat.le_refl _) ?_, rfl, q _ hf⟩
  exact ⟨z, us, 0, r, Heap.get?_push_size _ rfl⟩
end

/-! ### what a def promises -/
/-- a def's promise: the bound arguments in the parameters' order, the heap, the wanted end, the wanted exception -/
abbrev Sp := List V → Hp → VK → XK → Prop
/-- how an exception lies behind a call (file 08 gives it): the callers' frames, abstract heap and state ahead of the call, the wish, the exception, the state -/
abbrev CXT := List Env → Hp → Shared → XK → Value → Shared → Prop

/-- the state at a call -/
structure Env0 (P : Program) (w : World) (K : PySem.W.Frag) (mg : Str → Option Value) (base : Heap) (A : Around) (outer : List Env) (s : Shared) (H : Hp) : Prop where
  frames : A.frames = some outer
  mod : Mod K mg base
  bs : ∀ b o, base.get? b = some o → s.heap.get? b = some o ∧ H b = none
  bsz : base.objs.size ≤ s.heap.objs.size
  funs : s.heap.FunFrames base outer
  frf : ∀ b ∈ frs outer, H b = none
  hok : HOk P w H s.heap
  bare : AllBare s.gens
/-- a call's end -/
def CE (outer : List Env) (P : Program) (w : World) (H : Hp) (s : Shared) (Q : VK) (u : Value) (s' : Shared) : Prop :=
  ∃ v H', s'.os = s.os ∧ AllBare s'.gens ∧ Un (frs outer) [] H H' s.heap s'.heap ∧ HOk P w H' s'.heap ∧ RelV v u ∧ Q v H'
def CR (CX : CXT) (outer : List Env) (P : Program) (w : World) (H : Hp) (s : Shared) (Q : VK) (E : XK) (r : Result) (s' : Shared) : Prop :=
  match r with
  | .ok (.ret u) => CE outer P w H s Q u s'
  | .ok _ => False
  | .error e => CX outer H s E e s'
structure FnOk (P : Program) (w : World) (K : PySem.W.Frag) (mg : Str → Option Value) (base : Heap) (CX : CXT) (k : Nat) (f : Addr) (fd : FuncData) (ps : List Str) (sp : Sp) : Prop where
  len : ∀ vs H Q E, sp vs H Q E → vs.length = ps.length
  run : ∀ (A : Around) (outer : List Env) (s : Shared) (H : Hp) (args : Args) (us : List Value) (vs : List V) (Q : VK) (E : XK), Room k A → Env0 P w K mg base A outer s H → BindsTo s fd args (ps.zip us) → Vals vs us → sp vs H Q E →
    codeAny (model P w) A (.call (.ref f) args) (CR CX outer P w H s Q E) s
theorem Env0.make {P : Program} {w : World} {K : PySem.W.Frag} {mg : Str → Option Value} {base : Heap} {A : Around} {outer : List Env} {s : Shared} {H : Hp} (e : Env0 P w K mg base A outer s H) (C : Addr) (us : List Value) (kw : List (Str × Value)) :
    Env0 P w K mg base (A.under (.builtin "type.__call__" ⟨.ref C :: us, kw⟩)) outer s H := ⟨by first | exact e.frames | (simpa [Around.under, Code.envs, Code.isFrame, pushEnvs] using e.frames), e.mod, e.bs, e.bsz, e.funs, e.frf, e.hok, e.bare⟩
section
variable {X : Cx} {pins : List (Addr × Obj)} {σ : St} {H : Hp} {s s' : Shared}
/-- from a body: what a callee wants -/
theorem Inv.env0 (I : Inv X pins σ H s) : Env0 X.prog X.w X.K X.mg X.base X.A X.stack s H :=
  ⟨I.ok.frames, I.ok.mod, I.bs, Nat.le_trans I.ok.bsz I.sz, I.stack, I.stkFree, I.hok, I.bare⟩
/-- behind a call -/
theorem Inv.after {Q : VK} {u : Value} (I : Inv X pins σ H s) (h : CE X.stack X.prog X.w H s Q u s') : EP X pins σ Q u s' := by
  obtain ⟨v, H', os, bare, un, hok, r, q⟩ := h
  obtain ⟨hh, g, d, t, os'⟩ := s'
  obtain rfl : os' = s.os := os
  exact ⟨v, H', I.call (h' := hh) (g' := g) (d' := d) (t' := t) (ch := []) un hok bare (fun b z => absurd z (by simp)), r, q⟩
end

/-! ### calls -/
/-- f(..): the written arguments, then the defaults dvs; E: what is wanted of an exception -/
def tCall (sp : Sp) (dvs : List V) (E : XK) (t : TA) : TE := fun σ H Q => t σ H fun vs H1 => sp (vs ++ dvs) H1 Q E
/-- how the parameters are bound: us the positional arguments, kw the keywords' values by name, ds the defaults that fill up -/
def Binds (K : PySem.W.Frag) (fd : FuncData) (ps : List Str) (ds : List Value) : Prop :=
  ∀ (s : Shared) (us : List Value), K.In s.heap → (us ++ ds).length = ps.length → BindsTo s fd ⟨us, []⟩ (ps.zip (us ++ ds))
/-- every parameter is given -/
theorem Binds.all {K : PySem.W.Frag} {fd : FuncData} {ps : List Str} (h : ∀ us : List Value, us.length = ps.length → bindArgs fd ⟨us, []⟩ = pure (ps.zip us)) : Binds K fd ps [] := fun s us _ hl => by
  rw [List.append_nil] at hl ⊢
  exact .of_eq (h us hl)

/-- an exception of a callee reaches what this body wants of exceptions -/
def Passes (CX : CXT) (X : Cx) (E : XK) : Prop := ∀ (pins : List (Addr × Obj)) (σ : St) (H : Hp) (s : Shared) (e : Value) (s' : Shared), Inv X pins σ H s → CX X.stack H s E e s' → X.xe e s'

section
variable {X : Cx} {CX : CXT} {k : Nat} {f C : Addr} {fd : FuncData} {ps : List Str} {sp : Sp} {dvs : List V} {ds : List Value} {E : XK} {x m : Str} {p pos apos : Pos} {e o : Expr} {es : List Expr} {ta : TE} {t : TA}

/-- the callee runs -/
theorem run_fn {pins : List (Addr × Obj)} {σ : St} {H : Hp} {s : Shared} {Q : VK} {us : List Value} {vs : List V} (F : FnOk X.prog X.w X.K X.mg X.base CX k f fd ps sp) (hr : Room k X.A) (hb : Binds X.K fd ps ds) (hd : Vals dvs ds) (hx : Passes CX X E)
    (I : Inv X pins σ H s) (r : Vals vs us) (h : sp (vs ++ dvs) H Q E) : wpAny (model X.prog X.w) X.A (call (.ref f) us) (EP X pins σ Q) X.xe s := by
  have r2 : Vals (vs ++ dvs) (us ++ ds) := r.append hd
  have hl : (us ++ ds).length = ps.length := by rw [← r2.length]; exact F.len _ _ _ _ h
  refine wpAny_call (codeAny_mono (F.run X.A X.stack s H ⟨us, []⟩ (us ++ ds) (vs ++ dvs) Q E hr I.env0 (hb s us I.kIn hl) r2 h) fun r s' hq => ?_)
  cases r with
  | error e => exact hx pins σ H s e s' I hq
  | ok fl =>
    cases fl with
    | ret u => exact I.after hq
    | next => exact False.elim hq
    | brk => exact False.elim hq
    | cont => exact False.elim hq

theorem pe_call (F : FnOk X.prog X.w X.K X.mg X.base CX k f fd ps sp) (hr : Room k X.A) (hg : Gl X x) (hm : X.mg x = some (.ref f)) (hk : PySem.W.keepIn X.K (.ref f) = true) (hb : Binds X.K fd ps ds) (hd : Vals dvs ds) (hx : Passes CX X E)
    (ha : PA X (e :: es) t) (hdb : (x == ("__debug__" : Str)) = false := by decide) (he : starEach (e :: es) X.env = (false, eval e X.env) :: starEach es X.env := by rfl) (hpl : (backTo pos (starEach es X.env)).any (·.1) = false := by rfl) :
    PE X (.Call (.Name x p) (e :: es) [] pos) (tCall sp dvs E t) := by
  intro pins s σ H Q I h
  refine wpAny_Call_Name_kw (ld_glob I hg hm ?_ hdb)
  refine PySem.W.callWith_K (h₀ := X.base) I.ok.mod.kin hk (thn (ha pos pins s σ H _ I h) fun us s1 ⟨vs, H1, I1, r, q⟩ => ⟨I1.kIn, ?_⟩) he hpl
  exact run_fn F hr hb hd hx I1 r q
end

/-! ### keywords -/
section
variable {X : Cx} {CX : CXT} {k : Nat} {f C : Addr} {fd : FuncData} {ps ks : List Str} {sp : Sp} {E : XK} {x m : Str} {p pos apos kpos : Pos} {e o : Expr} {es : List Expr} {kws : List Keyword} {te ta : TE} {t tk : TA} {nm : Option Str}
variable {g : List Value → List Value → List Value} {gV : List V → List V → List V}
end

/-! ### a def's body keeps its promise -/
/-- names: the parameters first -/
structure FnScope (N P : List Str) (sc : Scope) : Prop where
  kind : sc.kind = .function
  co : sc.isCoroutine = false
  gen : sc.isGenerator = false
  nd : N.Nodup
  pre : N.take P.length = P
  par : ∀ x ∈ P, sc.names.lookup x = some .local ∨ sc.names.lookup x = some .cell
  nofree : ∀ y ∈ sc.names, y.2 ≠ .free

theorem bindL_out {kindOf : Str → Option NameKind} {x : Str} : ∀ {binds : List (Str × Value)} {m : Str → Option Value}, (∀ v, (x, v) ∉ binds) → bindL kindOf binds m x = m x
  | [], _, _ => rfl
  | (n, v) :: r, m, h => by
    unfold bindL
    rw [bindL_out fun w hw => h w (List.mem_cons_of_mem _ hw)]
    split
    · have : x ≠ n := by rintro rfl; exact h v List.mem_cons_self
      simp [this]
    · rfl
theorem bindC_out {kindOf : Str → Option NameKind} {x : Str} : ∀ {binds : List (Str × Value)} {m : Str → Option Value}, (∀ v, (x, v) ∉ binds) → bindC kindOf binds m x = m x
  | [], _, _ => rfl
  | (n, v) :: r, m, h => by
    unfold bindC
    rw [bindC_out fun w hw => h w (List.mem_cons_of_mem _ hw)]
    split
    · rfl
    · have : x ≠ n := by rintro rfl; exact h v List.mem_cons_self
      simp [this]
theorem bindL_get {kindOf : Str → Option NameKind} {x : Str} {v : Value} : ∀ {P : List Str} {vs : List Value} {i : Nat} {m : Str → Option Value}, P.Nodup → P[i]? = some x → vs[i]? = some v → kindOf x = some .local →
    bindL kindOf (P.zip vs) m x = some v
  | [], _, _, _, _, h, _, _ => by simp at h
  | _ :: _, [], _, _, _, _, h, _ => by simp at h
  | p :: P, w :: vs, 0, m, nd, h1, h2, hk => by
    simp at h1 h2; subst h1; subst h2
    show bindL kindOf ((p, w) :: P.zip vs) m p = _
    unfold bindL
    rw [bindL_out fun v hv => (List.nodup_cons.mp nd).1 (List.of_mem_zip hv).1, if_pos hk]
    simp
  | p :: P, w :: vs, i + 1, m, nd, h1, h2, hk => by
    show bindL kindOf ((p, w) :: P.zip vs) m x = _
    unfold bindL
    exact bindL_get (i := i) (List.nodup_cons.mp nd).2 (by simpa using h1) (by simpa using h2) hk
theorem bindC_get {kindOf : Str → Option NameKind} {x : Str} {v : Value} : ∀ {P : List Str} {vs : List Value} {i : Nat} {m : Str → Option Value}, P.Nodup → P[i]? = some x → vs[i]? = some v → kindOf x ≠ some .local →
    bindC kindOf (P.zip vs) m x = some v
  | [], _, _, _, _, h, _, _ => by simp at h
  | _ :: _, [], _, _, _, _, h, _ => by simp at h
  | p :: P, w :: vs, 0, m, nd, h1, h2, hk => by
    simp at h1 h2; subst h1; subst h2
    show bindC kindOf ((p, w) :: P.zip vs) m p = _
    unfold bindC
    rw [bindC_out fun v hv => (List.nodup_cons.mp nd).1 (List.of_mem_zip hv).1, if_neg hk]
    simp
  | p :: P, w :: vs, i + 1, m, nd, h1, h2, hk => by
    show bindC kindOf ((p, w) :: P.zip vs) m x = _
    unfold bindC
    exact bindC_get (i := i) (List.nodup_cons.mp nd).2 (by simpa using h1) (by simpa using h2) hk

/-- the names' values at the entry -/
def start (N : List Str) (vs : List V) : St := vs.map some ++ List.replicate (N.length - vs.length) none

/-- the context of a def's body, at its entry; an exception leaves the frame, then lies as CX says -/
def cxOf (CX : CXT) (P : Program) (w : World) (K : PySem.W.Frag) (mg : Str → Option Value) (base : Heap) (N : List Str) (qual : Str) (scope : Scope) (f : Addr) (cd : Value) (A : Around) (outer : List Env) (s : Shared) (H : Hp) (E : XK) : Cx where
  prog := P
  w := w
  K := K
  mg := mg
  base := base
  A := A.deeper (envOfC qual scope s.heap.objs.size f cd)
  N := N
  s₀ := s
  H₀ := H
  env := envOfC qual scope s.heap.objs.size f cd
  outer := outer
  stack := envOfC qual scope s.heap.objs.size f cd :: outer
  ex := []
  calm := true
  fn := fun _ => true
  pn := []
  xe := fun e s' => wpAny (model P w) (A.deeper (envOfC qual scope s.heap.objs.size f cd)) (leaving (envOfC qual scope s.heap.objs.size f cd) e) (fun _ s'' => CX outer H s E e s'') (fun e' s'' => CX outer H s E e' s'') s'

theorem cell_has {sc : Scope} {n : Nat} {x : Str} (h : sc.names.lookup x = some .cell) : ∃ c, (cellsFrom n sc.names []).lookup x = some c := by
  have q := PySem.W.cellsFrom_some sc.names n [] (.inl h)
  exact Option.isSome_iff_exists.mp q

theorem inv_start {CX : CXT} {P : Program} {w : World} {K : PySem.W.Frag} {mg : Str → Option Value} {base : Heap} {N ps : List Str} {qual : Str} {scope : Scope} {f : Addr} {cd : Value} {A : Around} {outer : List Env} {s s1 : Shared} {H : Hp} {E : XK} {us : List Value} {vs : List V}
    (S : FnScope N ps scope) (hd : A.handled = none) (e0 : Env0 P w K mg base A outer s H) (hl : vs.length = ps.length) (r : Vals vs us)
    (x : InCallC s s.heap.objs.size (bindL (envOfC qual scope s.heap.objs.size f cd).kindOf (ps.zip us) fun _ => none) (cellsFrom (s.heap.objs.size + 1) scope.names []) (bindC (envOfC qual scope s.heap.objs.size f cd).kindOf (ps.zip us) fun _ => none) s1) :
    Inv (cxOf CX P w K mg base N qual scope f cd A outer s H E) [] (start N vs) H s1 := by
  have hpl : ps.length ≤ N.length := by have := congrArg List.length S.pre; rw [List.length_take] at this; omega
  obtain ⟨h1, tk, rfl, hk⟩ := x.done
  have noA : ∀ b : Addr, b ∉ (cxOf CX P w K mg base N qual scope f cd A outer s H E).ex := fun b z => absurd (show b ∈ ([] : List Addr) from z) (by simp)
  refine ⟨⟨e0.mod, S.kind, rfl, rfl, Nat.le_refl _, fun y z c h1 h2 => ?_, fun y hy => ?_, fun y c _ h => ?_, fun _ => hd, Around.frames_deeper e0.frames, .inr ⟨rfl, rfl⟩, fun b z => absurd z (noA b), e0.bs, e0.bsz, fun b _ _ => noA b, fun b z => absurd z (noA b), e0.funs, e0.frf⟩,
    rfl, e0.bare, Un.kept hk, ⟨_, x.toInCall.ns, fun i y v h1 h2 h3 => ?_⟩, fun y c h => ⟨_, x.cell y c h⟩, e0.hok.fresh (Nat.le_refl _), fun y c h => ?_, fun p hp => absurd (show p ∈ ([] : List (Addr × Obj)) from hp) (by simp), e0.hok.kept hk, ?_⟩
  · exact name_of_addr x.apart (PySem.mem_of_lookup h1) (PySem.mem_of_lookup h2)
  · have hy : scope.names.lookup y = some .cell ∨ scope.names.lookup y = some .free := hy
    rcases hy with hy | hy
    · exact cell_has hy
    · exact absurd rfl (S.nofree _ (PySem.mem_of_lookup hy))
  · exact Nat.le_of_lt (x.above y c (PySem.mem_of_lookup h))
  · have hi : i < vs.length := by
      unfold start at h2
      by_cases hi : i < vs.length
      · exact hi
      · rw [List.getElem?_append_right (by simpa using hi)] at h2
        rw [List.getElem?_replicate] at h2
        split at h2 <;> cases h2
    have ha : vs[i]? = some v := by
      unfold start at h2
      rw [List.getElem?_append_left (by simpa using hi), List.getElem?_map] at h2
      cases e : vs[i]? with
      | none => rw [e] at h2; cases h2
      | some a => rw [e] at h2; cases h2; rfl
    obtain ⟨u, hu, rv⟩ := r.get ha
    have hp : ps[i]? = some y := by
      rw [← S.pre, List.getElem?_take_of_lt (by omega)]; exact h1
    have ndP : ps.Nodup := by rw [← S.pre]; exact S.nd.sublist (List.take_sublist _ _)
    refine ⟨u, rv, ?_⟩
    rcases S.par y (List.mem_of_getElem? hp) with k | k
    · exact .inl ⟨k, bindL_get ndP hp hu k⟩
    · obtain ⟨c, e⟩ := cell_has (n := s.heap.objs.size + 1) k
      refine .inr ⟨.inl k, c, e, ?_⟩
      have q := x.cell y c e
      rw [bindC_get ndP hp hu (by show scope.names.lookup y ≠ _; rw [k]; decide)] at q
      exact q
  · exact e0.hok.fresh (Nat.le_of_lt (x.above y c (PySem.mem_of_lookup h)))
  · unfold start
    show _ = N.length
    rw [List.length_append, List.length_map, List.length_replicate]
    omega

/-- THE RULE: a def (or a method) of the text, by its body. The body's reading t is chosen for each entry; it is run at the parameters' values -/
theorem fn_of {CX : CXT} {P : Program} {w : World} {K : PySem.W.Frag} {mg : Str → Option Value} {base : Heap} {k : Nat} {f : Addr} {name qual : Str} {params : Arguments} {body : List Stmt} {scope : Scope} {dV kV doc pm cdv ct oc : Value} {an od : Option Addr}
    {osl : Array (Option Value)} {N ps : List Str} {sp : Sp} (lk : K.lookup f = some ⟨oc, od, .func (PySem.W.fnOf name qual params body scope dV kV doc pm an cdv ct), osl⟩) (hcd : PySem.W.codeIn K cdv qual = true) (S : FnScope N ps scope)
    (len : ∀ vs H Q E, sp vs H Q E → vs.length = ps.length)
    (hbody : ∀ (A : Around) (outer : List Env) (s : Shared) (H : Hp) (vs : List V) (Q : VK) (E : XK), Room k (A.deeper (envOfC qual scope s.heap.objs.size f cdv)) → sp vs H Q E →
      ∃ t, PSs (cxOf CX P w K mg base N qual scope f cdv A outer s H E) body t ∧ t { nx := fun _ H' => Q .non H', rt := Q } (start N vs) H) :
    FnOk P w K mg base CX (k + 1) f (PySem.W.fnOf name qual params body scope dV kV doc pm an cdv ct) ps sp := by
  refine ⟨len, fun A outer s H args us vs Q E hr e0 hb r hsp => ?_⟩
  have hl := len _ _ _ _ hsp
  have KX : K.In s.heap := e0.mod.kin.keeps fun b o e => (e0.bs b o e).1
  have lim : s.heap.NoLimit := e0.mod.nolimit.keeps fun b o e => (e0.bs b o e).1
  have hkind : ∀ y ∈ ps.zip us, scope.names.lookup y.1 = some .local ∨ (scope.names.lookup y.1 = some .cell ∧ ((cellsFrom (s.heap.objs.size + 1) scope.names []).lookup y.1).isSome = true) := fun ⟨n, v⟩ hy => by
    rcases S.par n (List.of_mem_zip hy).1 with q | q
    · exact .inl q
    · exact .inr ⟨q, PySem.W.cellsFrom_some _ _ _ (.inl q)⟩
  refine codeAny_call_function hr.depth (KX _ _ lk) rfl S.co S.gen rfl (PySem.W.codeRec_of KX hcd) (hb _ _ _ _ ?_)
  refine wpAny_newFunctionEnv_cells S.kind hkind fun env he s1 x => ?_
  subst he
  refine ⟨lim.keeps x.toInCall.keep, codeAny_func ?_⟩
  obtain ⟨t, ht, hq⟩ := hbody A outer s H vs Q E (hr.deeper _) hsp
  have I : Inv (cxOf CX P w K mg base N qual scope f cdv A outer s H E) [] (start N vs) H s1 := inv_start S hr.hd e0 hl r x
  refine wpAny_mono (ht [] s1 (start N vs) H _ I hq) (fun fl s' hs => ?_) fun e s' hs => hs
  have fin : ∀ {σ' : St} {H' : Hp} {v : V} {u : Value}, Inv (cxOf CX P w K mg base N qual scope f cdv A outer s H E) [] σ' H' s' → RelV v u → Q v H' → CE outer P w H s Q u s' :=
    fun {σ' H' v u} J rv q => ⟨v, H', J.os, J.bare, J.base, J.hok, rv, q⟩
  cases fl with
  | ret u =>
    obtain ⟨v, σ', H', J, rv, q⟩ := hs
    exact fin J rv q
  | next =>
    obtain ⟨σ', H', J, q⟩ := hs
    exact fin (v := V.non) (u := Value.none) J rfl q
  | brk =>
    obtain ⟨_, _, _, q⟩ := hs
    exact False.elim q
  | cont =>
    obtain ⟨_, _, _, q⟩ := hs
    exact False.elim q
end L2

namespace L2
open PySem PySem.Spec PyProof.Rows
section
variable {X : Cx} {x : Str} {p pos : Pos} {e : Expr} {es : List Expr} {t : TA} {id T : String} {r : List V → Hp → VK → Prop}

def tCB (r : List V → Hp → VK → Prop) (t : TA) : TE := fun σ H Q => t σ H fun vs H1 => r vs H1 Q
/-- f(e, ..), f a built-in function -/
theorem pe_callB (hc : CallR X (.builtin id) r) (hg : Gl X x) (hm : X.mg x = none) (hv : bootBuiltins x = some (.builtin id)) (ha : PA X (e :: es) t) (hn : x ≠ "__name__" := by decide) (hdb : (x == ("__debug__" : Str)) = false := by decide)
    (he : starEach (e :: es) X.env = (false, eval e X.env) :: starEach es X.env := by rfl) (hpl : (backTo pos (starEach es X.env)).any (·.1) = false := by rfl) : PE X (.Call (.Name x p) (e :: es) [] pos) (tCB r t) := by
  intro pins s σ H Q I h
  refine wpAny_Call_Name_kw (ld_blt I hg hm hv ?_ hn hdb)
  exact PyProof.Rows.callWith_builtin1 (thn (ha pos pins s σ H _ I h) fun us s1 ⟨vs, H1, I1, r1, q1⟩ => hc pins s1 σ H1 vs us Q I1 r1 q1) he hpl
/-- T(e, ..), T a built-in type -/
theorem pe_callTy (hc : CallR X (.type T) r) (hg : Gl X x) (hm : X.mg x = none) (hv : bootBuiltins x = some (.type T)) (ha : PA X (e :: es) t) (hn : x ≠ "__name__" := by decide) (hdb : (x == ("__debug__" : Str)) = false := by decide)
    (he : starEach (e :: es) X.env = (false, eval e X.env) :: starEach es X.env := by rfl) (hpl : (backTo pos (starEach es X.env)).any (·.1) = false := by rfl) : PE X (.Call (.Name x p) (e :: es) [] pos) (tCB r t) := by
  intro pins s σ H Q I h
  refine wpAny_Call_Name_kw (ld_blt I hg hm hv ?_ hn hdb)
  exact PyProof.Rows.callWith_type1 (thn (ha pos pins s σ H _ I h) fun us s1 ⟨vs, H1, I1, r1, q1⟩ => hc pins s1 σ H1 vs us Q I1 r1 q1) he hpl
end
end L2

namespace HT
open PySem PyProof.Rows

section
open PySem.SeqAt
open PySem.AutoSeq1 (wpAny_loadPart')
open PySem.MeetsSeq PySem.MeetsSeq2 PySem.MeetsSeq3

end

section
variable {prog : Program} {w : World} {A : Around} {E : Value → Shared → Prop} {s : Shared}

/-! ### t[a:b], not the whole -/
/-- a slice's bound as a place among n (d where it is left out) -/
def sIx (n d : Nat) : Option Int → Nat
  | none => d
  | some v => if v < 0 then (v + (n : Int)).toNat else min v.toNat n
theorem sIx_nat (n d k : Nat) : sIx n d (some (k : Int)) = min k n := by
  show (if (k : Int) < 0 then ((k : Int) + (n : Int)).toNat else min (k : Int).toNat n) = min k n
  rw [if_neg (by omega), Int.toNat_natCast]
end
end HT

namespace L2
open PySem PySem.Spec PyProof.Rows

/-! ### the parts of a slice -/
abbrev TO := St → Hp → (Option Int → Hp → Prop) → Prop
/-- a slice's part (left out, or an int) -/
def PO (X : Cx) (e : Option Expr) (t : TO) : Prop :=
  ∀ (pins : List (Addr × Obj)) (s : Shared) (σ : St) (H : Hp) (Q : Option Int → Hp → Prop), Inv X pins σ H s → t σ H Q →
    wpAny (model X.prog X.w) X.A (evalPart e X.env) (fun u s' => ∃ o H', Inv X pins σ H' s' ∧ IsPart u o ∧ Q o H') X.xe s
def tNoPart : TO := fun _ H Q => Q none H
def tPart (t : TE) : TO := fun σ H Q => t σ H fun x H1 => ∃ i, x = .int i ∧ Q (some i) H1

theorem intsAre_of {ns : List Int} : ∀ {us : List Value}, Vals (ns.map V.int) us → IntsAre us ns := by
  induction ns with
  | nil => intro us r; rw [List.map_nil] at r; cases r; exact .nil
  | cons n ns ih =>
    intro us r
    rw [List.map_cons] at r
    cases r with
    | cons r1 r2 =>
      obtain ⟨t, e⟩ := r1
      subst e
      exact .cons n t (ih r2)

section
variable {X : Cx} {e : Expr} {te : TE} {lo hi : Option Expr} {tl th : TO} {pos p2 : Pos}

theorem po_none : PO X none tNoPart := by
  intro pins s σ H Q I h
  rw [evalPart_none]
  exact wpAny_pure ⟨none, H, I, .none, h⟩
theorem po_some (h : PE X e te) : PO X (some e) (tPart te) := by
  intro pins s σ H Q I hw
  rw [evalPart_some]
  refine thn (h pins s σ H _ I hw) fun u s1 ⟨x, H1, I1, r1, q1⟩ => ?_
  obtain ⟨i, rfl, q⟩ := q1
  obtain ⟨t, rfl⟩ := r1
  exact ⟨some i, H1, I1, .int i t, q⟩

/-- what a slice of a value is, by values: the slice object stands at sl -/
def SlR (X : Cx) (r : V → Option Int → Option Int → Hp → VK → Prop) : Prop :=
  ∀ (pins : List (Addr × Obj)) (s : Shared) (σ : St) (H : Hp) (x : V) (v vl vu : Value) (lo hi : Option Int) (sl : Addr) (Q : VK), Inv X pins σ H s → RelV x v → s.heap.IsSliceOf sl vl vu .none → IsPart vl lo → IsPart vu hi → r x lo hi H Q →
    ∃ T id, typeLookup (.type T) "__getitem__" = pure (some (.builtin id)) ∧ s.TypeIs v T ∧ wpAny (model X.prog X.w) X.A (getItem v (.ref sl)) (EP X pins σ Q) X.xe s
def tSl (r : V → Option Int → Option Int → Hp → VK → Prop) (te : TE) (tl th : TO) : TE := fun σ H Q => te σ H fun x H1 => tl σ H1 fun l H2 => th σ H2 fun u H3 => r x l u H3 Q
/-- a[lo:hi], any a -/
theorem pe_slice {r : V → Option Int → Option Int → Hp → VK → Prop} (hr : SlR X r) (he : PE X e te) (hl : PO X lo tl) (hu : PO X hi th) : PE X (.Subscript e (.Slice lo hi none p2) pos) (tSl r te tl th) := by
  intro pins s σ H Q I h
  refine Subscript_ (thn (he pins s σ H _ I h) fun v s1 ⟨x, H1, I1, r1, q1⟩ => ?_)
  refine wpAny_Slice (thn (hl pins s1 σ H1 _ I1 q1) fun vl s2 ⟨l, H2, I2, pl, q2⟩ => thn (hu pins s2 σ H2 _ I2 q2) fun vu s3 ⟨u, H3, I3, pu, q3⟩ => ?_)
  rw [evalPart_none]
  refine wpAny_pure ?_
  have I4 : Inv X pins σ H3 { s3 with heap := s3.heap.push { cls := .type "slice", data := .fields #[vl, vu, .none] } } := I3.kept (t' := s3.toks) fun b ob q => Heap.get?_push_of_some _ q
  obtain ⟨T, id, hT, ht, hg⟩ := hr pins { s3 with heap := s3.heap.push { cls := .type "slice", data := .fields #[vl, vu, .none] } } σ H3 x v vl vu l u s3.heap.objs.size Q I4 r1 (Heap.IsSliceOf.new ..) pl pu q3
  show wpAny (model X.prog X.w) X.A (subscriptTail e (.Slice lo hi none p2) v (.ref s3.heap.objs.size)) (EP X pins σ Q) X.xe { s3 with heap := s3.heap.push { cls := .type "slice", data := .fields #[vl, vu, .none] } }
  exact tail_any (ops := [.ref s3.heap.objs.size, v]) ht hT hg (by with_unfolding_all rfl)

/-- the items of xs[lo:hi] -/
def cutV (xs : List V) (lo hi : Option Int) : List V := (xs.drop (HT.sIx xs.length 0 lo)).take (HT.sIx xs.length xs.length hi - HT.sIx xs.length 0 lo)
theorem cutV_length (xs : List V) (lo hi : Option Int) : (cutV xs lo hi).length ≤ xs.length := by
  unfold cutV
  rw [List.length_take, List.length_drop]
  omega
/-! ### t < u, t + u -/
end
end L2

namespace L2
open PySem PySem.Spec PyProof.Rows

/-! ### places -/
/-- the place that an index of any sign means -/
def ixN (n : Nat) (i : Int) : Option Nat := if 0 ≤ i then (if i < n then some i.toNat else none) else if -(n : Int) ≤ i then some (i + n).toNat else none
def atI {α : Type} (xs : List α) (i : Int) : Option α := (ixN xs.length i).bind fun j => xs[j]?
theorem ixN_seq {n : Nat} {i : Int} {j : Nat} (h : ixN n i = some j) : seqIndex? i n = some j ∧ j < n ∧ -(n : Int) ≤ i ∧ i < n := by
  unfold ixN at h
  by_cases h0 : 0 ≤ i
  · rw [if_pos h0] at h
    by_cases h1 : i < n
    · rw [if_pos h1] at h
      have e : i.toNat = j := Option.some.inj h
      exact ⟨by rw [seqIndex_of h0 h1, e], by omega, by omega, h1⟩
    · rw [if_neg h1] at h; cases h
  · rw [if_neg h0] at h
    by_cases h1 : -(n : Int) ≤ i
    · rw [if_pos h1] at h
      have e : (i + n).toNat = j := Option.some.inj h
      exact ⟨by rw [seqIndex_neg (by omega) h1, e], by omega, h1, by omega⟩
    · rw [if_neg h1] at h; cases h
theorem atI_get {α : Type} {xs : List α} {i : Int} {v : α} (h : atI xs i = some v) : ∃ j, seqIndex? i xs.length = some j ∧ xs[j]? = some v ∧ j < xs.length ∧ -(xs.length : Int) ≤ i ∧ i < xs.length := by
  unfold atI at h
  cases e : ixN xs.length i with
  | none => rw [e] at h; cases h
  | some j =>
    rw [e] at h
    obtain ⟨h1, h2, h3, h4⟩ := ixN_seq e
    exact ⟨j, h1, h, h2, h3, h4⟩
theorem atI_nat {α : Type} {xs : List α} {j : Nat} {v : α} (h : xs[j]? = some v) : atI xs (j : Int) = some v := by
  have hj : j < xs.length := (List.getElem?_eq_some_iff.mp h).1
  have e : ixN xs.length (j : Int) = some j := by
    unfold ixN
    rw [if_pos (by omega), if_pos (by omega)]; simp
  unfold atI; rw [e]; exact h
/-! ### what may be subscripted -/
/-- what stands as an index of a plain subscript -/
def PlainIx (b : Expr) : Prop := ∀ o i, subscripted b false o i = operate [o, i] (getItem o i)
/-- a subscript by values -/
def IxR (X : Cx) (r : R2) : Prop :=
  ∀ (value slice : Expr) (pins : List (Addr × Obj)) (s : Shared) (σ : St) (H : Hp) (x y : V) (v u : Value) (Q : VK), Inv X pins σ H s → RelV x v → RelV y u → r x y H Q →
    subscripted slice false v u = operate [v, u] (getItem v u) → wpAny (model X.prog X.w) X.A (subscriptTail value slice v u) (EP X pins σ Q) X.xe s
/-- a call of a builtin's method by values: the receiver, the arguments -/
def MtR (X : Cx) (id : String) (r : V → List V → Hp → VK → Prop) : Prop :=
  ∀ (pins : List (Addr × Obj)) (s : Shared) (σ : St) (H : Hp) (x : V) (xs : List V) (v : Value) (us : List Value) (Q : VK), Inv X pins σ H s → RelV x v → Vals xs us → r x xs H Q →
    wpAny (model X.prog X.w) X.A (call (.builtin id) (v :: us)) (EP X pins σ Q) X.xe s
section
variable {X : Cx} {a b : Expr} {ta tb : TE} {pos : Pos}
/-- a[b] -/
theorem pe_ix {r : R2} (hr : IxR X r) (ha : PE X a ta) (hb : PE X b tb) (hs : PlainIx b) : PE X (.Subscript a b pos) (tOp r ta tb) := by
  intro pins s σ H Q I h
  exact Subscript_ (binT ha hb I h fun v u s2 x y H2 I2 rx ry q => hr a b pins s2 σ H2 x y v u Q I2 rx ry q (hs _ _))

def rIxL (K : PySem.W.Frag) : R2 := fun x y H Q => ∃ p xs i v, x = .ref p ∧ y = .int i ∧ SqL K H p xs ∧ atI xs i = some v ∧ Q v H
def rIxT (K : PySem.W.Frag) : R2 := fun x y H Q => ∃ p xs i v, x = .ref p ∧ y = .int i ∧ SqT K H p xs ∧ atI xs i = some v ∧ Q v H
def rIxS : R2 := fun x y H Q => ∃ z i c, x = .str z ∧ y = .int i ∧ z.length ≤ sizeLine ∧ atI z.cps.toList i = some c ∧ Q (.str ⟨#[c]⟩) H
theorem ix_list : IxR X (rIxL X.K) := by
  intro value slice pins s σ H x y v u Q I rx ry h hs
  obtain ⟨p, xs, i, z, rfl, rfl, hq, he, q⟩ := h
  cases rx
  obtain ⟨t, rfl⟩ := ry
  obtain ⟨its, r, pl, hz⟩ := I.list hq
  obtain ⟨j, h1, h2, h3, h4, h5⟩ := atI_get he
  obtain ⟨w, ew, rw'⟩ := r.get h2
  have hl := r.length
  have hn := line63
  have fin : EP X pins σ Q w s := ⟨z, H, I, rw', q⟩
  by_cases h0 : 0 ≤ i
  · have hj : i.toNat = j := by
      rw [seqIndex_of h0 h5] at h1
      exact Option.some.inj h1
    exact item_listR pl.isList h0 (by omega) (by rw [hj]; simpa using ew) fin hs
  · have hj : (i + (its.toArray.size : Int)).toNat = j := by
      rw [seqIndex_neg (by omega) h4] at h1
      rw [List.size_toArray, ← hl]
      exact Option.some.inj h1
    exact subscriptTail_builtinR (x := w) pl.isList.typeIs slot_list_getitem.lookup
      (wpAny_getItem_list_neg (Q := fun r s' => r = w ∧ EP X pins σ Q r s') pl.isList (by omega) (by rw [List.size_toArray] <;> omega) (by omega) (by rw [hj]; simpa using ew) ⟨rfl, fin⟩) hs
theorem ix_tup : IxR X (rIxT X.K) := by
  intro value slice pins s σ H x y v u Q I rx ry h hs
  obtain ⟨p, xs, i, z, rfl, rfl, hq, he, q⟩ := h
  cases rx
  obtain ⟨t, rfl⟩ := ry
  obtain ⟨its, r, pl, hz⟩ := I.tuple hq
  obtain ⟨j, h1, h2, h3, h4, h5⟩ := atI_get he
  obtain ⟨w, ew, rw'⟩ := r.get h2
  have hl := r.length
  have hn := line63
  have fin : EP X pins σ Q w s := ⟨z, H, I, rw', q⟩
  exact subscriptTail_builtinR (x := w) pl.typeIs slot_tuple_getitem.lookup
    (getItem_tuple (j := j) (Q := fun r s' => r = w ∧ EP X pins σ Q r s') pl (by omega) (by omega) (by rw [List.size_toArray, ← hl]; exact h1) (by simpa using ew) ⟨rfl, fin⟩) hs
theorem ix_str : IxR X rIxS := by
  intro value slice pins s σ H x y v u Q I rx ry h hs
  obtain ⟨z, i, c, rfl, rfl, hz, he, q⟩ := h
  obtain ⟨t, rfl⟩ := rx
  obtain ⟨t', rfl⟩ := ry
  obtain ⟨j, h1, h2, h3, h4, h5⟩ := atI_get he
  have hl : z.cps.toList.length = z.length := by simp [Str.length]
  rw [hl] at h1 h4 h5
  have hn := line63
  exact tail_any (typeIs_str s z t) slot_str_getitem.lookup (getItem_str (c := c) (by
    have e1 : decide (i < -(2 ^ 63 : Int)) = false := decide_eq_false (by omega)
    have e2 : decide (i ≥ 2 ^ 63) = false := decide_eq_false (by omega)
    rw [e1, e2, Bool.or_false]) (by rw [h1]; simpa using h2) ⟨.str ⟨#[c]⟩, H, I.tok _, ⟨_, rfl⟩, q⟩) hs
/-! ### xs[i] = v, any sign -/
/-- the list's object behind a store -/
theorem mapSeq_set (its : List Value) (n j : Nat) (u : Value) : Obj.mapSeq (·.setIfInBounds j u) { cls := .type "list", data := .seq its.toArray n } = { cls := .type "list", data := .seq (its.set j u).toArray n } := by
  simp [Obj.mapSeq]
theorem Inv.lst {pins : List (Addr × Obj)} {σ : St} {H : Hp} {s : Shared} {p : Addr} {xs : List V} (I : Inv X pins σ H s) (h : H p = some (.lst xs)) :
    ∃ (its : List Value) (n : Nat), Vals xs its ∧ s.heap.get? p = some { cls := .type "list", data := .seq its.toArray n } ∧ xs.length ≤ sizeLine := by
  obtain ⟨z, its, n, r, e⟩ := I.hok p _ h
  exact ⟨its, n, r, e, z⟩
/-- the list at p is written by an update of its object -/
theorem Inv.lstUpd {pins : List (Addr × Obj)} {σ : St} {H : Hp} {s : Shared} {p : Addr} {xs ys : List V} {its its' : List Value} {n n' : Nat} {f : Obj → Obj} (I : Inv X pins σ H s) (h : H p = some (.lst xs))
    (ho : s.heap.get? p = some { cls := .type "list", data := .seq its.toArray n }) (hf : f { cls := .type "list", data := .seq its.toArray n } = { cls := .type "list", data := .seq its'.toArray n' }) (r : Vals ys its') (hz : ys.length ≤ sizeLine) (t : Nat) :
    Inv X pins σ (upd H p (.lst ys)) { s with heap := s.heap.update p f, toks := t } := by
  have e : (s.heap.update p f).get? p = some { cls := .type "list", data := .seq its'.toArray n' } := by
    rw [Heap.get?_update_self f ho (by rw [hf] <;> rfl), hf]
  refine I.write (x := p) (e := p) (by rw [h]; trivial) (.inl rfl) (fun b u hb q => (Heap.get?_update_other _ _ (Ne.symm hb)).trans q) ⟨_, e⟩ ?_
  exact ⟨hz, its', n', r, e⟩
def rSetL : V → V → V → Hp → (Hp → Prop) → Prop := fun o i v H Q => ∃ p xs k j, o = .ref p ∧ i = .int k ∧ H p = some (.lst xs) ∧ ixN xs.length k = some j ∧ Q (upd H p (.lst (xs.set j v)))
theorem set_list : PSet X rSetL := by
  intro pins s σ H o i v ov iv u Q I ro ri rv h
  obtain ⟨p, xs, k, j, rfl, rfl, hp, hj, q⟩ := h
  cases ro
  obtain ⟨t, rfl⟩ := ri
  obtain ⟨its, n, r, ho, hz⟩ := I.lst hp
  obtain ⟨h1, h2, h3, h4⟩ := ixN_seq hj
  have hl := r.length
  have hn := line63
  have I' : Inv X pins σ (upd H p (.lst (xs.set j v))) { s with heap := s.heap.update p (Obj.mapSeq (·.setIfInBounds j u)) } :=
    I.lstUpd hp ho (mapSeq_set its n j u) (r.set rv j) (by rw [List.length_set]; exact hz) s.toks
  by_cases h0 : 0 ≤ k
  · have hk : k.toNat = j := by
      rw [seqIndex_of h0 h4] at h1
      exact Option.some.inj h1
    exact PySem.W.ki_setAt ho h0 (by omega) (by rw [List.size_toArray, ← hl]; exact h4) (by rw [hk]; exact ⟨_, I', q⟩)
  · have hk : (k + (its.toArray.size : Int)).toNat = j := by
      rw [seqIndex_neg (by omega) h3] at h1
      rw [List.size_toArray, ← hl]
      exact Option.some.inj h1
    exact PySem.W.ki_setBack ho (by omega) (by rw [List.size_toArray, ← hl]; exact h3) (by omega) (by rw [hk]; exact ⟨_, I', q⟩)

/-! ### slices -/
theorem slice_bounds (lo hi : Option Int) (n : Nat) : (sliceBounds lo hi none n).1 = ((HT.sIx n 0 lo : Nat) : Int) ∧ (sliceBounds lo hi none n).2.1 = ((HT.sIx n n hi : Nat) : Int) ∧ (sliceBounds lo hi none n).2.2 = 1 := by
  refine ⟨?_, ?_, rfl⟩
  · cases lo with
    | none => simp [sliceBounds, HT.sIx]
    | some i =>
      simp only [sliceBounds, HT.sIx, Option.getD_none, show (1 : Int) > 0 by decide, if_true]
      by_cases h : i < 0
      · simp only [h, if_true] <;> omega
      · simp only [h, if_false] <;> omega
  · cases hi with
    | none => simp [sliceBounds, HT.sIx]
    | some i =>
      simp only [sliceBounds, HT.sIx, Option.getD_none, show (1 : Int) > 0 by decide, if_true]
      by_cases h : i < 0
      · simp only [h, if_true] <;> omega
      · simp only [h, if_false] <;> omega
theorem slicePick_cut (its : List Value) (lo hi : Option Int) : slicePick its.toArray lo hi none = ((its.drop (HT.sIx its.length 0 lo)).take (HT.sIx its.length its.length hi - HT.sIx its.length 0 lo)).toArray := by
  obtain ⟨h1, h2, h3⟩ := slice_bounds lo hi its.toArray.size
  unfold slicePick
  rw [h1, h2, h3]
  simp only [sliceRange_one, pick_run, List.size_toArray] <;> rfl
/-- xs[lo:hi] of a list: a new list -/
def rSlL (K : PySem.W.Frag) : V → Option Int → Option Int → Hp → VK → Prop := fun x lo hi H Q => ∃ a xs, x = .ref a ∧ SqL K H a xs ∧ ∀ p, H p = none → Q (.ref p) (upd H p (.lst (cutV xs lo hi)))
theorem sl_list : SlR X (rSlL X.K) := by
  intro pins s σ H x v vl vu lo hi sl Q I rx hs pl pu h
  obtain ⟨a, xs, rfl, hx, q⟩ := h
  cases rx
  obtain ⟨its, r, ht, hz⟩ := I.list hx
  have hlen := r.length
  refine ⟨"list", _, slot_list_getitem.lookup, ht.isList.typeIs, ?_⟩
  refine wpAny_getItem_list_slice ht.isList hs pl pu .none (by simp) ?_ (by rw [List.size_toArray] <;> omega)
  rw [slicePick_cut, ← hlen]
  refine ⟨.ref s.heap.objs.size, _, I.laid (t' := s.toks) (o := .lst (cutV xs lo hi)) (fun b ob q => Heap.get?_push_of_some _ q) (Nat.le_refl _) ?_, rfl, q _ (I.hok.fresh (Nat.le_refl _))⟩
  exact ⟨Nat.le_trans (cutV_length xs lo hi) hz, _, 0, (r.drop (HT.sIx xs.length 0 lo)).take (HT.sIx xs.length xs.length hi - HT.sIx xs.length 0 lo), Heap.get?_push_size _ rfl⟩

/-! ### in, not in: flat items -/
def flatV : V → Bool
  | .non => true
  | .bl _ => true
  | .int _ => true
  | .str _ => true
  | _ => false
/-- == of flat values -/
def eqV : V → V → Bool
  | .non, .non => true
  | .bl a, .bl b => a == b
  | .bl a, .int b => (if a then 1 else 0) == b
  | .int a, .bl b => a == (if b then 1 else 0)
  | .int a, .int b => a == b
  | .str a, .str b => a == b
  | _, _ => false
theorem eqAt_V {A : Around} {s : Shared} {y x : V} {u v : Value} (ry : RelV y u) (rx : RelV x v) (fy : flatV y = true) (fx : flatV x = true) : SeqAt.EqAt A s u v (eqV y x) := by
  cases y with
  | non =>
    cases ry
    cases x with
    | non => cases rx; exact SeqAt.EqAt.same _
    | bl b => cases rx; exact SeqAt.EqAt.none_bool b
    | int b => obtain ⟨t, rfl⟩ := rx; exact SeqAt.EqAt.none_int b t
    | str b => obtain ⟨t, rfl⟩ := rx; exact SeqAt.EqAt.none_str b t
    | _ => exact absurd (show false = true from fx) Bool.false_ne_true
  | bl a =>
    cases ry
    cases x with
    | non => cases rx; exact SeqAt.EqAt.bool_none a
    | bl b => cases rx; exact SeqAt.EqAt.bool_bool a b
    | int b => obtain ⟨t, rfl⟩ := rx; exact SeqAt.EqAt.bool_int a b t
    | str b => obtain ⟨t, rfl⟩ := rx; exact SeqAt.EqAt.bool_str a b t
    | _ => exact absurd (show false = true from fx) Bool.false_ne_true
  | int a =>
    obtain ⟨t', rfl⟩ := ry
    cases x with
    | non => cases rx; exact SeqAt.EqAt.int_none a t'
    | bl b => cases rx; exact SeqAt.EqAt.int_bool a t' b
    | int b => obtain ⟨t, rfl⟩ := rx; exact SeqAt.EqAt.int_int a t' b t
    | str b => obtain ⟨t, rfl⟩ := rx; exact SeqAt.EqAt.int_str a t' b t
    | _ => exact absurd (show false = true from fx) Bool.false_ne_true
  | str a =>
    obtain ⟨t', rfl⟩ := ry
    cases x with
    | non => cases rx; exact SeqAt.EqAt.str_none a t'
    | bl b => cases rx; exact SeqAt.EqAt.str_bool a t' b
    | int b => obtain ⟨t, rfl⟩ := rx; exact SeqAt.EqAt.str_int a t' b t
    | str b => obtain ⟨t, rfl⟩ := rx; exact SeqAt.EqAt.str_str a t' b t
    | _ => exact absurd (show false = true from fx) Bool.false_ne_true
  | _ => exact absurd (show false = true from fy) Bool.false_ne_true
/-- the items' answers, read off the values (a value's own answer does not lean on its token) -/
def eqU (x : V) (u : Value) : Bool := match u with
  | .none => eqV .non x
  | .bool b => eqV (.bl b) x
  | .int i _ => eqV (.int i) x
  | .str z _ => eqV (.str z) x
  | _ => false
theorem eqU_of {x y : V} {u : Value} (r : RelV y u) (f : flatV y = true) : eqU x u = eqV y x := by
  cases y with
  | non => cases r; rfl
  | bl b => cases r; rfl
  | int i => obtain ⟨t, rfl⟩ := r; rfl
  | str z => obtain ⟨t, rfl⟩ := r; rfl
  | _ => exact absurd (show false = true from f) Bool.false_ne_true
theorem any_eqU {x : V} : ∀ {xs : List V} {us : List Value}, Vals xs us → xs.all flatV = true → us.any (eqU x) = xs.any fun y => eqV y x
  | _, _, .nil, _ => rfl
  | y :: xs, u :: us, .cons r t, f => by
    rw [List.all_cons, Bool.and_eq_true] at f
    rw [List.any_cons, List.any_cons, eqU_of r f.1, any_eqU t f.2]
theorem mem_eqAt {A : Around} {s : Shared} {x : V} {v : Value} (rx : RelV x v) (fx : flatV x = true) : ∀ {xs : List V} {us : List Value}, Vals xs us → xs.all flatV = true → ∀ u ∈ us, SeqAt.EqAt A s u v (eqU x u)
  | _, _, .nil, _ => fun u hu => by cases hu
  | y :: xs, u :: us, .cons r t, f => fun u' hu => by
    rw [List.all_cons, Bool.and_eq_true] at f
    rcases List.mem_cons.mp hu with rfl | hu
    · rw [eqU_of r f.1]; exact eqAt_V r rx f.1 fx
    · exact mem_eqAt rx fx t f.2 u' hu
def inV (x : V) (xs : List V) : Bool := xs.any fun y => eqV y x
/-- x in a list or tuple of flat items -/
def rIn (K : PySem.W.Frag) (neg : Bool) : R2 := fun x y H Q => ∃ p xs, y = .ref p ∧ (SqL K H p xs ∨ SqT K H p xs) ∧ flatV x = true ∧ xs.all flatV = true ∧ Q (.bl (if neg then !inV x xs else inV x xs)) H
theorem op_in_seq : OpR X (compareOp .In) (rIn X.K false) := by
  intro pins s σ H x y v u Q I rx ry h
  obtain ⟨p, xs, rfl, hq, fx, fs, q⟩ := h
  cases ry
  rcases hq with hq | hq
  · obtain ⟨its, r, pl, hz⟩ := I.list hq
    refine SeqAt.in_listAt (eqU x) pl.isList (fun w hw => mem_eqAt rx fx r fs w (by simpa using hw)) ⟨.bl _, H, I, rfl, ?_⟩
    rw [show its.toArray.any (eqU x) = its.any (eqU x) by simp, any_eqU r fs]
    exact q
  · obtain ⟨its, r, pl, hz⟩ := I.tuple hq
    refine SeqAt.in_tupleAt (eqU x) pl (fun w hw => mem_eqAt rx fx r fs w (by simpa using hw)) ⟨.bl _, H, I, rfl, ?_⟩
    rw [show its.toArray.any (eqU x) = its.any (eqU x) by simp, any_eqU r fs]
    exact q
/-! ### len, list(x), tuple(x) of any list or tuple that is read -/
theorem call_len_seq : CallR X (.builtin "len") (fun xs H Q => ∃ p ys, xs = [.ref p] ∧ (SqL X.K H p ys ∨ SqT X.K H p ys) ∧ Q (.int ys.length) H) := by
  intro pins s σ H xs us Q I r h
  obtain ⟨p, ys, rfl, hq, q⟩ := h
  obtain ⟨u, rfl, rx⟩ := vals1 r
  cases rx
  have hn := line63
  rcases hq with hq | hq
  · obtain ⟨its, r', pl, hz⟩ := I.list hq
    have hlen := r'.length
    exact Calls.call_len_list pl.isList (by simp only [List.size_toArray] <;> omega) ⟨.int ys.length, H, I.tok _, ⟨s.toks + 1, by rw [List.size_toArray, hlen]⟩, q⟩
  · obtain ⟨its, r', pl, hz⟩ := I.tuple hq
    have hlen := r'.length
    exact len_tuple pl (by simp only [List.size_toArray] <;> omega) ⟨.int ys.length, H, I.tok _, ⟨s.toks + 1, by rw [List.size_toArray, hlen]⟩, q⟩
theorem call_len_str : CallR X (.builtin "len") (fun xs H Q => ∃ z, xs = [.str z] ∧ z.length ≤ sizeLine ∧ Q (.int z.length) H) := by
  intro pins s σ H xs us Q I r h
  obtain ⟨z, rfl, hz, q⟩ := h
  obtain ⟨u, rfl, t, rfl⟩ := vals1 r
  have hn := line63
  exact len_str (by omega) ⟨.int z.length, H, I.tok _, ⟨_, rfl⟩, q⟩
theorem call_list_of : CallR X (.type "list") (fun xs H Q => ∃ p ys, xs = [.ref p] ∧ (SqL X.K H p ys ∨ SqT X.K H p ys) ∧ ∀ l, H l = none → Q (.ref l) (upd H l (.lst ys))) := by
  intro pins s σ H xs us Q I r h
  obtain ⟨p, ys, rfl, hq, q⟩ := h
  obtain ⟨u, rfl, rx⟩ := vals1 r
  cases rx
  have fin : ∀ (its : List Value), Vals ys its → ys.length ≤ sizeLine → ∀ (h' : Heap) (c' : Nat), (∀ b o', s.heap.get? b = some o' → h'.get? b = some o') →
      h'.get? s.heap.objs.size = some { cls := .type "list", dict := none, data := .seq its.toArray c', slots := #[] } → EP X pins σ Q (.ref s.heap.objs.size) { s with heap := h' } := fun its r' hz h' c' kp e =>
    ⟨.ref s.heap.objs.size, _, I.laid (t' := s.toks) kp (Nat.le_refl _) (show ObjOk X.prog X.w _ h' _ (.lst ys) from ⟨hz, its, c', r', e⟩), rfl, q _ (I.hok.fresh (Nat.le_refl _))⟩
  rcases hq with hq | hq
  · obtain ⟨its, r', pl, hz⟩ := I.list hq
    have hlen := r'.length
    obtain ⟨o, ho, hc, n, hd⟩ := pl.isList
    exact call_list_seq p (.inl rfl) ho hc hd (fun h' c' kp e => fin its r' hz h' c' kp e) (by simp only [List.size_toArray] <;> omega)
  · obtain ⟨its, r', pl, hz⟩ := I.tuple hq
    have hlen := r'.length
    obtain ⟨o, ho, hc, n, hd⟩ := pl
    exact call_list_seq p (.inr rfl) ho hc hd (fun h' c' kp e => fin its r' hz h' c' kp e) (by simp only [List.size_toArray] <;> omega)
theorem call_tuple_of : CallR X (.type "tuple") (fun xs H Q => ∃ p ys, xs = [.ref p] ∧ ((SqL X.K H p ys ∧ ∀ l, H l = none → Q (.ref l) (upd H l (.tup ys))) ∨ (SqT X.K H p ys ∧ Q (.ref p) H))) := by
  intro pins s σ H xs us Q I r h
  obtain ⟨p, ys, rfl, h⟩ := h
  obtain ⟨u, rfl, rx⟩ := vals1 r
  cases rx
  rcases h with ⟨hq, q⟩ | ⟨hq, q⟩
  · obtain ⟨its, r', pl, hz⟩ := I.list hq
    have hlen := r'.length
    refine call_tuple_list pl.isList (fun h' kp => ?_) (by simp only [List.size_toArray] <;> omega)
    have I1 : Inv X pins σ H { s with heap := h' } := I.kept (t' := s.toks) kp
    have I2 : Inv X pins σ (upd H h'.objs.size (.tup ys)) { s with heap := h'.push { cls := .type "tuple", data := .seq its.toArray } } :=
      I1.laid (t' := s.toks) (fun b o e => Heap.get?_push_of_some _ e) (Nat.le_refl _) (show ObjOk X.prog X.w _ _ _ (.tup ys) from ⟨hz, its, r', IsTup.new _ _⟩)
    exact ⟨.ref h'.objs.size, _, I2, rfl, q _ (I1.hok.fresh (Nat.le_refl _))⟩
  · obtain ⟨its, r', pl, hz⟩ := I.tuple hq
    exact call_tuple_same pl ⟨.ref p, H, I, rfl, q⟩

/-! ### the call of a builtin's method: o.m(..) -/
/-- the value is of that builtin type -/
def tyV (K : PySem.W.Frag) (T : String) (x : V) (H : Hp) : Prop := match x with
  | .str _ => T = "str"
  | .int _ => T = "int"
  | .ref p => (T = "list" ∧ ∃ xs, SqL K H p xs) ∨ (T = "tuple" ∧ ∃ o, K.lookup p = some o ∧ o.cls = .type "tuple" ∧ o.dict = none) ∨
      (T = "dict" ∧ ((∃ kvs, H p = some (.dK kvs)) ∨ ∃ kvs, H p = some (.dT kvs))) ∨ (T = "set" ∧ ∃ S n, H p = some (.set S n))
  | _ => False
theorem tyV_is {pins : List (Addr × Obj)} {σ : St} {H : Hp} {s : Shared} {T : String} {x : V} {v : Value} (I : Inv X pins σ H s) (r : RelV x v) (ty : tyV X.K T x H) :
    s.TypeIs v T ∧ ∀ a, v = .ref a → ∃ ob, s.heap.get? a = some ob ∧ ob.dict = none := by
  cases x with
  | str z =>
    obtain ⟨t, rfl⟩ := r
    cases (show T = "str" from ty)
    exact ⟨typeIs_str s z t, fun _ e => nomatch e⟩
  | int i =>
    obtain ⟨t, rfl⟩ := r
    cases (show T = "int" from ty)
    exact ⟨typeIs_int s i t, fun _ e => nomatch e⟩
  | ref p =>
    cases r
    rcases ty with ⟨rfl, xs, hq⟩ | ⟨rfl, o, hk, hc, hd⟩ | ⟨rfl, hk⟩ | ⟨rfl, S, n, hk⟩
    · obtain ⟨its, _, pl, _⟩ := I.list hq
      refine ⟨pl.isList.typeIs, fun a e => ?_⟩
      cases e
      obtain ⟨o, n, e, c, hd, _⟩ := pl
      exact ⟨o, e, hd⟩
    · refine ⟨⟨o, I.kIn p o hk, hc⟩, fun a e => ?_⟩
      cases e
      exact ⟨o, I.kIn _ o hk, hd⟩
    · have z : ∃ o, s.heap.get? p = some o ∧ o.ExactDict := by
        rcases hk with ⟨kvs, hk⟩ | ⟨kvs, hk⟩
        · obtain ⟨_, _, _, _, o, _, _, e, ex, _⟩ := I.hok p _ hk
          exact ⟨o, e, ex⟩
        · obtain ⟨_, _, _, _, o, _, _, e, ex, _⟩ := I.hok p _ hk
          exact ⟨o, e, ex⟩
      obtain ⟨o, e, ex⟩ := z
      refine ⟨⟨o, e, ex.1⟩, fun a e2 => ?_⟩
      cases e2
      exact ⟨o, e, ex.2.1⟩
    · obtain ⟨o, _, _, _, e, ex, _⟩ := I.hok p _ hk
      refine ⟨⟨o, e, ex.1⟩, fun a e2 => ?_⟩
      cases e2
      exact ⟨o, e, ex.2.1⟩
  | _ => exact False.elim ty
def tBM (K : PySem.W.Frag) (T : String) (r : V → List V → Hp → VK → Prop) (to : TE) (t : TA) : TE := fun σ H Q => to σ H fun x H1 => tyV K T x H1 ∧ t σ H1 fun xs H2 => r x xs H2 Q
variable {o e : Expr} {es : List Expr} {to : TE} {t : TA} {name : Str} {apos cpos : Pos} {T id : String} {r : V → List V → Hp → VK → Prop}
theorem pe_bm (pa : PlainAttrs T) (slot : Slot T name id) (hty : typeOf (.builtin id) = pure (.type "method_descriptor")) (hm : MtR X id r) (ho : PE X o to) (ha : PA X (e :: es) t)
    (hbase : attributeBase o name X.env (eval o X.env) = eval o X.env := by rfl)
    (hfew : ((backTo cpos (starEach (e :: es) X.env)).all (fun x => !x.1) && (backToKw cpos (keywordEach [] X.env)).all (fun x => x.1.isSome)
      && decide ((e :: es).length + ([] : List Keyword).length + (if ([] : List Keyword).isEmpty then 0 else 1) < 30)) = true := by rfl)
    (hline : (apos.endLine == cpos.line) = true := by rfl) (hs : starEach (e :: es) X.env = (false, eval e X.env) :: starEach es X.env := by rfl) (hplain : (backTo cpos (starEach es X.env)).any (·.1) = false := by rfl) :
    PE X (.Call (.Attribute o name apos) (e :: es) [] cpos) (tBM X.K T r to t) := by
  intro pins s σ H Q I h
  refine wpAny_Call_method_late hbase hfew hline rfl (thn (ho pins s σ H _ I h) fun v s1 ⟨x, H1, I1, r1, ty, q1⟩ => ?_)
  obtain ⟨h1, h2⟩ := tyV_is I1 r1 ty
  refine ⟨T, id, pa, slot, hty, h1, h2, ?_⟩
  have hA := ha cpos pins s1 σ H1 _ I1 q1
  rw [hs] at hA ⊢
  refine Calls.callWith_builtin (by show (false || (backTo cpos (starEach es X.env)).any (·.1)) = false; rw [hplain] <;> rfl) (Calls.evalArgs_plain ?_)
  exact thn hA fun us s2 ⟨vs, H2, I2, r2, q2⟩ => hm pins s2 σ H2 x vs v us Q I2 r1 r2 q2
/- xs.append(e), list.index on a module's tuple .. are MtR facts of 06m -/
end
end L2

namespace L2
open PySem PySem.Spec PyProof.Rows

def MtM (X : Cx) (id : String) (r : V → List V → Hp → VK → Prop) : Prop :=
  ∀ (pins : List (Addr × Obj)) (s : Shared) (σ : St) (H : Hp) (x : V) (xs : List V) (v : Value) (us : List Value) (Q : VK), Inv X pins σ H s → RelV x v → Vals xs us → r x xs H Q →
    wpAny (model X.prog X.w) X.A (call (.builtin id) (v :: us)) (EP X pins σ Q) X.xe s

/-! ### lists of values -/
theorem Vals.one : ∀ {x : V} {us : List Value}, Vals [x] us → ∃ u, us = [u] ∧ RelV x u
  | _, _, .cons r .nil => ⟨_, rfl, r⟩
section
variable {X : Cx} {pins : List (Addr × Obj)} {σ : St} {H : Hp} {s : Shared} {l b : Addr} {xs ys zs : List V}

/-! ### the two steps: a tracked list is rewritten, a new list is laid -/
theorem Inv.lset {its its' : List Value} {n : Nat} {f : Array Value → Array Value} {t' : Nat} (I : Inv X pins σ H s) (hH : H l = some (.lst xs))
    (e : s.heap.get? l = some { cls := .type "list", data := .seq its.toArray n }) (hf : f its.toArray = its'.toArray) (hv : Vals ys its') (hz : ys.length ≤ sizeLine) :
    Inv X pins σ (upd H l (.lst ys)) { s with heap := s.heap.update l (Obj.mapSeq f), toks := t' } := by
  have q := PySem.IsL.update e f
  rw [hf] at q
  refine I.write (x := l) (e := l) (by rw [hH]; exact trivial) (.inl rfl) (fun b' u hb hu => (Heap.get?_update_other s.heap (Obj.mapSeq f) (Ne.symm hb)).trans hu) ⟨_, q⟩ ?_
  exact ⟨hz, its', _, hv, q⟩
theorem Inv.lnew {its : List Value} {t' : Nat} (I : Inv X pins σ H s) (hv : Vals ys its) (hz : ys.length ≤ sizeLine) :
    Inv X pins σ (upd H s.heap.objs.size (.lst ys)) { s with heap := s.heap.push { cls := .type "list", data := .seq its.toArray }, toks := t' } :=
  I.laid (fun _ _ q => Heap.get?_push_of_some _ q) (Nat.le_refl _) ⟨hz, its, 0, hv, Heap.get?_push_size _ rfl⟩
theorem Inv.fresh (I : Inv X pins σ H s) : H s.heap.objs.size = none := I.hok.fresh (Nat.le_refl _)
theorem Inv.lstM (I : Inv X pins σ H s) (hH : H l = some (.lst xs)) : xs.length ≤ sizeLine ∧ ∃ (its : List Value) (n : Nat), Vals xs its ∧ xs.length = its.length ∧ s.heap.get? l = some { cls := .type "list", data := .seq its.toArray n } := by
  obtain ⟨z, its, n, r, e⟩ := I.hok l _ hH
  exact ⟨z, its, n, r, r.length, e⟩

theorem notLongL {n : Nat} (h : n ≤ sizeLine) : Builtin.List.listTooLong n = false := by
  unfold Builtin.List.listTooLong
  exact decide_eq_false (by omega)
end

section
variable {X : Cx}

/-! ### methods -/
def rAppend : V → List V → Hp → VK → Prop := fun x vs H Q => ∃ l xs y, x = .ref l ∧ vs = [y] ∧ H l = some (.lst xs) ∧ xs.length < sizeLine ∧ Q .non (upd H l (.lst (xs ++ [y])))
theorem mt_append : MtM X "list.append" rAppend := by
  intro pins s σ H x vs v us Q I rx rv h
  obtain ⟨l, xs, y, rfl, rfl, hH, hz, q⟩ := h
  cases rx
  obtain ⟨u, rfl, ru⟩ := rv.one
  obtain ⟨z, its, n, r, hl, e⟩ := I.lstM hH
  refine call_meets F.slot_list_append ⟨_, e, rfl⟩ F.entry_list_append (F.args_list_append_2 _ _) (PySem.list_append l its.toArray n u (by rw [List.size_toArray]; omega)) ⟨e, ?_⟩
  refine ⟨.non, _, I.lset (its' := its ++ [u]) hH e (by simp) (r.append (.cons ru .nil)) ?_, rfl, q⟩
  rw [List.length_append, List.length_singleton]
  omega

/-! ### list + list, list += list, list * int -/
def rCat : R2 := fun x y H Q => ∃ l b xs zs, x = .ref l ∧ y = .ref b ∧ H l = some (.lst xs) ∧ H b = some (.lst zs) ∧ xs.length + zs.length ≤ sizeLine ∧ ∀ p, H p = none → Q (.ref p) (upd H p (.lst (xs ++ zs)))
theorem op_cat : OpR X (binaryOp .Add) rCat := by
  intro pins s σ H x y v u Q I rx ry h
  obtain ⟨l, b, xs, zs, rfl, rfl, hH, hB, hz, q⟩ := h
  cases rx
  cases ry
  obtain ⟨z, its, n, r, hl, e⟩ := I.lstM hH
  obtain ⟨z2, its2, n2, r2, hl2, e2⟩ := I.lstM hB
  refine PySem.P.add_list e e2 ?_ (by rw [List.size_toArray, List.size_toArray]; omega)
  have ea : its.toArray ++ its2.toArray = (its ++ its2).toArray := by simp
  rw [ea]
  exact ⟨.ref _, _, I.lnew (t' := s.toks) (r.append r2) (by rw [List.length_append]; omega), rfl, q _ I.fresh⟩
/-! ### del xs[i] -/
end

/-! ### xs[a:b] = ys -/
section
variable {prog : Program} {w : World} {A : Around} {E : Value → Shared → Prop} {s : Shared}
end

section
variable {X : Cx}
end
end L2

namespace Att
open PySem PySem.W PySem.Calls PyProof.Rows

/-! ### the script -/
theorem ints_of_wellAll {P : Params} {h : Heap} : ∀ (ns : List Int) (vs : List Value), WellAll P h vs (ns.map WData.int) → IntsAre vs ns := by
  intro ns
  induction ns with
  | nil =>
    intro vs w
    rw [List.map_nil] at w
    cases w
    exact .nil
  | cons n ns ih =>
    intro vs w
    rw [List.map_cons] at w
    cases w with
    | cons a b =>
      cases a
      exact .cons _ _ (ih _ b)

theorem script_of {l : OpenLaw} {n : Nat} (hn : l.most = some n) {P : Params} {h : Heap} {args : List WData} {vals : List Value}
    (hpre : l.row.toRowW.claim.pre args = true) (hwl : WellAll P h vals args) :
    ∃ a vs ns, vals = [Value.ref a] ∧ args = [WData.list (ns.map WData.int)] ∧ h.get? a = some { cls := .type "list", data := .seq vs.toArray } ∧ IntsAre vs ns ∧ ns.length ≤ n := by
  have hsh : WShape.hasAll [] args [.list .int] = true := (pre_splitW hpre).1
  have hc : l.pre.holds [] { args := args } = true := (pre_splitW hpre).2
  obtain ⟨d, r, rfl, h1, h2⟩ := hasAllW_cons hsh
  obtain rfl := hasAllW_nil h2
  obtain ⟨xs, rfl, h3⟩ := hasW_list h1
  obtain ⟨ns, rfl⟩ := items_int h3
  have hlen : ns.length ≤ n := by
    unfold OpenLaw.pre at hc
    have h4 : (WTm.not (.lt (.lit (.int (n : Int))) (.len (.arg 0)))).holds [] { args := [.list (ns.map .int)] } = true := by
      have h4 := (holds_andW hc).1
      rw [hn] at h4
      exact h4
    have h5 := condW_of h4 (w_not (w_lt w_lit (w_len_list (w_arg rfl))))
    rw [List.length_map] at h5
    refine Nat.le_of_not_lt fun q => ?_
    have q' : (n : Int) < ((ns.length : Nat) : Int) := by omega
    first
      | (rw [decide_eq_true q'] at h5; exact absurd h5 (by decide))
      | (simp at h5; omega)
  cases hwl with
  | cons w1 w2 =>
    cases w2
    cases w1 with
    | list ho hall => exact ⟨_, _, ns, rfl, rfl, ho, ints_of_wellAll ns _ hall, hlen⟩

theorem post_true (l : OpenLaw) (args : List WData) : l.row.toRowW.claim.post args (.bool true) args = true :=
  postW_of (r := l.row.toRowW) (X := (true == true))
    (show WShape.has [] (.bool true) .bool = true by first | rfl | decide | simp [WShape.has, WShape.arms, WShape.armsAll])
    (show (WTm.eq .res (.lit (.bool true))).value [] { args := args, res := some (.bool true), after := args } = some (.bool (true == true)) from w_eq_bool (w_res rfl) w_lit) rfl

/-! ### the attachment: holds_open's last premise (the goal 'hc' behind k_head) from a wpAny of the law's body -/
/-- the same from a codeAny of the CALL (for a layer whose function contracts speak of calls) -/
theorem attach_call {l : OpenLaw} {n : Nat} {q : Program} {loose : List Str} {XP : (Str → Option Value) → Heap → Prop} {YP : World → Heap → Prop} {d : DefRec}
    (hn : l.most = some n) (hdf : d.params.defaults = [])
    (call : ∀ (w : World) (s₀ s₁ : Shared) (mg mb : Str → Option Value) (fa : Addr) (o : Obj) (pm cd doc : Value) (a : Addr) (vs : List Value) (ns : List Int),
      Ground q loose [] XP w s₀ mg mb s₁.heap → YP w s₁.heap →
      s₁.heap.get? fa = some o → o.data = .func (docDef d.name d.params d.body d.scope pm cd doc) → s₁.heap.CodeRec cd d.name → mg d.name = some (.ref fa) →
      s₁.heap.get? a = some { cls := .type "list", data := .seq vs.toArray } → IntsAre vs ns → ns.length ≤ n → s₁.gens = #[] →
      codeAny (model l.prog w) callerA (.call (.ref fa) ⟨[.ref a], []⟩) (fun r s' => r = .ok (.ret (.bool true)) ∧ OldK s₁.heap s'.heap ∧ s'.os = s₁.os ∧ AllBare s'.gens) s₁) :
    WalkO q loose XP YP l.row.toRowW d [] (fun f vs => PySem.call f vs) := by
  intro w s₀ s₁ mg mb G Y fa o pm cd doc dV kV ho hd hcd hD hmg hg args vals as hpre hlay hrd hwl hlo
  obtain rfl : dV = .none := Dflts.none hD hdf
  obtain rfl : kV = .none := Dflts.noKw hD
  obtain ⟨a, vs, ns, rfl, rfl, hobj, hints, hlen⟩ := script_of hn hpre hwl
  refine enter_call (codeAny_mono (call w s₀ s₁ mg mb fa o pm cd doc a vs ns G Y ho (fd_plain hd) hcd hmg hobj hints hlen hg) fun r s' hq => ?_)
  obtain ⟨rfl, h2, h3, h4⟩ := hq
  exact ⟨.inl ⟨.bool true, .bool true, [], rfl, fun _ => rfl, .bool true, post_true l _, fun _ => ⟨List.Pairwise.nil, fun _ hm => (nomatch hm)⟩⟩, h2, h3, h4⟩

/-! ### rules over ANY heap (no ledger) from facts about the written part K: the library's own take a ledger (News) for what they write -/
section
variable {prog : Program} {w : World} {A : Around} {E : Value → Shared → Prop} {s : Shared} {K : Frag}

/-! the whole heap as the ledger: makes every rule that writes through a ledger a rule over any heap -/
end
end Att

namespace L2
open PySem PySem.Spec PyProof.Rows

theorem vals_ints : ∀ {vs : List Value} {ns : List Int}, IntsAre vs ns → Vals (ns.map V.int) vs
  | _, _, .nil => .nil
  | _, _, .cons n t h => .cons ⟨t, rfl⟩ (vals_ints h)

/-- nothing is tracked but the script, known to the object (or it is an object of the module) -/
def Only (H : Hp) : Prop := ∀ b, H b = none ∨ ∃ o xs, H b = some (.frz o (.lst xs))

/-- THE HEAD: the law's promise, at the heap behind the top. F, the promise of the law's def, may use that base is part of the heap (so K.In base, base.Ns mainGlobals mg stand in Mod) -/
theorem law_call {P : Program} {w : World} {K : PySem.W.Frag} {mg mb : Str → Option Value} {CX : CXT} {k : Nat} {fa a : Addr} {fd : FuncData} {x : Str} {sp : Sp} {s₁ : Shared} {vs : List Value} {ns : List Int}
    (KX : K.In s₁.heap) (hns : s₁.heap.Ns mainGlobals mg) (hb : s₁.heap.Ns builtinsNs mb) (hbb : ∀ x : Str, x ≠ "__name__" → mb x = bootBuiltins x) (hlim : s₁.heap.NoLimit) (hg : s₁.gens = #[])
    (ha : s₁.heap.get? a = some { cls := .type "list", data := .seq vs.toArray }) (hi : IntsAre vs ns) (hl : ns.length ≤ sizeLine) (hr : Room k callerA)
    (F : ∀ base : Heap, K.In base → base.Ns mainGlobals mg → FnOk P w K mg base CX k fa fd [x] sp) (hbind : ∀ (s : Shared) (u : Value), BindsTo s fd ⟨[u], []⟩ [(x, u)])
    (hsp : ∀ H : Hp, Only H → SqL K H a (ns.map V.int) → sp [.ref a] H (fun v _ => v = .bl true) fun _ _ _ => False)
    (hCX : ∀ H e s', CX [] H s₁ (fun _ _ _ => False) e s' → False) :
    codeAny (model P w) callerA (.call (.ref fa) ⟨[.ref a], []⟩) (fun r s' => r = .ok (.ret (.bool true)) ∧ OldK s₁.heap s'.heap ∧ s'.os = s₁.os ∧ AllBare s'.gens) s₁ := by
  have rv := vals_ints hi
  have lenV := hi.length
  -- from an abstract heap in which nothing but the script may be tracked
  have core : ∀ H : Hp, Only H → SqL K H a (ns.map V.int) → HOk P w H s₁.heap → (∀ b, H b ≠ none → b = a) → (H a ≠ none → K.lookup a = none) →
      codeAny (model P w) callerA (.call (.ref fa) ⟨[.ref a], []⟩) (fun r s' => r = .ok (.ret (.bool true)) ∧ OldK s₁.heap s'.heap ∧ s'.os = s₁.os ∧ AllBare s'.gens) s₁ := by
    intro H hO hS hok hA hK
    have base_of : ∀ {b : Addr} {o : Obj}, s₁.heap.get? b = some o → H b = none → (hidT s₁.heap H).get? b = some o := fun e n => hidT_get e n
    have noA : ∀ {b : Addr} {o : Obj} {es : Array DictEntry} {ep : Nat}, s₁.heap.get? b = some o → o.data = .dict es ep → H b = none := fun {b o es ep} e d => by
      cases q : H b with
      | none => rfl
      | some u =>
        have e' : b = a := hA b (by rw [q]; simp)
        subst e'
        rw [ha] at e; cases e
        have d' : Data.seq vs.toArray _ = Data.dict es ep := d
        cases d'
    have nsK : ∀ {b : Addr} {m : Str → Option Value}, s₁.heap.Ns b m → (hidT s₁.heap H).Ns b m := fun {b m} ⟨o, es, ep, e, d, r⟩ => ⟨o, es, ep, base_of e (noA e d), d, r⟩
    have hKb : K.In (hidT s₁.heap H) := fun b o e => base_of (KX b o e) (by
      cases q : H b with
      | none => rfl
      | some u =>
        have e' : b = a := hA b (by rw [q]; simp)
        subst e'
        rw [hK (by rw [q]; simp)] at e; cases e)
    have hM : Mod K mg (hidT s₁.heap H) := ⟨hKb, nsK hns, ⟨mb, nsK hb, hbb⟩, let ⟨mc, h1, h2⟩ := hlim; ⟨mc, nsK h1, h2⟩⟩
    have e0 : Env0 P w K mg (hidT s₁.heap H) callerA [] s₁ H := ⟨rfl, hM, fun b o e => of_hidT e, Nat.le_of_eq (hidT_size _ _), trivial, fun b hb => absurd (show b ∈ ([] : List Addr) from hb) (by simp), hok, .of_eq hg⟩
    refine codeAny_mono ((F _ hKb (nsK hns)).run callerA [] s₁ H ⟨[.ref a], []⟩ [.ref a] [.ref a] _ _ hr e0 (hbind s₁ (.ref a)) (.cons rfl .nil) (hsp H hO hS)) fun r s' h => ?_
    cases r with
    | error e => exact (hCX H e s' h).elim
    | ok fl =>
      cases fl with
      | next => exact False.elim h
      | brk => exact False.elim h
      | cont => exact False.elim h
      | ret u =>
        obtain ⟨v, H', os, bare, un, hok', r', q⟩ := h
        have q' : v = .bl true := q
        subst q'
        obtain rfl : u = Value.bool true := r'
        refine ⟨rfl, OldK.of_keep fun b o e => ?_, os, bare⟩
        cases q : H b with
        | none => exact un.keep b o e q (by intro z; exact absurd (show b ∈ ([] : List Addr) from z) (by simp)) (by simp)
        | some u =>
          rcases hO b with z | ⟨ob, xs, z⟩
          · rw [q] at z; cases z
          · have z2 := un.frzs b ob _ z
            obtain ⟨e1, _⟩ := hok b _ z
            obtain ⟨e2, _⟩ := hok' b _ z2
            rw [e] at e1; cases e1
            exact e2
  cases hk : K.lookup a with
  | some o =>
    -- the script is one of the module's own objects
    have e := KX a o hk
    rw [ha] at e
    cases e
    refine core (fun _ => none) (fun _ => .inl rfl) (.inr ⟨_, vs.toArray, _, hk, rfl, rfl, rfl, by rw [List.size_toArray, lenV]; exact hl, by simpa using rv⟩) (fun b u z => by have z' : (none : Option HO) = some u := z; cases z') (fun b z => absurd rfl z) fun z => absurd rfl z
  | none =>
    refine core (fun b => if b = a then some (.frz { cls := .type "list", data := .seq vs.toArray } (.lst (ns.map V.int))) else none) (fun b => ?_) (.inl (.inr ⟨{ cls := .type "list", data := .seq vs.toArray }, if_pos rfl⟩)) (fun b u z => ?_) (fun b z => ?_) fun _ => hk
    · by_cases hb : b = a
      · exact .inr ⟨_, _, if_pos hb⟩
      · exact .inl (if_neg hb)
    · by_cases hb : b = a
      · have z' := (if_pos hb).symm.trans z
        cases z'
        subst hb
        exact ⟨ha, by rw [List.length_map]; exact hl, vs, _, rv, ha⟩
      · have z' := (if_neg hb).symm.trans z
        cases z'
    · by_cases hb : b = a
      · exact hb
      · exact absurd (if_neg hb) z
end L2

namespace L2
open PySem PySem.Spec PyProof.Rows

abbrev KOf {K : PySem.W.Frag} {h : Heap} (_ : K.In h) : PySem.W.Frag := K

/-- the goal that k_head leaves (case hc), from the law's promise. F gives the function object fd (K's own) once, then the promise over every base -/
theorem walk_of {l : PySem.W.OpenLaw} {n k : Nat} {q : Program} {loose : List Str} {XP : (Str → Option Value) → Heap → Prop} {YP : World → Heap → Prop} {d : DefRec} {K : Params → PySem.W.Frag} {CX : World → CXT} {sp : World → Sp} {x : Str}
    (hn : l.most = some n) (hn2 : n ≤ sizeLine) (hdf : d.params.defaults = []) (hr : Room k callerA)
    (hY : ∀ (w : World) (h : Heap), YP w h → (K w.params).In h)
    (F : ∀ (w : World) (mg : Str → Option Value) (fa : Addr) (h : Heap), (K w.params).In h → h.Ns mainGlobals mg → mg d.name = some (.ref fa) →
      ∃ fd : FuncData, (∀ (s : Shared) (u : Value), BindsTo s fd ⟨[u], []⟩ [(x, u)]) ∧
        ∀ base : Heap, (K w.params).In base → base.Ns mainGlobals mg → FnOk l.prog w (K w.params) mg base (CX w) k fa fd [x] (sp w))
    (hsp : ∀ (w : World) (H : Hp) (a : Addr) (ns : List Int), ns.length ≤ n → Only H → SqL (K w.params) H a (ns.map V.int) → sp w [.ref a] H (fun v _ => v = .bl true) fun _ _ _ => False)
    (hCX : ∀ (w : World) (H : Hp) (s : Shared) (e : Value) (s' : Shared), CX w [] H s (fun _ _ _ => False) e s' → False) :
    PySem.W.WalkO q loose XP YP l.row.toRowW d [] (fun f vs => PySem.call f vs) := by
  refine Att.attach_call hn hdf fun w s₀ s₁ mg mb fa o pm cd doc a vs ns G Y ho hd hcd hmg hobj hints hlen hg => ?_
  have KX := hY w _ Y
  obtain ⟨fd, hb, hF⟩ := F w mg fa _ KX G.T.g hmg
  exact law_call KX G.T.g G.T.b G.T.builtins G.T.nolimit hg hobj hints (Nat.le_trans hlen hn2) hr hF hb (fun H hO hS => hsp w H a ns hlen hO hS) fun H e s' => hCX w H s₁ e s'
end L2

/- THE LAST THEOREM (shape; LID, My.* are yours):
   My.Adr: a structure of the addresses that your layer names (classes, functions); My.Txt K t: a structure (Prop) of the equations over K;
   My.txt_mk : {K} {implicit addresses ..} (e1 : nsIn K mainGlobals "law" = some (some (.ref f))) (e2 : K.lookup f = some ⟨oc, od, .func (fnOf "law" "law" params body scope dV kV doc pm an cdv ct), sl⟩) (e3 : codeIn K cdv "law" = true) .. : ∃ t, My.Txt K t

set_option maxRecDepth 100000 in
set_option maxHeartbeats 0 in
theorem PySem.Challenge.cw_LID_holds : PySem.Challenge.rw_LID.Holds := by
  w_on; o_law; k_head; (case hw => w_witness2)
  k_fill
  refine L2.walk_of (l := PySem.Challenge.rw_LID) (n := 63) (k := 40) (x := "script") (CX := fun w => ..) (sp := fun _ => My.sp_law) rfl (by decide) rfl ⟨rfl, by decide, by decide⟩ (fun w h Y => PySem.W.kIn_of Y) ?F ?S ?C
  case F =>
    intro w mg fa h KX G hmg
    have T : ∃ t, My.Txt (L2.KOf KX) t := by
      dsimp only [L2.KOf]                          -- K must stand as «<heap const> w.params» for k_is
      refine' My.txt_mk ?e1 ?e2 ?e3 ..
      (case e1 => PySem.W.k_is)                    -- in the order: a name -> its address -> its object -> its parts
      (case e2 => PySem.W.k_is)
      ..
    obtain ⟨t, T⟩ := T
    have e0 := hmg.symm.trans (PySem.W.mg_of KX G T.law)
    cases e0                                       -- fa is the law's own address
    exact ⟨_, fun s u => .of_eq rfl, fun base kb nb => My.law_fn T kb nb⟩     -- if «.of_eq rfl» comes too early: refine' ⟨_, ?b, fun base kb nb => My.law_fn T kb nb⟩; exact fun s u => .of_eq rfl
  case S => exact fun w H a ns hl hO hS => ..
  case C => exact ..
(the tactic k_is has no namespace: write k_is) -/

/-! SHORT WORDS over the layer: a def of the text, its body, what a loop and a test want. -/
namespace L2
open PySem PySem.Spec PyProof.Rows

/-! ### the text by places -/
/-- the j-th statement of a class's body -/
def inClass (s : Stmt) (j : Nat) : Stmt := match s with
  | .ClassDef _ _ _ body _ _ _ _ _ _ _ => body.getD j (.Pass ⟨0, 0, 0, 0⟩)
  | _ => .Pass ⟨0, 0, 0, 0⟩
def defArgs (s : Stmt) : Arguments := match s with
  | .FunctionDef _ a _ _ _ _ _ _ _ _ => a
  | _ => { posonlyargs := [], args := [], vararg := none, kwonlyargs := [], kw_defaults := [], kwarg := none, defaults := [] }
def defBody (s : Stmt) : List Stmt := match s with
  | .FunctionDef _ _ b _ _ _ _ _ _ _ => b
  | _ => []
def defScope (s : Stmt) : Scope := match s with
  | .FunctionDef _ _ _ _ _ _ sc _ _ _ => sc
  | _ => { kind := .function, names := [], isGenerator := false, isCoroutine := false }

/-! ### no exception leaves a def -/
abbrev CX0 : CXT := fun _ _ _ _ _ _ => False
abbrev E0 : XK := fun _ _ _ => False
theorem pass0 {X : Cx} : Passes CX0 X E0 := fun _ _ _ _ _ _ _ h => h.elim

/-! ### a def (or method) of the text as it stands behind the top -/
structure Fun (K : PySem.W.Frag) (x qual : Str) (st : Stmt) (f : Addr) (fd : FuncData) : Prop where
  ex : ∃ (oc : Value) (od : Option Addr) (kV doc pm : Value) (an : Option Addr) (cdv ct : Value) (osl : Array (Option Value)),
    fd = PySem.W.fnOf x qual (defArgs st) (defBody st) (defScope st) .none kV doc pm an cdv ct ∧ K.lookup f = some ⟨oc, od, .func fd, osl⟩ ∧ PySem.W.codeIn K cdv qual = true
  kp : PySem.W.keepIn K (.ref f) = true
section
variable {P : Program} {w : World} {K : PySem.W.Frag} {mg : Str → Option Value} {base : Heap}
/-- THE RULE for a def: its body as a term of rules, and the reading of that term -/
theorem Fun.ok {x qual : Str} {st : Stmt} {f : Addr} {fd : FuncData} {N ps : List Str} {k : Nat} {sp : Sp} (F : Fun K x qual st f fd) (S : FnScope N ps (defScope st)) (len : ∀ vs H Q E, sp vs H Q E → vs.length = ps.length)
    (hbody : ∀ (cdv : Value) (A : Around) (outer : List Env) (s : Shared) (H : Hp) (vs : List V) (Q : VK) (E : XK), Room k (A.deeper (envOfC qual (defScope st) s.heap.objs.size f cdv)) → sp vs H Q E →
      ∃ t, PSs (cxOf CX0 P w K mg base N qual (defScope st) f cdv A outer s H E).nox (defBody st) t ∧ t { nx := fun _ H' => Q .non H', rt := Q } (start N vs) H) : FnOk P w K mg base CX0 (k + 1) f fd ps sp := by
  obtain ⟨oc, od, kV, doc, pm, an, cdv, ct, osl, rfl, lk, hcd⟩ := F.ex
  refine fn_of lk hcd S len fun A outer s H vs Q E hr hsp => ?_
  obtain ⟨t, h, q⟩ := hbody cdv A outer s H vs Q E hr hsp
  exact ⟨t, h.nox, q⟩
/-- how its arguments bind (no defaults): h is «fun _ _ _ _ _ _ us hl => match us, hl with | [_, _], _ => rfl», one _ a parameter -/
theorem Fun.binds {x qual : Str} {st : Stmt} {f : Addr} {fd : FuncData} {ps : List Str} (F : Fun K x qual st f fd)
    (h : ∀ (kV doc pm : Value) (an : Option Addr) (cdv ct : Value) (us : List Value), us.length = ps.length → bindArgs (PySem.W.fnOf x qual (defArgs st) (defBody st) (defScope st) .none kV doc pm an cdv ct) ⟨us, []⟩ = pure (ps.zip us)) : Binds K fd ps [] := by
  obtain ⟨oc, od, kV, doc, pm, an, cdv, ct, osl, rfl, lk, hcd⟩ := F.ex
  exact .all (h kV doc pm an cdv ct)
theorem fun_mk {x qual : Str} {st : Stmt} {f : Addr} {oc : Value} {od an : Option Addr} {osl : Array (Option Value)} {kV doc pm cdv ct : Value} (l : K.lookup f = some ⟨oc, od, .func (PySem.W.fnOf x qual (defArgs st) (defBody st) (defScope st) .none kV doc pm an cdv ct), osl⟩)
    (c : PySem.W.codeIn K cdv qual = true) (k : PySem.W.keepIn K (.ref f) = true) : Fun K x qual st f (PySem.W.fnOf x qual (defArgs st) (defBody st) (defScope st) .none kV doc pm an cdv ct) := ⟨⟨oc, od, kV, doc, pm, an, cdv, ct, osl, rfl, l, c⟩, k⟩
end
/-! ### expressions in short: the name that stands in the i-th slot -/
section
variable {X : Cx}
theorem pv (i : Nat) {x : Str} {pos : Pos} (hN : X.N[i]? = some x := by rfl) (hv : Vis X.env.scope x := by first | exact Or.inl rfl | exact Or.inr (Or.inl rfl) | exact Or.inr (Or.inr rfl)) (hd : (x == ("__debug__" : Str)) = false := by decide)
    (hcd : (x == ("__classdict__" : Str)) = false := by decide) : PE X (.Name x pos) (tVar i) := pe_var hN hv hd hcd
end

/-! ### tests -/
theorem iteF {A B : Prop} (h : B) : if false = true then A else B := by
  rw [if_neg Bool.false_ne_true]
  exact h
theorem iteT {A B : Prop} (h : A) : if true = true then A else B := by
  rw [if_pos rfl]
  exact h
theorem ite2 {c A B : Prop} [Decidable c] (h1 : c → A) (h2 : ¬ c → B) : if c then A else B := by
  by_cases h : c
  · rw [if_pos h]
    exact h1 h
  · rw [if_neg h]
    exact h2 h
theorem iteNS {c A B : Prop} [Decidable c] (hc : c) (h : B) : if (!decide c) = true then A else B := by
  rw [decide_eq_true hc]
  exact iteF h

/-! ### heaps -/
/-- all that was tracked is as it was -/
def Same (H H' : Hp) : Prop := ∀ b o, H b = some o → H' b = some o
theorem Same.refl (H : Hp) : Same H H := fun _ _ h => h
theorem Same.trans {H H1 H2 : Hp} (a : Same H H1) (b : Same H1 H2) : Same H H2 := fun c o h => b c o (a c o h)
theorem Same.free {H H' : Hp} (e : Same H H') {l : Addr} (h : H' l = Option.none) : H l = Option.none := by
  cases q : H l with
  | none => rfl
  | some o =>
    rw [e l o q] at h
    cases h
theorem Same.seq {K : PySem.W.Frag} {H H' : Hp} {a : Addr} {xs : List V} (e : Same H H') (h : SqL K H a xs) : SqL K H' a xs := by
  rcases h with (h | ⟨o, h⟩) | h
  · exact .inl (.inl (e _ _ h))
  · exact .inl (.inr ⟨o, e _ _ h⟩)
  · exact .inr h

end L2

set_option maxHeartbeats 4000000
/-! EvExc: refusals of own classes by hand: raise, a callee's refusal that passes, try with one except clause that names, isinstance of a refusal. Over the hand layer (namespace L2), which stands ahead of it. -/
namespace L2
open PySem PySem.Spec PyProof.Rows

theorem ObjOk.there {P : Program} {w : World} {H : Hp} {h : Heap} {a : Addr} {o : HO} (x : ObjOk P w H h a o) : ∃ ob, h.get? a = some ob := by
  cases o with
  | lst xs => obtain ⟨_, _, _, _, e⟩ := x; exact ⟨_, e⟩
  | tup xs => obtain ⟨_, _, _, ob, e, _⟩ := x; exact ⟨ob, e⟩
  | dK kvs => obtain ⟨_, _, _, _, ob, _, _, e, _⟩ := x; exact ⟨_, e⟩
  | dT kvs => obtain ⟨_, _, _, _, ob, _, _, e, _⟩ := x; exact ⟨_, e⟩
  | set S n => obtain ⟨ob, _, _, _, e, _⟩ := x; exact ⟨_, e⟩
  | ins C dx fs => obtain ⟨_, _, _, e, _⟩ := x; exact ⟨_, e⟩
  | own y => exact x
  | xd fs => obtain ⟨_, ⟨_, _, _, e, _⟩, _⟩ := x; exact ⟨_, e⟩
  | rng lo hi => obtain ⟨_, _, _, e⟩ := x; exact ⟨_, e⟩
  | frz ob u => obtain ⟨e, _⟩ := x; exact ⟨_, e⟩
  | tbl ps => exact ⟨_, (show h.get? a = some _ from x)⟩
  | met f y => exact ⟨_, (show h.get? a = some _ from x)⟩
  | ext φ => obtain ⟨_, e, _⟩ := x; exact e

section
variable {X : Cx} {pins : List (Addr × Obj)} {σ : St} {H H' : Hp} {s s' : Shared}
theorem Inv.nopins (I : Inv X pins σ H s) : Inv X [] σ H s := I.pins_of fun p hp => nomatch hp
/-- what was not there at the call was not there at the entry -/
theorem Inv.new0 (I : Inv X pins σ H s) (hex : X.ex = []) {b : Addr} (n : s.heap.get? b = none) : X.s₀.heap.get? b = none := by
  cases q : X.s₀.heap.get? b with
  | none => rfl
  | some o =>
    obtain ⟨o', e⟩ := I.base.there b o q (by rw [hex]; simp)
    rw [n] at e; cases e
theorem Inv.newH (I : Inv X pins σ H s) {b : Addr} (n : s.heap.get? b = none) : H b = none := by
  cases q : H b with
  | none => rfl
  | some o =>
    obtain ⟨ob, e⟩ := (I.hok b o q).there
    rw [n] at e; cases e
/-- the frames' slots and the records at ts may change -/
structure Shift (X : Cx) (ts : List Addr) (h h' : Heap) : Prop where
  stays : (PySem.W.hideAll h (ts ++ frs X.stack)).StaysIn h'
  up : h.UpToSlots h'

theorem Shift.frame {ts : List Addr} {h' : Heap} (S : Shift X ts s.heap h') (I : Inv X pins σ H s) {b : Addr} (hb : b ∈ frs X.stack) {o : Obj} (e : s.heap.get? b = some o) : ∃ sl, h'.get? b = some { o with slots := sl } := by
  obtain ⟨_, o', e', nf⟩ := I.stack.mem hb
  rw [e] at e'; cases e'
  exact S.up b o e nf
theorem Shift.get {ts : List Addr} {h' : Heap} (S : Shift X ts s.heap h') {b : Addr} {o : Obj} (e : s.heap.get? b = some o) (h1 : b ∉ ts) (h2 : b ∉ frs X.stack) : h'.get? b = some o :=
  S.stays b o (PySem.W.hideAll_get _ e fun z => (List.mem_append.mp z).elim h1 h2)
theorem Shift.hok {ts : List Addr} {h' : Heap} (S : Shift X ts s.heap h') (I : Inv X pins σ H s) (hts : ∀ b ∈ ts, H b = none) : HOk X.prog X.w H h' := fun a o e => by
  refine (I.hok a o e).stay (fun b u hb q => S.get q (fun z => ?_) fun z => ?_) (fun _ q => q) fun _ _ q => q
  · have n := hts b z
    rcases hb with rfl | hb
    · rw [e] at n; cases n
    · rw [hb] at n; cases n
  · have n := I.stkFree b z
    rcases hb with rfl | hb
    · rw [e] at n; cases n
    · rw [hb] at n; cases n
/-- what stood at the entry is as a callee may leave it -/
theorem Shift.un {ts : List Addr} {h' : Heap} (S : Shift X ts s.heap h') (I : Inv X pins σ H s) (hts : ∀ b ∈ ts, X.s₀.heap.get? b = none) : Un X.fs X.ex X.H₀ H X.s₀.heap h' := by
  have nts : ∀ b o, X.s₀.heap.get? b = some o → b ∉ ts := fun b o e z => by rw [hts b z] at e; cases e
  have nL : ∀ b o, X.s₀.heap.get? b = some o → b ≠ X.env.locals := fun b o e => Nat.ne_of_lt (Nat.lt_of_lt_of_le (Heap.lt_size e) I.ok.above)
  have nst : ∀ b o, X.s₀.heap.get? b = some o → b ∉ X.fs → b ∉ frs X.stack := fun b o e hb z => (List.mem_cons.mp (I.stkSub b z)).elim (nL b o e) hb
  refine ⟨fun b o e n hb hx => S.get (I.base.keep b o e n hb hx) (nts b o e) (nst b o e hb), fun b o e n hb hx => ?_, fun b o e n hx => I.base.free b o e n hx, fun b o e hx => ?_, I.base.tups, I.base.frzs, I.base.tbls⟩
  · obtain ⟨sl, e1⟩ := I.base.slot b o e n hb hx
    obtain ⟨_, o', e', nf⟩ := I.funs.mem hb
    rw [e1] at e'; cases e'
    obtain ⟨sl2, e2⟩ := S.up b _ e1 nf
    exact ⟨sl2, e2⟩
  · obtain ⟨o', e1⟩ := I.base.there b o e hx
    by_cases z : b ∈ frs X.stack
    · obtain ⟨sl, e2⟩ := S.frame I z e1
      exact ⟨_, e2⟩
    · exact ⟨o', S.get e1 (nts b o e) z⟩
/-- the invariant goes over -/
theorem Shift.inv {ts : List Addr} {h' : Heap} {tk : Nat} (S : Shift X ts s.heap h') (I : Inv X pins σ H s) (hts : ∀ b ∈ ts, X.s₀.heap.get? b = none ∧ H b = none ∧ ∀ p ∈ X.pn ++ pins, p.1 ≠ b) : Inv X pins σ H { s with heap := h', toks := tk } := by
  have cellK : ∀ c v, s.heap.IsCell c v → h'.IsCell c v := fun c v ⟨o, ho, hd⟩ => by
    obtain ⟨sl, e⟩ := S.up c o ho (fun vs q => by rw [hd] at q; cases q)
    exact ⟨_, e, hd⟩
  refine ⟨I.ok, I.os, I.bare, S.un I fun b z => (hts b z).1, ?_, fun x c e => ?_, I.free, I.freeC, fun p hp => ?_, S.hok I fun b z => (hts b z).2.1, I.len⟩
  · obtain ⟨m, hn, hl⟩ := I.loc
    refine ⟨m, S.up.ns hn, fun i x v e1 e2 e3 => ?_⟩
    obtain ⟨u, r, l⟩ := hl i x v e1 e2 e3
    refine ⟨u, r, ?_⟩
    rcases l with l | ⟨k, c, e, z⟩
    · exact .inl l
    · exact .inr ⟨k, c, e, cellK c _ z⟩
  · obtain ⟨v, z⟩ := I.cell x c e
    exact ⟨v, cellK c v z⟩
  · obtain ⟨e, n, ne, nf, d⟩ := I.pin p hp
    exact ⟨S.get e (fun z => (hts p.1 z).2.2 p hp rfl) fun z => (List.mem_cons.mp (I.stkSub p.1 z)).elim ne nf, n, ne, nf, d⟩
theorem fun_hide (I : Inv X pins σ H s) (ts : List Addr) : s.heap.FunFrames (PySem.W.hideAll s.heap (ts ++ frs X.stack)) X.stack :=
  PySem.W.funFrames_hide I.stack fun env he b hb => List.mem_append_right _ (List.mem_filterMap.mpr ⟨env, he, hb⟩)
theorem hide_stays (h : Heap) (l : List Addr) : (PySem.W.hideAll h l).StaysIn h := fun _ _ e => PySem.W.of_hideAll l e
end

section
variable {P : Program} {w : World} {K : PySem.W.Frag} {mg : Str → Option Value} {base : Heap} {N : List Str} {qual : Str} {scope : Scope} {f : Addr} {cd : Value} {A : Around} {outer : List Env} {s : Shared} {H : Hp} {E : XK}
end
/-! ### raise -/
theorem exc_cls_of {K : PySem.W.Frag} {h : Heap} {C : Addr} {bmB : List Value} {newId : String} (X : K.In h) (q : PySem.W.excIn K C bmB newId = true) :
    ∃ bm N nm q bs hdct sn sub ab col dd k0 k1 k2 k3 k5 mN, h.get? C = some (excClassObj nm q C N bs bm hdct sn sub ab col dd k0 k1 k2 k3 k5 newId) ∧ h.Ns N mN ∧ mN "__init__" = none ∧ OwnTail h bmB bm := by
  unfold PySem.W.excIn at q
  split at q
  · rename_i dd cd sl ho
    split at q
    · rename_i C' bm k0 k1 k2 k3 n k5 hm hs
      simp only [Bool.and_eq_true, beq_iff_eq, Bool.not_eq_true'] at q
      obtain ⟨⟨⟨⟨⟨rfl, rfl⟩, hdel⟩, ht⟩, hok⟩, hni⟩ := q
      obtain ⟨nm, bs, mro, ns, qn, hd, sn, sub, ab, col, del⟩ := cd
      dsimp only at hm hdel hok hni
      subst hm hdel
      have hsl : sl = #[k0, k1, k2, k3, some (.builtin n), k5] := by
        obtain ⟨l⟩ := sl
        simp only at hs
        rw [hs]
      subst hsl
      exact ⟨bm, ns, nm, qn, bs, hd, sn, sub, ab, col, dd, k0, k1, k2, k3, k5, _, X _ _ ho, .of_isNs (PySem.W.isNs_of_in X hok), PySem.W.nsMap_none_of_in X hok hni, PySem.W.tail_of_in X ht⟩
    · cases q
  · cases q
abbrev bmVE : List Value := [.type "ValueError", .type "Exception", .type "BaseException", .type "object"]
abbrev newVE : String := "ValueError.__new__"
end L2
/-! EvTry: isinstance of a refusal, except clauses, defs called within an except suite. Behind EvExc. -/
namespace PySem.W
open PySem PySem.Calls PyProof.Rows Builtin Builtin.ObjectAttr Builtin.Getset_descriptor
/-- what is asked of an own class of refusals as the text has made it -/
structure ExcK (K : Frag) (C : Addr) : Prop where
  ex : excIn K C [.type "ValueError", .type "Exception", .type "BaseException", .type "object"] "ValueError.__new__" = true
  ga : findIn K (.ref C) "__getattribute__" = some (some (.builtin "BaseException.__getattribute__"))
  no : findIn K (.ref C) "__getattr__" = some none
  cl : findIn K (.ref C) "__class__" = some (some (.builtin "object.__class__"))
  ob : mroIn K C (.type "object") = some true
  be : mroIn K C (.type "BaseException") = some true
structure ClsK (K : Frag) : Prop where
  gt : specialIn K (.builtin "object.__class__") "__get__" = some (some (.builtin "getset_descriptor.__get__"))
  tk : takesIn K (.builtin "object.__class__") = some true
section
variable {prog : Program} {w : World} {A : Around} {E : Value → Shared → Prop} {s : Shared} {K : Frag} {x C D : Addr} {ox : Obj}
theorem exc_class_get {tp : Value} {R : Result → Shared → Prop} (X : K.In s.heap) (hx : s.heap.get? x = some ox) (hc : ox.cls = .ref C) (hm : mroIn K C (.type "object") = some true)
    (h : R (.ok (.ret (.ref C))) s) : codeAny (model prog w) A (.call (.builtin "getset_descriptor.__get__") ⟨[.builtin "object.__class__", .ref x, tp], []⟩) R s := by
  obtain ⟨hh, g, dr, t, os⟩ := s
  have Q0 : Looks (model prog w) hh (typeOf (.ref x)) (.ref C) := hc ▸ (Looks.ld hx).andThen .now
  have Q1 := looks_mroIn (M := model prog w) X hm
  refine codeAny_call_builtin KF.slot_gs.plain KF.entry_gs (KF.slot_gs.check _ _ _ _ _ _ _ _ KF.type_class (KF.args_gs _ _ _) ?_)
  unfold Builtin.«getset_descriptor.__get__» descrGet
  rw [dga_obj]
  refine wpAny_bind (wpAny_pure ?_)
  unfold descrGetter descrCheckInstance descrNameAndClass isInstance
  simp only [KF.owner_class]
  repeat lk
  refine ⟨Code.quiet_builtin _ (by decide +kernel), codeAny_builtin KF.entry_class ?_⟩
  unfold Builtin.«object.__class__» shownTypeOf
  repeat lk
  exact h
theorem wp_if_neg {α : Type} {M : Model} {A : Around} {c : Prop} [Decidable c] {a b : Sem α} {Q : α → Shared → Prop} {E : Value → Shared → Prop} {s : Shared} (h : ¬ c) (k : wpAny M A b Q E s) : wpAny M A (if c then a else b) Q E s := by
  rw [if_neg h]
  exact k
theorem ga_slot (x n : Value) : slotArgs "__getattribute__" 1 ⟨[x, n], []⟩ = pure (x, [n]) := by kernel_rfl
theorem ga_name (n : Str) (t : Tok) : attrName (.str n t) = pure n := by kernel_rfl
theorem exc_ga_check {M : Model} {nameV : Value} {Q : Unit → Shared → Prop} (hi : Looks M s.heap (isInstance (.ref x) (.type "BaseException")) true) (h : Q () s) : wpAny M A (checkBuiltinCall "BaseException.__getattribute__" ⟨[.ref x, nameV], []⟩) Q E s := by
  have hk : builtinKind "BaseException.__getattribute__" = some .slot := by decide +kernel
  have hsplit : splitId "BaseException.__getattribute__" = some ("BaseException", "__getattribute__") := by decide +kernel
  have ha := PySem.F.args_bexc_ga (.ref x) nameV
  obtain ⟨hh, g, d, t, os⟩ := s
  simp only [checkBuiltinCall, hk, hsplit]
  refine wpAny_bind (hi.at ?_)
  repeat (any_goals (first | assumption | wp_step))
theorem exc_ga_call {nameV : Value} {R : Result → Shared → Prop} (hi : Looks (model prog w) s.heap (isInstance (.ref x) (.type "BaseException")) true)
    (h : wpAny (model prog w) A.in1 (Builtin.«object.__getattribute__» ⟨[.ref x, nameV], []⟩) (fun fin s' => match fin with | .done (.ret v) => R (.ok (.ret v)) s' | _ => False) (fun e s' => R (.error e) s') s) :
    codeAny (model prog w) A (.call (.builtin "BaseException.__getattribute__") ⟨[.ref x, nameV], []⟩) R s :=
  codeAny_call_builtin PySem.F.attr_ValueError.ga.plain PySem.F.entry_bexc_ga (exc_ga_check hi (wpAny_mono h (fun fin s' z => by rcases fin with (_ | _ | _ | _) | _ <;> first | exact z | exact z.elim) fun _ _ z => z))
set_option maxHeartbeats 400000 in
theorem exc_ca {Q : Option Value → Shared → Prop} (T : ExcK K C) (G : ClsK K) (X : K.In s.heap) (hx : s.heap.get? x = some ox) (hc : ox.cls = .ref C) (h : Q (some (.ref C)) { s with toks := s.toks + 1 }) :
    wpAny (model prog w) A (getAttr? (.ref x) "__class__") Q E s := by
  obtain ⟨hh, g, d, t, os⟩ := s
  have Q0 : Looks (model prog w) hh (typeOf (.ref x)) (.ref C) := hc ▸ (Looks.ld hx).andThen .now
  have Q1 := looks_findIn (M := model prog w) X T.ga
  have Q2 := looks_findIn (M := model prog w) X T.no
  have Q3 := looks_findIn (M := model prog w) X T.cl
  have Q4 := looks_takesIn (M := model prog w) X G.tk
  have Q5 : Looks (model prog w) hh (getOf (some (.builtin "object.__class__"))) (some (.builtin "getset_descriptor.__get__")) := looks_specialIn (M := model prog w) X G.gt
  have Q6 : Looks (model prog w) hh (find (.ref x) (.ref C) "__class__") (.bind (.builtin "getset_descriptor.__get__") (.builtin "object.__class__")) :=
    Q3.andThen (Q5.andThen ((show Looks (model prog w) hh (dataDescriptor? (some (.builtin "object.__class__")) (some (.builtin "getset_descriptor.__get__"))) (some (.builtin "getset_descriptor.__get__", .builtin "object.__class__")) from Q4.andThen .now).andThen (Looks.tag .now)))
  have Q7 : Looks (model prog w) hh (isInstance (.ref x) (.type "BaseException")) true := Q0.andThen (looks_mroIn X T.be)
  have hx2 : (Value.builtin "BaseException.__getattribute__" == Value.builtin "object.__getattribute__") = false := by decide +kernel
  have hx1 : ¬ ((onTheHeap (Value.ref C) && Value.builtin "BaseException.__getattribute__" == Value.builtin "object.__getattribute__") = true) := by rw [hx2, Bool.and_false]; exact Bool.false_ne_true
  unfold getAttr? getAttrBy? getAttrBy
  refine wpAny_bind (wpAny_mkText (wpAny_bind (wpAny_attempt (wpAny_holding (wpAny_bind (Q0.at (wpAny_bind (Q1.at ?_))))))))
  refine wp_if_neg hx1 ?_
  unfold getAttrByItsOwn
  refine wpAny_bind ?_
  show wpAny _ _ (typeLookup (.ref C) "__getattr__") _ _ _
  refine Q2.at ?_
  refine wpAny_bind (wpAny_attempt (wpAny_holding ?_))
  show wpAny _ _ (boundAndCalled (.builtin "BaseException.__getattribute__") (.ref x) _) _ _ _
  unfold boundAndCalled
  refine wpAny_bind (wpAny_of_eq (PySem.F.attr_ValueError.ga.bind _) ?_)
  refine wpAny_call (exc_ga_call Q7 ?_)
  unfold Builtin.«object.__getattribute__»
  refine wpAny_bind (wpAny_of_eq (ga_slot _ _) ?_)
  refine wpAny_bind (wpAny_of_eq (ga_name _ _) ?_)
  refine wpAny_bind (Q0.at (wpAny_bind (Q6.at ?_)))
  show wpAny _ _ (bindTo (.builtin "getset_descriptor.__get__") (.builtin "object.__class__") (.ref x) (.ref C)) _ _ _
  unfold bindTo
  refine wpAny_bind (wpAny_holding (wpAny_call (exc_class_get X hx hc T.ob ?_)))
  refine wpAny_pure ?_
  exact handed_on rfl (wpAny_pure h)
theorem kitx_exc (T : ExcK K C) (G : ClsK K) : KitX K (.ref x) (.ref C) (fun h => ∃ o, h.get? x = some o ∧ o.cls = .ref C) where
  ty := fun _ _ _ ⟨_, hx, hc⟩ => hc ▸ (Looks.ld hx).andThen .now
  it := fun _ _ X _ => by
    obtain ⟨tl, N, nm, q, bs, hdct, sn, sub, ab, col, dd, k0, k1, k2, k3, k5, mN, hC, _⟩ := L2.exc_cls_of X T.ex
    intro A' Q' E' s' k q
    unfold isType loadHead
    exact wpAny_bind (wpAny_loadPart (k _ _ hC) (wpAny_pure q))
  ne := fun h tp dd its n sl X htp => by
    obtain ⟨tl, N, nm, q, bs, hdct, sn, sub, ab, col, dd, k0, k1, k2, k3, k5, mN, hC, _⟩ := L2.exc_cls_of X T.ex
    refine Bool.eq_false_iff.mpr fun q => ?_
    have e : C = tp := Value.ref.inj (beq_iff_eq.mp q)
    subst e
    exact absurd (Value.type.inj (congrArg Obj.cls (Option.some.inj (hC.symm.trans htp)))) (by decide)
  ca := fun X ⟨_, hx, hc⟩ k => exc_ca T G X hx hc k
theorem exc_matches {M : Model} {Q : Bool → Shared → Prop} (X : K.In s.heap) (hx : s.heap.get? x = some ox) (hc : ox.cls = .ref C) (T : ExcK K D) (m : mroIn K C (.ref D) = some true) (h : Q true s) :
    wpAny M A (excMatches (.ref x) (.ref D)) Q E s := by
  obtain ⟨hh, g, d, tk, os⟩ := s
  obtain ⟨tl, N, nm, q', bs, hdct, sn, sub, ab, col, dd, k0, k1, k2, k3, k5, mN, hD, _⟩ := L2.exc_cls_of X T.ex
  have Q1 := looks_mroIn (M := M) X m
  have Q2 := looks_mroIn (M := M) X T.be
  have f := tc_notTuple
  unfold excMatches
  repeat (first | (with_reducible refine wpAny_loadPart_at hx ?_; rw [hc]) | with_reducible refine wpAny_loadPart_at hD ?_ | with_reducible refine Q1.at ?_ | with_reducible refine Q2.at ?_ | wp_step)
  exact h
end
end PySem.W

namespace L2
open PySem PySem.Spec PyProof.Rows
/-! ### isinstance by values -/
/-- isinstance(x, c), c one class -/
theorem call_isinst {X : Cx} : CallR X (.builtin "isinstance") (fun xs H Q => ∃ x c t b, xs = [x, c] ∧ TyOf X.K H x t ∧ (∀ u, RelV c u → PySem.W.kitOne X.K t u = some b) ∧ Q (.bl b) H) := by
  intro pins s σ H xs us Q I r h
  obtain ⟨x, c, t, b, rfl, ty, k, q⟩ := h
  obtain ⟨u, w', rfl, r1, r2⟩ := vals2 r
  exact isinst_ok I r1 ty (k _ r2) fun tk => ⟨.bl b, H, I.tok tk, rfl, q⟩
/-! ### try, one clause with a name -/
abbrev Cx.inH (X : Cx) (a : Addr) : Cx := { X with A := X.A.mark (some (.ref a)), calm := false, xe := fun _ _ => False }
abbrev Cx.pinned (X : Cx) (pn : List (Addr × Obj)) : Cx := { X with pn := pn }
section
variable {X : Cx} {pins : List (Addr × Obj)} {σ : St} {H : Hp} {s : Shared}
theorem Inv.inH (I : Inv X pins σ H s) (a : Addr) : Inv (X.inH a) pins σ H s :=
  ⟨⟨I.ok.mod, I.ok.kind, I.ok.glob, I.ok.blt, I.ok.above, I.ok.inj, I.ok.has, I.ok.cab, (fun h => nomatch h), I.ok.frames, I.ok.stk, I.ok.exf, I.ok.bs, I.ok.bsz, I.ok.noex, I.ok.exfs, I.ok.funs, I.ok.frf⟩, I.os, I.bare, I.base, I.loc, I.cell, I.free, I.freeC, I.pin, I.hok, I.len⟩
theorem Inv.ofH {a : Addr} (ok : X.Ok) (I : Inv (X.inH a) pins σ H s) : Inv X pins σ H s := ⟨ok, I.os, I.bare, I.base, I.loc, I.cell, I.free, I.freeC, I.pin, I.hok, I.len⟩
theorem Inv.toPn (I : Inv X pins σ H s) : Inv (X.pinned (X.pn ++ pins)) [] σ H s :=
  ⟨⟨I.ok.mod, I.ok.kind, I.ok.glob, I.ok.blt, I.ok.above, I.ok.inj, I.ok.has, I.ok.cab, I.ok.hd, I.ok.frames, I.ok.stk, I.ok.exf, I.ok.bs, I.ok.bsz, I.ok.noex, I.ok.exfs, I.ok.funs, I.ok.frf⟩, I.os, I.bare, I.base, I.loc, I.cell, I.free, I.freeC, fun p hp => I.pin p (by simpa using hp), I.hok, I.len⟩
theorem Inv.ofPn (ok : X.Ok) (I : Inv (X.pinned (X.pn ++ pins)) [] σ H s) : Inv X pins σ H s :=
  ⟨ok, I.os, I.bare, I.base, I.loc, I.cell, I.free, I.freeC, fun p hp => I.pin p (by simpa using hp), I.hok, I.len⟩
/-- an object that was not tracked is -/
theorem Inv.track {a : Addr} {o : HO} (I : Inv X pins σ H s) (hn : H a = none) (h0 : X.s₀.heap.get? a = none) (hL : a ≠ X.env.locals) (hc : ∀ x c, X.env.cells.lookup x = some c → c ≠ a) (hp : ∀ p ∈ X.pn ++ pins, p.1 ≠ a)
    (new : ObjOk X.prog X.w (upd H a o) s.heap a o) : Inv X pins σ (upd H a o) s := by
  have ne : ∀ b u, H b = some u → b ≠ a := fun b u e => ne_of_none e hn
  refine ⟨I.ok, I.os, I.bare, ⟨I.base.keep, I.base.slot, fun b ob e n hx => ?_, I.base.there, fun b xs e => ?_, fun b ob u e => ?_, fun b ps e => ?_⟩, I.loc, I.cell, ?_, fun x c e => ?_, fun p hp' => ?_, fun b u e => ?_, I.len⟩
  · rw [upd_ne (fun z => by rw [z, h0] at e; cases e)]
    exact I.base.free b ob e n hx
  · have q := I.base.tups b xs e
    rw [upd_ne (ne b _ q)]; exact q
  · have q := I.base.frzs b ob u e
    rw [upd_ne (ne b _ q)]; exact q
  · obtain ⟨m, q⟩ := I.base.tbls b ps e
    exact ⟨m, by rw [upd_ne (ne b _ q)]; exact q⟩
  · rw [upd_ne (Ne.symm hL)]; exact I.free
  · rw [upd_ne (hc x c e)]; exact I.freeC x c e
  · obtain ⟨e, n, r⟩ := I.pin p hp'
    exact ⟨e, by rw [upd_ne (hp p hp')]; exact n, r⟩
  · by_cases hb : b = a
    · subst hb; rw [upd_same] at e; cases e; exact new
    · rw [upd_ne hb] at e
      exact (I.hok b u e).stay (fun _ _ _ q => q) (fun c q => by rw [upd_ne (ne c _ q)]; exact q) fun c xs q => by rw [upd_ne (ne c _ q)]; exact q
end
/-! ### a def that is called within an except suite -/
end L2

namespace L2
open PySem PySem.Spec PyProof.Rows
theorem Inv.big {X : Cx} {pins : List (Addr × Obj)} {σ : St} {H : Hp} {s : Shared} (I : Inv X pins σ H s) : sysModules < s.heap.objs.size := by
  have h : mainGlobals < s.heap.objs.size := (I.mod.glob.keeps I.bk).lt
  exact Nat.lt_trans (by decide) h
theorem dk_empty {P : Program} {w : World} {H : Hp} (h : Heap) (hb : sysModules < h.objs.size) : ObjOk P w H (h.push { cls := .type "dict", data := .dict #[] }) h.objs.size (.dK []) :=
  ⟨Nat.zero_le _, beq_eq_false_iff_ne.mpr (Ne.symm (Nat.ne_of_lt hb)), [], .nil, Heap.DictOf.new h⟩
/-- {}, to be a dict of the kind that is wanted -/
def tDNewK : TE := fun _ H Q => ∀ p, H p = none → Q (.ref p) (upd H p (.dK []))
theorem pe_dnewK {X : Cx} {pos : Pos} : PE X (.Dict [] [] pos) tDNewK := fun pins s σ H Q I h =>
  wpAny_Dict_empty ⟨.ref s.heap.objs.size, _, I.laid (a := s.heap.objs.size) (o := .dK []) (t' := s.toks) (fun _ _ q => Heap.get?_push_of_some _ q) (Nat.le_refl _) (dk_empty s.heap I.big), rfl, h _ (I.hok.fresh (Nat.le_refl _))⟩
end L2
/-! EvStr: f-strings with ints, a while whose test need not be monotone. Behind EvTry. -/
namespace L2
open PySem PySem.Spec PyProof.Rows
/-! ### while -/
/-! ### tests that are known -/
theorem ifT {c A B : Prop} [Decidable c] (h : c) (k : A) : if decide c = true then A else B := by
  rw [if_pos (decide_eq_true h)]
  exact k
theorem ifF {c A B : Prop} [Decidable c] (h : ¬ c) (k : B) : if decide c = true then A else B := by
  rw [if_neg (fun z => h (of_decide_eq_true z))]
  exact k
theorem blT {Q : VK} {H : Hp} {c : Prop} [Decidable c] (h : c) (k : Q (.bl true) H) : Q (.bl (decide c)) H := by
  rw [decide_eq_true h]
  exact k
theorem blF {Q : VK} {H : Hp} {c : Prop} [Decidable c] (h : ¬ c) (k : Q (.bl false) H) : Q (.bl (decide c)) H := by
  rw [decide_eq_false h]
  exact k
/-! ### f-strings -/
abbrev TF := Str → St → Hp → (Str → Hp → Prop) → Prop
def PF (X : Cx) (es : List Expr) (t : TF) : Prop := ∀ (pins : List (Addr × Obj)) (s : Shared) (σ : St) (H : Hp) (out : Str) (Q : VK), Inv X pins σ H s → t out σ H (fun z H1 => z.length ≤ sizeLine ∧ Q (.str z) H1) →
  wpAny (model X.prog X.w) X.A (joinParts out (evalEach es X.env)) (EP X pins σ Q) X.xe s
theorem pf_nil {X : Cx} : PF X [] (fun out _ H Q => Q out H) := fun pins s σ H out Q I h =>
  joinParts_nil (show EP X pins σ Q _ _ from ⟨.str out, H, I.tok _, ⟨_, rfl⟩, h.2⟩) h.1
theorem pf_cons {X : Cx} {e : Expr} {es : List Expr} {te : TE} {tr : TF} (he : PE X e te) (hr : PF X es tr) :
    PF X (e :: es) (fun out σ H Q => te σ H fun v H1 => ∃ y, v = .str y ∧ (out ++ y).length ≤ sizeLine ∧ tr (out ++ y) σ H1 Q) := fun pins s σ H out Q I h => by
  show wpAny _ _ (joinParts out (eval e X.env :: evalEach es X.env)) _ _ _
  refine joinParts_cons (wpAny_mono (he pins s σ H _ I h) (fun u s1 q => ?_) fun _ _ z => z)
  obtain ⟨v, H1, I1, r, y, rfl, hz, q⟩ := q
  obtain ⟨t, rfl⟩ := r
  exact ⟨hz, hr pins s1 σ H1 _ Q I1 q⟩
theorem pe_fstr {X : Cx} {e1 e2 : Expr} {es : List Expr} {pos : Pos} {t : TF} (h : PF X (e1 :: e2 :: es) t) : PE X (.JoinedStr (e1 :: e2 :: es) pos) (fun σ H Q => t Str.empty σ H fun z H1 => z.length ≤ sizeLine ∧ Q (.str z) H1) :=
  fun pins s σ H Q I hw => JoinedStr_many (h pins s σ H Str.empty Q I hw)
end L2
/-! EvComp: a list comprehension with one for and at most one if, by hand. Behind EvStr. -/
namespace L2
open PySem PySem.Spec PyProof.Rows
/-! ### the closure -/
theorem cellOf_some {env : Env} {x : Str} {c : Addr} (h : env.cells.lookup x = some c) : cellOf env x = pure c := by
  unfold cellOf
  rw [h]
theorem closure_go {env : Env} : ∀ (names : List (Str × NameKind)) (cs : List (Str × Addr)), (∀ x, (x, NameKind.free) ∈ names → ∃ c, env.cells.lookup x = some c) →
    (∀ x c, cs.lookup x = some c → env.cells.lookup x = some c) →
    ∃ cl : List (Str × Addr), (forIn names cs fun (y : Str × NameKind) (r : List (Str × Addr)) => if (y.2 == .free) = true then (do let c ← cellOf env y.1; pure (ForInStep.yield ((y.1, c) :: r)) : Sem _) else pure (ForInStep.yield r)) = pure cl ∧
      (∀ x c, cl.lookup x = some c → env.cells.lookup x = some c) ∧ (∀ x, ((x, NameKind.free) ∈ names ∨ ∃ c, cs.lookup x = some c) → ∃ c, cl.lookup x = some c)
  | [], cs, _, h2 => ⟨cs, rfl, h2, fun x hx => hx.elim (fun z => nomatch z) id⟩
  | (y, k) :: names, cs, h1, h2 => by
    by_cases hk : k = .free
    · subst hk
      obtain ⟨c, hc⟩ := h1 y (List.mem_cons_self ..)
      obtain ⟨cl, e, a, b⟩ := closure_go names ((y, c) :: cs) (fun x hx => h1 x (List.mem_cons_of_mem _ hx)) (fun x c' hx => by
        rw [List.lookup_cons] at hx
        split at hx
        · rename_i hb
          have hb' : x = y := by simpa using hb
          cases hx
          rw [hb']
          exact hc
        · exact h2 x c' hx)
      refine ⟨cl, ?_, a, fun x hx => b x ?_⟩
      · rw [List.forIn_cons]
        simp only [beq_self_eq_true, if_true, cellOf_some hc]
        exact e
      · rcases hx with hx | ⟨c', hx⟩
        · rcases List.mem_cons.mp hx with z | z
          · cases z
            exact .inr ⟨c, by simp⟩
          · exact .inl z
        · by_cases hb : (x == y) = true
          · exact .inr ⟨c, by rw [List.lookup_cons, hb]⟩
          · exact .inr ⟨c', by rw [List.lookup_cons, Bool.not_eq_true _ |>.mp hb]; exact hx⟩
    · obtain ⟨cl, e, a, b⟩ := closure_go names cs (fun x hx => h1 x (List.mem_cons_of_mem _ hx)) h2
      have hb : (k == NameKind.free) = false := by simpa using hk
      refine ⟨cl, ?_, a, fun x hx => b x ?_⟩
      · rw [List.forIn_cons]
        simp only [hb, Bool.false_eq_true, if_false]
        exact e
      · rcases hx with hx | hx
        · rcases List.mem_cons.mp hx with z | z
          · cases z
            exact absurd rfl hk
          · exact .inl z
        · exact .inr hx
theorem closure_of {scope : Scope} {env : Env} (h : ∀ x, (x, NameKind.free) ∈ scope.names → ∃ c, env.cells.lookup x = some c) :
    ∃ cl, closureFor scope env = pure cl ∧ (∀ x c, cl.lookup x = some c → env.cells.lookup x = some c) ∧ ∀ x, (x, NameKind.free) ∈ scope.names → ∃ c, cl.lookup x = some c := by
  obtain ⟨cl, e, a, b⟩ := closure_go scope.names [] h (fun x c hx => nomatch hx)
  refine ⟨cl, ?_, a, fun x hx => b x (.inl hx)⟩
  refine Eq.trans (b := (forIn scope.names [] fun (y : Str × NameKind) (r : List (Str × Addr)) => if (y.2 == .free) = true then (do let c ← cellOf env y.1; pure (ForInStep.yield ((y.1, c) :: r)) : Sem _) else pure (ForInStep.yield r)) >>= fun r => pure r) rfl ?_
  rw [e]
  rfl
/-! ### the loop -/
section
variable {prog : Program} {w : World} {A : Around} {R : Result → Shared → Prop} {s : Shared}
theorem compLoop_anyX {elt target iter : Expr} {ifs : List Expr} {scope : Scope} {pos : Pos} {it acc : Value} {env : Env} (I : Nat → Shared → Prop)
    (turn : ∀ n s, I n s → wpAny (model prog w) A (pyNext it) (fun r s1 => match r with
      | none => R (.ok .next) s1
      | some v => wpAny (model prog w) A (letOwnedTupleGo target it v) (fun _ s1' => wpAny (model prog w) A (assign target env v) (fun _ s2 =>
          wpAny (model prog w) A (forIn ifs true fun c r => if r = true then do let ok ← isTrue c env (eval c env); pure (ForInStep.yield ok) else pure (ForInStep.yield r)) (fun ok s3 =>
            if ok = true then wpAny (model prog w) A (eval elt env) (fun x s4 =>
              wpAny (model prog w) A (call (.builtin "list.append") [acc, x]) (fun _ s5 => ∃ m, m < n ∧ I m s5) (fun _ _ => False) s4) (notedBy (model prog w) A env fun x s' => R (.error x) s') s3
            else ∃ m, m < n ∧ I m s3) (fun _ _ => False) s2) (fun _ _ => False) s1') (fun _ _ => False) s1) (fun _ _ => False) s)
    (n : Nat) (h : I n s) : codeAny (model prog w) A (.compLoop (.ListComp elt [⟨target, iter, ifs, 0⟩] scope pos) 0 it acc env) R s := by
  refine codeAny_loop rfl I (fun n s hI => ?_) n h
  show wpAny _ A ((compTurn (.ListComp elt [⟨target, iter, ifs, 0⟩] scope pos) 0 it acc env).onRaise (fun x => do noteFrame x env; theTreesLotGoes x)) _ _ s
  refine wpAny_noted ?_
  rw [compTurn_list]
  refine wpAny_bind (wpAny_standAt (wpAny_bind (wpAny_mono (turn n s hI) (fun r s1 h1 => ?_) fun _ _ h' => h'.elim)))
  cases r with
  | none => exact wpAny_pure h1
  | some v =>
    refine wpAny_bind (wpAny_mono h1 (fun _ s1' h1' => ?_) fun _ _ h' => h'.elim)
    refine wpAny_bind (wpAny_mono h1' (fun _ s2 h2 => wpAny_bind (wpAny_mono h2 (fun ok s3 h3 => ?_) fun _ _ h' => h'.elim)) fun _ _ h' => h'.elim)
    cases ok with
    | false => exact wpAny_pure ⟨rfl, h3⟩
    | true =>
      exact wpAny_bind (wpAny_bind (wpAny_mono h3 (fun x s4 h4 => wpAny_bind (wpAny_mono h4 (fun _ s5 h5 => wpAny_pure (wpAny_pure ⟨rfl, h5⟩)) fun _ _ h' => h'.elim)) fun _ _ h' => h'))
end
/-! ### the block's context -/
def cxC (X : Cx) (s : Shared) (H : Hp) (scope : Scope) (cl : List (Str × Addr)) (C : Addr) (N : List Str) (fp : List Addr) : Cx where
  prog := X.prog
  w := X.w
  K := X.K
  mg := X.mg
  base := X.base
  A := X.A
  N := N
  s₀ := s
  H₀ := H
  env := compEnvC scope cl C X.env
  outer := X.stack
  stack := X.stack
  ex := fp
  fn := fun x => scope.names.lookup x == some NameKind.cell
  calm := X.calm
  pn := []
  xe := fun _ _ => False
/-- slot i of the block is the outer slot, or the block's own -/
def seen (σ : St) (src : List (Option Nat)) : St := src.map fun o => match o with | some j => (σ[j]?).join | none => none
structure CompScope (X : Cx) (scope : Scope) (N : List Str) (src : List (Option Nat)) : Prop where
  kind : scope.kind = .function
  cells : ∀ y ∈ scope.names, y.2 = .cell → scope.names.lookup y.1 = some .cell
  own : ∀ y ∈ scope.names, y.2 = .local → scope.names.lookup y.1 = some .local
  has : ∀ x, (x, NameKind.free) ∈ scope.names → X.env.kindOf x = some .cell ∨ X.env.kindOf x = some .free
  len : src.length = N.length
  src : ∀ (i j : Nat) (x : Str), src[i]? = some (some j) → N[i]? = some x → X.N[j]? = some x ∧ (x, NameKind.free) ∈ scope.names ∧ scope.names.lookup x = some .free
theorem lookup_relabel_free {env : Env} : ∀ {names : List (Str × NameKind)} {x : Str}, names.lookup x = some .free →
    (names.map fun (n, k) => if (k == NameKind.free && env.scope.kind == .function && env.kindOf n == some .cell) then (n, NameKind.cell) else (n, k)).lookup x = some .cell ∨
    (names.map fun (n, k) => if (k == NameKind.free && env.scope.kind == .function && env.kindOf n == some .cell) then (n, NameKind.cell) else (n, k)).lookup x = some .free
  | [], _, h => by simp at h
  | (n, k) :: r, x, h => by
    have ih := @lookup_relabel_free env r x
    show List.lookup x ((if (k == NameKind.free && env.scope.kind == .function && env.kindOf n == some .cell) = true then (n, NameKind.cell) else (n, k)) :: _) = _ ∨ List.lookup x ((if (k == NameKind.free && env.scope.kind == .function && env.kindOf n == some .cell) = true then (n, NameKind.cell) else (n, k)) :: _) = _
    cases hx : x == n with
    | true =>
      simp only [List.lookup_cons, hx] at h
      cases h
      by_cases hc : (NameKind.free == NameKind.free && env.scope.kind == .function && env.kindOf n == some .cell) = true
      · rw [if_pos hc]; left; simp only [List.lookup_cons, hx]
      · rw [if_neg hc]; right; simp only [List.lookup_cons, hx]
    | false =>
      simp only [List.lookup_cons, hx] at h
      by_cases hc : (k == NameKind.free && env.scope.kind == .function && env.kindOf n == some .cell) = true
      · rw [if_pos hc]; simp only [List.lookup_cons, hx]; exact ih h
      · rw [if_neg hc]; simp only [List.lookup_cons, hx]; exact ih h
/-- a cell or a free name of the block was free in it -/
theorem relabel_cell {env : Env} : ∀ {names : List (Str × NameKind)} {x : Str},
    ((names.map fun (n, k) => if (k == NameKind.free && env.scope.kind == .function && env.kindOf n == some .cell) then (n, NameKind.cell) else (n, k)).lookup x = some .cell ∨
    (names.map fun (n, k) => if (k == NameKind.free && env.scope.kind == .function && env.kindOf n == some .cell) then (n, NameKind.cell) else (n, k)).lookup x = some .free) → (x, NameKind.free) ∈ names ∨ (x, NameKind.cell) ∈ names
  | [], _, h => by simp at h
  | (n, k) :: r, x, h => by
    have ih := @relabel_cell env r x
    change List.lookup x ((if (k == NameKind.free && env.scope.kind == .function && env.kindOf n == some .cell) = true then (n, NameKind.cell) else (n, k)) :: _) = _ ∨ List.lookup x ((if (k == NameKind.free && env.scope.kind == .function && env.kindOf n == some .cell) = true then (n, NameKind.cell) else (n, k)) :: _) = _ at h
    cases hx : x == n with
    | true =>
      have e : x = n := by simpa using hx
      by_cases hc : (k == NameKind.free && env.scope.kind == .function && env.kindOf n == some .cell) = true
      · have hk : k = .free := by
          simp only [Bool.and_eq_true, beq_iff_eq] at hc
          exact hc.1.1
        rw [e, hk]; exact .inl (List.mem_cons_self ..)
      · rw [if_neg hc] at h
        simp only [List.lookup_cons, hx, Option.some.injEq] at h
        rcases h with h | h
        · rw [e, h]; exact .inr (List.mem_cons_self ..)
        · rw [e, h]; exact .inl (List.mem_cons_self ..)
    | false =>
      by_cases hc : (k == NameKind.free && env.scope.kind == .function && env.kindOf n == some .cell) = true
      · rw [if_pos hc] at h; simp only [List.lookup_cons, hx] at h; exact (ih h).imp (List.mem_cons_of_mem _) (List.mem_cons_of_mem _)
      · rw [if_neg hc] at h; simp only [List.lookup_cons, hx] at h; exact (ih h).imp (List.mem_cons_of_mem _) (List.mem_cons_of_mem _)
def Weak (σ σ2 : St) : Prop := σ2.length = σ.length ∧ ∀ (i : Nat) (v : V), σ[i]? = some (some v) → σ2[i]? = some (some v)
theorem Weak.refl (σ : St) : Weak σ σ := ⟨rfl, fun _ _ h => h⟩
theorem Weak.set {σ : St} {i : Nat} {o : Option V} (h : ∀ v, σ[i]? ≠ some (some v)) : Weak σ (σ.set i o) := ⟨by simp, fun j v e => by
  have : i ≠ j := fun z => h v (z ▸ e)
  rw [List.getElem?_set_ne this]
  exact e⟩
/-- the tests -/
def PIf (X : Cx) (ifs : List Expr) (t : TT) : Prop := ∀ (pins : List (Addr × Obj)) (s : Shared) (σ : St) (H : Hp) (Q : Bool → Hp → Prop), Inv X pins σ H s → t σ H Q →
  wpAny (model X.prog X.w) X.A (forIn ifs true fun c r => if r = true then do let ok ← isTrue c X.env (eval c X.env); pure (ForInStep.yield ok) else pure (ForInStep.yield r)) (TP X pins σ Q) X.xe s
def tYes : TT := fun _ H Q => Q true H
theorem pif_nil {X : Cx} : PIf X [] tYes := fun _ _ _ H _ I h => wpAny_tests_nil ⟨H, I, h⟩
def tComp (src : List (Option Nat)) (wi : TI) (g : TG) (tc : TT) (te : TE) : TE := fun σ H Q => wi σ H fun J H1 => ∃ W : Nat → Nat → List V → Hp → Prop, (∃ m, W 0 m [] H1) ∧ ∀ i m ys H2, W i m ys H2 →
  (J.stop i H2 ∧ ys.length ≤ sizeLine ∧ ∀ p, H2 p = none → Q (.ref p) (upd H2 p (.lst ys))) ∨
  (J.go i H2 ∧ ∀ x H3, J.yld i H2 x H3 → g x (seen σ src) H3 fun σ2 H4 => Weak (seen σ src) σ2 ∧ tc σ2 H4 fun b H5 =>
    if b = true then te σ2 H5 fun y H6 => ys.length < sizeLine ∧ ∃ m', m' < m ∧ W (i + 1) m' (ys ++ [y]) H6 else ∃ m', m' < m ∧ W (i + 1) m' ys H5)
theorem cellsFrom_app : ∀ (names : List (Str × NameKind)) (n : Nat) (acc : List (Str × Addr)), cellsFrom n names acc = cellsFrom n names [] ++ acc
  | [], _, acc => rfl
  | (x, k) :: r, n, acc => by
    unfold cellsFrom
    split
    · rw [cellsFrom_app r (n + 1) ((x, n) :: acc), cellsFrom_app r (n + 1) [(x, n)], List.append_assoc]
      rfl
    · exact cellsFrom_app r n acc
theorem cellsFrom_mem : ∀ (names : List (Str × NameKind)) (n : Nat) (acc : List (Str × Addr)) (x : Str) (c : Addr), (x, c) ∈ cellsFrom n names acc → (x, c) ∈ acc ∨ (x, NameKind.cell) ∈ names
  | [], _, _, _, _, h => .inl h
  | (y, k) :: r, n, acc, x, c, h => by
    unfold cellsFrom at h
    split at h
    · rename_i hk
      have hk' : k = .cell := by simpa using hk
      rcases cellsFrom_mem r _ _ x c h with z | z
      · rcases List.mem_cons.mp z with z | z
        · cases z
          exact .inr (hk' ▸ List.mem_cons_self ..)
        · exact .inl z
      · exact .inr (List.mem_cons_of_mem _ z)
    · rcases cellsFrom_mem r _ _ x c h with z | z
      · exact .inl z
      · exact .inr (List.mem_cons_of_mem _ z)
theorem new_around {M : Model} {A : Around} {E : Value → Shared → Prop} {s : Shared} {scope : Scope} {globals : Addr} {cl : List (Str × Addr)} {qual : Str} {env : Env} {Q : Env → Shared → Prop}
    (h : ∀ h', h'.Ns s.heap.objs.size (fun _ => none) → (∀ b o, s.heap.get? b = some o → h'.get? b = some o) → CellsOk h' (s.heap.objs.size + 1) (cellsFrom (s.heap.objs.size + 1) scope.names []) →
      Q { scope, locals := s.heap.objs.size, globals, cells := cellsFrom (s.heap.objs.size + 1) scope.names [] ++ cl, qual, func := none, code := env.code, frame := env.frame, builtins := env.builtins } { s with heap := h' }) :
    wpAny M A (newFunctionEnv scope globals cl [] qual none .none (some env)) Q E s := by
  simp only [newFunctionEnv, Option.isSome_some, if_true]
  refine wpAny_bind (wpAny_alloc ?_)
  refine wpAny_bind (wpAny_layCells _ (fun name kind cells => by cases hkc : kind == NameKind.cell <;> simp [hkc]) _ _ _ _ ?_)
  have ok := cellsFrom_ok scope.names (s.heap.push { cls := .type "dict", data := .dict #[] }) (s.heap.objs.size + 1) [] ⟨fun _ _ hm => (nomatch hm), List.Pairwise.nil⟩ (by rw [Heap.size_push]; exact Nat.le_refl _)
  rw [Heap.size_push] at ok
  rw [show ({ s with heap := s.heap.push { cls := .type "dict", data := .dict #[] } } : Shared).heap.objs.size = s.heap.objs.size + 1 from Heap.size_push .., cellsFrom_app]
  rw [List.forIn_nil]
  exact wpAny_bind (wpAny_pure (wpAny_pure (h _ ((Heap.Ns.new s.heap (.type "dict")).keeps (pushCells_keeps _ _)) (fun b o e => pushCells_keeps _ _ b o (Heap.get?_push_of_some _ e)) ok)))
/-- a comprehension, whatever is done with its list; its element may refuse -/
theorem comp_coreX {X : Cx} {elt tg iter : Expr} {ifs : List Expr} {scope : Scope} {pos pos2 : Pos} {N : List Str} {src : List (Option Nat)} {wi : TI} {g : TG} {tc : TT} {te : TE} {use : Option (Value → Sem Unit)} {Post : Value → Shared → Prop} {pins : List (Addr × Obj)} {s : Shared} {σ : St} {H : Hp} {Q : VK}
    (hc : X.calm = true) (S : CompScope X scope N src) (hi : PI X tg iter wi)
    (hg : ∀ s H cl C fp, PG (cxC X s H scope cl C N fp) tg g) (hf : ∀ s H cl C fp, PIf (cxC X s H scope cl C N fp) ifs tc) (xc : Cx → Value → Shared → Prop) (he : ∀ s H cl C fp, (X.ex = [] → ∀ b o, X.s₀.heap.get? b = some o → b ∉ fp ∧ ∃ o', s.heap.get? b = some o') → PE ((cxC X s H scope cl C N fp).wish (xc (cxC X s H scope cl C N fp))) elt te)
    (hs : ∀ x, foldedSetIterable iter X.env x = pure x) (I : Inv X pins σ H s) (h : tComp src wi g tc te σ H Q)
    (fin : ∀ (C a : Addr) (H1 : Hp) (s' : Shared), (∀ h', Heap.SameBut C s'.heap h' → Inv X pins σ H1 { s' with heap := h' }) → FpOk X pins H1 C → (∃ m, s'.heap.Ns C m) → Q (.ref a) H1 → compPost (model X.prog X.w) X.A X.xe use Post (.ref a) C (.ok .next) s')
    (bad : ∀ (s2 : Shared) (H2 : Hp) (cl : List (Str × Addr)) (C : Addr) (fp : List Addr) (acc e : Value) (s' : Shared), (∀ σ' H' s', Inv (cxC X s2 H2 scope cl C N fp) [] σ' H' s' → ∀ h', Heap.SameBut C s'.heap h' → Inv X pins σ H' { s' with heap := h' }) → (X.ex = [] → ∀ b o, X.s₀.heap.get? b = some o → b ∉ fp ∧ ∃ o', s2.heap.get? b = some o') → xc (cxC X s2 H2 scope cl C N fp) e s' →
      notedBy (model X.prog X.w) X.A (compEnvC scope cl C X.env) (fun x s'' => compPost (model X.prog X.w) X.A X.xe use Post acc C (.error x) s'') e s') :
    wpAny (model X.prog X.w) X.A (comprehension (.ListComp elt [⟨tg, iter, ifs, 0⟩] scope pos) scope X.env pos2 (newList []) false (eval iter X.env) use) Post X.xe s := by
  obtain ⟨cl, hcl, cl1, cl2⟩ := closure_of (scope := scope) (env := X.env) (fun x hx => I.ok.has x (S.has x hx))
  refine wpAny_comprehension_free (use := use) rfl hs hcl S.kind S.own (thn (hi pins s σ H _ I h) fun v s1 h1 => thn h1 fun itv s2 h2 => ?_)
  obtain ⟨it, fp, tn, J, H2, rfl, I2, T, st2, f2, W, ⟨m0, w0⟩, turn⟩ := h2
  refine wpAny_newObj_type (new_around fun h3 hns hsb cok => ?_)
  dsimp only at hns hsb cok ⊢
  generalize hHd : s2.heap.push { cls := .type "list", dict := none, data := .seq ([] : List Value).toArray } = Hd at hns hsb cok ⊢
  have hCs : Hd.objs.size = s2.heap.objs.size + 1 := by rw [← hHd, Heap.size_push]
  have hDC : s2.heap.objs.size ≠ Hd.objs.size := by rw [hCs]; exact Nat.ne_of_lt (Nat.lt_succ_self _)
  have below : ∀ b, b < s2.heap.objs.size → b ≠ Hd.objs.size ∧ b ≠ s2.heap.objs.size := fun b hb => ⟨by rw [hCs]; exact Nat.ne_of_lt (Nat.lt_succ_of_lt hb), Nat.ne_of_lt hb⟩
  have old : ∀ b o, s2.heap.get? b = some o → h3.get? b = some o := fun b o e => hsb b o (hHd ▸ Heap.get?_push_of_some _ e)
  have hacc : h3.get? s2.heap.objs.size = some { cls := .type "list", dict := none, data := .seq ([] : List Value).toArray } := hsb _ _ (hHd ▸ Heap.get?_push_size _ rfl)
  have fpObj := T.obj 0 _ st2
  have fpLt : ∀ b ∈ fp, b < s2.heap.objs.size := fun b hb => by
    obtain ⟨o, e, _⟩ := fpObj b hb
    exact Heap.lt_size e
  generalize hown : cellsFrom (Hd.objs.size + 1) scope.names [] = own at cok ⊢
  have ownC : ∀ x c, (x, c) ∈ own → scope.names.lookup x = some .cell := fun x c hm => by
    rw [← hown] at hm
    rcases cellsFrom_mem _ _ _ _ _ hm with z | z
    · exact nomatch z
    · exact S.cells _ z rfl
  have two : ∀ x c, (own ++ cl).lookup x = some c → (cl.lookup x = some c ∧ c < s2.heap.objs.size) ∨ ((x, c) ∈ own ∧ h3.IsCell c none ∧ Hd.objs.size < c) := fun x c e => by
    rw [List.lookup_append] at e
    cases ho : own.lookup x with
    | none =>
      rw [ho, Option.none_or] at e
      obtain ⟨v, q⟩ := I2.cell x c (cl1 x c e)
      exact .inl ⟨e, q.lt⟩
    | some c' =>
      rw [ho, Option.some_or] at e
      cases e
      have hm := mem_of_lookup ho
      exact .inr ⟨hm, (cok.empty x c hm).1, (cok.empty x c hm).2⟩
  have cellNe : ∀ x c, (own ++ cl).lookup x = some c → c ≠ s2.heap.objs.size ∧ ∀ b ∈ fp, c ≠ b := fun x c e => by
    rcases two x c e with ⟨e, lt⟩ | ⟨_, _, lt⟩
    · exact ⟨Nat.ne_of_lt lt, fun b hb => (f2 b hb).2.2.2.2.1 x c (cl1 x c e)⟩
    · rw [hCs] at lt
      exact ⟨Nat.ne_of_gt (Nat.lt_trans (Nat.lt_succ_self _) lt), fun b hb => Nat.ne_of_gt (Nat.lt_trans (fpLt b hb) (Nat.lt_trans (Nat.lt_succ_self _) lt))⟩
  have fresh : ∀ a, s2.heap.objs.size ≤ a → s2.heap.get? a = none := fun a ha => by
    cases e : s2.heap.get? a with
    | none => rfl
    | some o' => exact absurd (Heap.lt_size e) (Nat.not_lt.mpr ha)
  -- the context
  have okY : (cxC X s2 H2 scope (own ++ cl) Hd.objs.size N fp).Ok := by
    refine ⟨I2.ok.mod, S.kind, I2.ok.glob, I2.ok.blt, ?_, ?_, ?_, ?_, fun hcc => I2.ok.hd hcc, I2.ok.frames, .inl rfl, fun b hb => ⟨(below b (fpLt b hb)).1, fun x c e => (cellNe x c e).2 b hb⟩,
      I2.bs, Nat.le_trans I2.ok.bsz I2.sz, fun b o e hb => ?_, fun b hb z => (List.mem_cons.mp (I2.stkSub b z)).elim (f2 b hb).2.1 (f2 b hb).2.2.1, I2.stack, I2.stkFree⟩
    · show s2.heap.objs.size ≤ Hd.objs.size
      rw [hCs]; exact Nat.le_succ _
    · intro x y c e1 e2
      rcases two x c e1 with ⟨e1, l1⟩ | ⟨m1, _, l1⟩ <;> rcases two y c e2 with ⟨e2, l2⟩ | ⟨m2, _, l2⟩
      · exact I2.ok.inj x y c (cl1 x c e1) (cl1 y c e2)
      · rw [hCs] at l2; exact absurd (Nat.lt_trans l1 (Nat.lt_trans (Nat.lt_succ_self _) l2)) (Nat.lt_irrefl _)
      · rw [hCs] at l1; exact absurd (Nat.lt_trans l2 (Nat.lt_trans (Nat.lt_succ_self _) l1)) (Nat.lt_irrefl _)
      · exact name_of_addr cok.apart m1 m2
    · intro x hx
      show ∃ c, (own ++ cl).lookup x = some c
      rw [List.lookup_append]
      cases ho : own.lookup x with
      | some c => exact ⟨c, rfl⟩
      | none =>
        rw [Option.none_or]
        rcases relabel_cell hx with z | z
        · exact cl2 x z
        · have := PySem.W.cellsFrom_some scope.names (Hd.objs.size + 1) [] (.inl (S.cells _ z rfl))
          rw [hown, ho] at this
          cases this
    · intro x c hf e
      have hf' : scope.names.lookup x = some .cell := by simpa [cxC] using hf
      have := PySem.W.cellsFrom_some scope.names (Hd.objs.size + 1) [] (.inl hf')
      rw [hown] at this
      obtain ⟨c', ho⟩ := Option.isSome_iff_exists.mp this
      have e' : (own ++ cl).lookup x = some c := e
      rw [List.lookup_append, ho, Option.some_or] at e'
      cases e'
      have := (cok.empty x c (mem_of_lookup ho)).2
      show s2.heap.objs.size ≤ c
      rw [hCs] at this
      omega
    · rcases (f2 b hb).2.2.2.1 with z | z
      · exact I2.ok.noex b o e z
      · exact absurd (Nat.lt_of_lt_of_le (Heap.lt_size e) (Nat.le_trans I2.ok.bsz z)) (Nat.lt_irrefl _)
  have IY : Inv (cxC X s2 H2 scope (own ++ cl) Hd.objs.size N fp) [] (seen σ src) H2 { s2 with heap := h3 } := by
    refine ⟨okY, rfl, I2.bare, Un.kept old, ⟨_, hns, fun i x v e1 e2 _ => ?_⟩, fun x c e => ?_, I2.hok.fresh (by show s2.heap.objs.size ≤ Hd.objs.size; rw [hCs]; exact Nat.le_succ _), ?_, fun p hp => (nomatch hp), I2.hok.kept old, ?_⟩
    · unfold seen at e2
      rw [List.getElem?_map] at e2
      cases hsr : src[i]? with
      | none => rw [hsr] at e2; cases e2
      | some oj =>
        rw [hsr] at e2
        cases oj with
        | none => cases e2
        | some j =>
          obtain ⟨hN, hfr, hlk⟩ := S.src i j x hsr e1
          have e3 : σ[j]? = some (some v) := by
            have : (σ[j]?).join = some v := Option.some.inj e2
            cases hj : σ[j]? with
            | none => rw [hj] at this; cases this
            | some o => rw [hj] at this; cases this; rfl
          have hk := S.has x hfr
          have vis : Vis X.env.scope x := by
            rcases hk with z | z
            · exact .inr (.inl z)
            · exact .inr (.inr z)
          obtain ⟨m, hnm, hl⟩ := I2.loc
          obtain ⟨u, r, l⟩ := hl j x v hN e3 vis
          refine ⟨u, r, .inr ⟨lookup_relabel_free hlk, ?_⟩⟩
          rcases l with ⟨l1, _⟩ | ⟨_, c, ec, ic⟩
          · rcases hk with z | z <;> (rw [l1] at z; cases z)
          · obtain ⟨c', ec'⟩ := cl2 x hfr
            have := cl1 x c' ec'
            rw [ec] at this
            cases this
            obtain ⟨o, ho, hd⟩ := ic
            have hno : own.lookup x = none := by
              cases ho : own.lookup x with
              | none => rfl
              | some c2 =>
                have := ownC x c2 (mem_of_lookup ho)
                rw [hlk] at this
                cases this
            exact ⟨c, by show (own ++ cl).lookup x = some c; rw [List.lookup_append, hno, Option.none_or]; exact ec', o, old _ _ ho, hd⟩
    · rcases two x c e with ⟨e, _⟩ | ⟨_, q, _⟩
      · obtain ⟨v, o, ho, hd⟩ := I2.cell x c (cl1 x c e)
        exact ⟨v, o, old _ _ ho, hd⟩
      · exact ⟨none, q⟩
    · intro x c e
      rcases two x c e with ⟨e, _⟩ | ⟨_, _, lt⟩
      · exact I2.freeC x c (cl1 x c e)
      · exact I2.hok.fresh (by rw [hCs] at lt; omega)
    · show (seen σ src).length = N.length
      unfold seen
      rw [List.length_map, S.len]
  have dFs : s2.heap.objs.size ∉ frs X.stack := fun z => by
    obtain ⟨_, o, ho, _⟩ := I2.stack.mem z
    exact absurd (Heap.lt_size ho) (Nat.lt_irrefl _)
  have cFs : Hd.objs.size ∉ frs X.stack := fun z => by
    obtain ⟨_, o, ho, _⟩ := I2.stack.mem z
    have z2 := Heap.lt_size ho
    rw [hCs] at z2
    exact absurd z2 (Nat.not_lt.mpr (Nat.le_succ _))
  have stat : ∀ {H' : Hp} {pn : List (Addr × Obj)}, (∀ b ∈ fp, H' b = none) → (∀ p ∈ pn, p.1 = s2.heap.objs.size) → ∀ b ∈ fp, FpOk (cxC X s2 H2 scope (own ++ cl) Hd.objs.size N fp) pn H' b := fun hn hp b hb =>
    ⟨hn b hb, (below b (fpLt b hb)).1, okY.exfs b hb, .inl hb, fun x c e => (cellNe x c e).2 b hb, fun p q z => (below b (fpLt b hb)).2 (z ▸ hp p q)⟩
  have neC : ∀ b o, s2.heap.get? b = some o → b ≠ Hd.objs.size := fun b o e => (below b (Heap.lt_size e)).1
  have key : ∀ σ' H' s', Inv (cxC X s2 H2 scope (own ++ cl) Hd.objs.size N fp) [] σ' H' s' → ∀ h', Heap.SameBut Hd.objs.size s'.heap h' → Inv X pins σ H' { s' with heap := h' } := fun σ' H' s4 I6 h' hsb' => by
    have kp : ∀ b o, b ≠ Hd.objs.size → s4.heap.get? b = some o → h'.get? b = some o := fun b o hb e => (hsb'.2 b hb).trans e
    have un : Un (frs X.stack) fp H2 H' s2.heap h' := by
      have u0 : Un (frs X.stack) fp H2 H' s2.heap s4.heap := I6.base
      refine ⟨fun b o e n' hb hx => kp b o (neC b o e) (u0.keep b o e n' hb hx), fun b o e n' hb hx => ?_, u0.free, fun b o e hx => ?_, u0.tups, u0.frzs, u0.tbls⟩
      · obtain ⟨sl, e1⟩ := u0.slot b o e n' hb hx
        exact ⟨sl, kp b _ (neC b o e) e1⟩
      · obtain ⟨o', e1⟩ := u0.there b o e hx
        exact ⟨o', kp b o' (neC b o e) e1⟩
    have nC : H' Hd.objs.size = none := I6.free
    have hok : HOk X.prog X.w H' h' := fun a o e => (I6.hok a o e).stay (fun b u hb q' => kp b u (fun z => by
      rcases hb with rfl | hb
      · rw [z, nC] at e; cases e
      · rw [z, nC] at hb; cases hb) q') (fun _ q' => q') fun _ _ q' => q'
    exact I2.call' (s' := { s4 with heap := h' }) I6.os un hok I6.bare (fun b hb => ⟨(f2 b hb).2.2.2.1, (f2 b hb).2.1, (f2 b hb).2.2.2.2.1, (f2 b hb).2.2.2.2.2⟩)
  have olds : X.ex = [] → ∀ b o, X.s₀.heap.get? b = some o → b ∉ fp ∧ ∃ o', s2.heap.get? b = some o' := fun hex b o e => by
    refine ⟨fun hb => ?_, I2.base.there b o e (by rw [hex]; simp)⟩
    rcases (f2 b hb).2.2.2.1 with z | z
    · rw [hex] at z
      cases z
    · exact absurd (Heap.lt_size e) (Nat.not_lt.mpr z)
  have loop : ∀ sA : Shared, sA = { s2 with heap := h3 } →
      codeAny (model X.prog X.w) X.A (.compLoop (.ListComp elt [⟨tg, iter, ifs, 0⟩] scope pos) 0 (.ref it) (.ref s2.heap.objs.size) (compEnvC scope (own ++ cl) Hd.objs.size X.env))
        (compPost (model X.prog X.w) X.A X.xe use Post (.ref s2.heap.objs.size) Hd.objs.size) sA := by
    rintro sA rfl
    refine compLoop_anyX (fun n s' => ∃ (i : Nat) (ys : List V) (its : List Value) (k : Nat) (σ3 : St) (H3 : Hp), Inv (cxC X s2 H2 scope (own ++ cl) Hd.objs.size N fp) [] σ3 H3 s' ∧ Weak (seen σ src) σ3 ∧ tn i s'.heap ∧ (∀ b ∈ fp, H3 b = none) ∧ W i n ys H3 ∧
        s'.heap.get? s2.heap.objs.size = some { cls := .type "list", data := .seq its.toArray k } ∧ Vals ys its ∧ H3 s2.heap.objs.size = none) ?_ m0
      ⟨0, [], [], 0, _, H2, IY, Weak.refl _, T.keep 0 _ _ st2 (fun b hb o e => old b o e), fun b hb => (f2 b hb).1, w0, hacc, .nil, I2.fresh⟩
    rintro n s3 ⟨i, ys, its, k, σ3, H3, I3, wk, st3, fr3, w3, hD, rv, nD⟩
    have I4 : Inv (cxC X s2 H2 scope (own ++ cl) Hd.objs.size N fp) [] (seen σ src) H3 s3 := I3.weak wk.1.symm wk.2
    have I5 : Inv (cxC X s2 H2 scope (own ++ cl) Hd.objs.size N fp) [(s2.heap.objs.size, { cls := .type "list", data := .seq its.toArray k })] (seen σ src) H3 s3 := I4.pins_of fun p hp => by
      cases List.mem_singleton.mp hp
      exact ⟨hD, nD, hDC, dFs, fun v z => nomatch z⟩
    have one : ∀ p ∈ [((s2.heap.objs.size, { cls := .type "list", data := .seq its.toArray k }) : Addr × Obj)], p.1 = s2.heap.objs.size := fun p hp => by
      cases List.mem_singleton.mp hp
      rfl
    rcases turn i n ys H3 w3 with ⟨stop, hlen, q⟩ | ⟨go, step⟩
    · refine thn (T.done (cxC X s2 H2 scope (own ++ cl) Hd.objs.size N fp) rfl rfl rfl hc i _ s3 _ H3 _ I5 (stat fr3 one) st3 stop) fun r s4 ⟨hr, I6⟩ => ?_
      subst hr
      have hD4 := (I6.pin _ (List.mem_append_right _ (List.mem_singleton.mpr rfl))).1
      obtain ⟨m, hn4, _⟩ := I6.loc
      refine fin Hd.objs.size s2.heap.objs.size (upd H3 s2.heap.objs.size (.lst ys)) s4 (fun h' hsb' => ?_) (I2.fpOk (by rw [hCs]; exact Nat.le_succ _) (by rw [upd_ne (Ne.symm hDC)]; exact I6.free)) ⟨m, hn4⟩ (q _ nD)
      have kp : ∀ b o, b ≠ Hd.objs.size → s4.heap.get? b = some o → h'.get? b = some o := fun b o hb e => (hsb'.2 b hb).trans e
      have I7 : Inv X pins σ H3 { s4 with heap := h' } := key _ _ s4 I6.nopins h' hsb'
      have e0 : X.s₀.heap.get? s2.heap.objs.size = none := by
        cases e : X.s₀.heap.get? s2.heap.objs.size with
        | none => rfl
        | some o => exact absurd (Nat.lt_of_lt_of_le (Heap.lt_size e) I2.sz) (Nat.lt_irrefl _)
      have I8 : Inv X pins σ (upd H3 s2.heap.objs.size (.lst ys)) { s4 with heap := h' } := I7.track nD e0 (fun z => Nat.lt_irrefl _ (z ▸ I2.lt)) (fun x c e z => by
        obtain ⟨v, q'⟩ := I2.cell x c e
        exact Nat.lt_irrefl _ (z ▸ q'.lt)) (fun p hp z => Nat.lt_irrefl _ (z ▸ Heap.lt_size (I2.pin p hp).1)) ⟨hlen, its, k, rv, kp _ _ hDC hD4⟩
      exact I8
    · refine thn (T.item (cxC X s2 H2 scope (own ++ cl) Hd.objs.size N fp) rfl rfl rfl hc i _ s3 _ H3 _ I5 (stat fr3 one) st3 go) fun r s4 ⟨u, hr, h4⟩ => ?_
      subst hr
      refine thn h4 fun _ s5 ⟨x, H5, I6, r5, y5, st5, fr5⟩ => ?_
      have I6' := I6.pinned (stat fr5 one) (T.obj _ _ st5)
      refine thn (hg _ _ _ _ _ _ s5 _ H5 x u _ I6' r5 (step x H5 y5)) fun _ s6 ⟨σ6, H6, I7, wk6, q6⟩ => ?_
      refine thn (hf _ _ _ _ _ _ s6 σ6 H6 _ I7 q6) fun ok s7 ⟨H7, I8, q7⟩ => ?_
      have back : ∀ {σ' : St} {H' : Hp} {s' : Shared}, Inv (cxC X s2 H2 scope (own ++ cl) Hd.objs.size N fp) ([(s2.heap.objs.size, { cls := .type "list", data := .seq its.toArray k })] ++ pinsAt fp s5.heap) σ' H' s' →
          tn (i + 1) s'.heap ∧ (∀ b ∈ fp, H' b = none) ∧ s'.heap.get? s2.heap.objs.size = some { cls := .type "list", data := .seq its.toArray k } ∧ H' s2.heap.objs.size = none := fun {σ' H' s'} J => by
        have jD := J.pin (s2.heap.objs.size, { cls := .type "list", data := .seq its.toArray k }) (by simp)
        refine ⟨T.keep _ _ _ st5 fun b hb o e => (J.pin (b, o) (List.mem_append_right _ (List.mem_append_right _ (mem_pinsAt hb e)))).1, fun b hb => ?_, jD.1, jD.2.1⟩
        obtain ⟨o, e, d⟩ := T.obj _ _ st5 b hb
        exact (J.pin (b, o) (List.mem_append_right _ (List.mem_append_right _ (mem_pinsAt hb e)))).2.1
      cases ok with
      | false =>
        rw [if_neg Bool.false_ne_true] at q7
        rw [if_neg Bool.false_ne_true]
        obtain ⟨m', hm, w'⟩ := q7
        obtain ⟨b1, b2, b3, b4⟩ := back I8
        exact ⟨m', hm, i + 1, ys, its, k, σ6, H7, I8.nopins, wk6, b1, b2, w', b3, rv, b4⟩
      | true =>
        rw [if_pos rfl] at q7
        rw [if_pos rfl]
        refine wpAny_mono (he _ _ _ _ _ olds _ s7 σ6 H7 _ (I8.wish _) q7) (fun u2 s8 ⟨y, H8, I9', r9, hlt, m', hm, w'⟩ => ?_) fun e s8 z => bad _ _ _ _ _ _ e s8 key olds z
        have I9 := I9'.unwish
        obtain ⟨b1, b2, b3, b4⟩ := back I9
        have hl := rv.length
        refine call_meets F.slot_list_append ⟨_, b3, rfl⟩ F.entry_list_append (F.args_list_append_2 _ _) (PySem.list_append s2.heap.objs.size its.toArray k u2 (by rw [List.size_toArray]; omega)) ⟨b3, ?_⟩
        have qu := PySem.IsL.update b3 (·.push u2)
        rw [show its.toArray.push u2 = (its ++ [u2]).toArray by simp] at qu
        refine ⟨m', hm, i + 1, ys ++ [y], its ++ [u2], _, σ6, H8, ?_, wk6, ?_, b2, w', qu, rv.append (.cons r9 .nil), b4⟩
        · exact I9.nopins.turned (it := s2.heap.objs.size) (fun b o hb e => (Heap.get?_update_other s8.heap (Obj.mapSeq _) (Ne.symm hb)).trans e) b4 hDC (.inr (Nat.le_refl _)) (fun x c e z => (cellNe x c e).1 z) (fun p hp => nomatch hp)
        · exact T.keep _ _ _ b1 fun b hb o e => (Heap.get?_update_other s8.heap (Obj.mapSeq _) ((below b (fpLt b hb)).2.symm)).trans e
  exact codeAny_compStart_list (loop _ rfl) (T.self _ 0 _ _ _ (T.keep 0 _ _ st2 (fun b hb o e => old b o e)) (loop _ rfl))
/-- a comprehension, whatever is done with its list -/
theorem comp_core {X : Cx} {elt tg iter : Expr} {ifs : List Expr} {scope : Scope} {pos pos2 : Pos} {N : List Str} {src : List (Option Nat)} {wi : TI} {g : TG} {tc : TT} {te : TE} {use : Option (Value → Sem Unit)} {Post : Value → Shared → Prop} {pins : List (Addr × Obj)} {s : Shared} {σ : St} {H : Hp} {Q : VK}
    (hc : X.calm = true) (S : CompScope X scope N src) (hi : PI X tg iter wi)
    (hg : ∀ s H cl C fp, PG (cxC X s H scope cl C N fp) tg g) (hf : ∀ s H cl C fp, PIf (cxC X s H scope cl C N fp) ifs tc) (he : ∀ s H cl C fp, PE (cxC X s H scope cl C N fp) elt te)
    (hs : ∀ x, foldedSetIterable iter X.env x = pure x) (I : Inv X pins σ H s) (h : tComp src wi g tc te σ H Q)
    (fin : ∀ (C a : Addr) (H1 : Hp) (s' : Shared), (∀ h', Heap.SameBut C s'.heap h' → Inv X pins σ H1 { s' with heap := h' }) → FpOk X pins H1 C → (∃ m, s'.heap.Ns C m) → Q (.ref a) H1 → compPost (model X.prog X.w) X.A X.xe use Post (.ref a) C (.ok .next) s') :
    wpAny (model X.prog X.w) X.A (comprehension (.ListComp elt [⟨tg, iter, ifs, 0⟩] scope pos) scope X.env pos2 (newList []) false (eval iter X.env) use) Post X.xe s :=
  comp_coreX hc S hi hg hf (fun _ _ _ => False) (fun s H cl C fp _ => he s H cl C fp) hs I h fin fun _ _ _ _ _ _ _ _ _ _ z => z.elim
theorem pe_comp {X : Cx} {elt tg iter : Expr} {ifs : List Expr} {scope : Scope} {pos : Pos} {N : List Str} {src : List (Option Nat)} {wi : TI} {g : TG} {tc : TT} {te : TE} (hc : X.calm = true) (S : CompScope X scope N src) (hi : PI X tg iter wi)
    (hg : ∀ s H cl C fp, PG (cxC X s H scope cl C N fp) tg g) (hf : ∀ s H cl C fp, PIf (cxC X s H scope cl C N fp) ifs tc) (he : ∀ s H cl C fp, PE (cxC X s H scope cl C N fp) elt te)
    (hs : ∀ x, foldedSetIterable iter X.env x = pure x := by intro _; rfl) : PE X (.ListComp elt [⟨tg, iter, ifs, 0⟩] scope pos) (tComp src wi g tc te) := by
  intro pins s σ H Q I h
  rw [eval_ListComp]
  refine comp_core (use := none) hc S hi hg hf he hs I h fun C a H1 s' key _ ⟨m, hn⟩ q => ⟨m, hn, fun h' sb => ⟨.ref a, H1, key h' sb, rfl, q⟩⟩
/-- x = [.. for ..], x a local name on the same row: stored before the block's names are let go -/
theorem ps_setComp {X : Cx} {elt tg iter : Expr} {ifs : List Expr} {scope : Scope} {pos spos pos' : Pos} {x : Str} {i : Nat} {N : List Str} {src : List (Option Nat)} {wi : TI} {g : TG} {tc : TT} {te : TE} (hc : X.calm = true) (S : CompScope X scope N src) (hi : PI X tg iter wi)
    (hg : ∀ s H cl C fp, PG (cxC X s H scope cl C N fp) tg g) (hf : ∀ s H cl C fp, PIf (cxC X s H scope cl C N fp) ifs tc) (he : ∀ s H cl C fp, PE (cxC X s H scope cl C N fp) elt te) (ht : PG X (.Name x pos') (gName i))
    (hsw : swapsWith (.ListComp elt [⟨tg, iter, ifs, 0⟩] scope pos) (some (.Name x pos')) spos.line X.env = pure true := by rfl)
    (hs : ∀ x, foldedSetIterable iter X.env x = pure x := by intro _; rfl) : PS X (.Assign [.Name x pos'] (.ListComp elt [⟨tg, iter, ifs, 0⟩] scope pos) spos) (tAsg (tComp src wi g tc te) (gName i)) := by
  intro pins s σ H D I h
  rw [exec_Assign_Name_used _ _ _ _ hsw]
  refine wpAny_bind (wpAny_standAt (wpAny_bind ?_))
  rw [arm_evalThenUse_ListComp]
  refine wpAny_bind ?_
  refine comp_core (use := some (assign (.Name x pos') X.env)) hc S hi hg hf he hs I h fun C a H1 s' key fp ⟨m, o, es, ep, ho, hd, hk⟩ q => ?_
  have I1 : Inv X pins σ H1 s' := key s'.heap (Heap.SameBut.refl _ _)
  have I2 := I1.pinned (fp := [C]) (fun b hb => by rw [List.mem_singleton.mp hb]; exact fp) (fun b hb => by rw [List.mem_singleton.mp hb]; exact ⟨o, ho, fun v z => by rw [hd] at z; cases z⟩)
  refine thn (ht _ s' σ H1 (.ref a) (.ref a) _ I2 rfl q) fun _ s5 ⟨σ5, H5, I5, q5⟩ => ?_
  have pC := I5.pin (C, o) (List.mem_append_right _ (List.mem_append_right _ (mem_pinsAt (List.mem_singleton.mpr rfl) ho)))
  obtain ⟨f0, f1, f2, f3, f4, f5⟩ := fp
  refine ⟨m, ⟨o, es, ep, pC.1, hd, hk⟩, fun h' sb => ?_⟩
  exact wpAny_pure (wpAny_pure ⟨σ5, H5, I5.unpinned.turned (it := C) (t' := s5.toks) (fun b o' hb e => (sb.2 b hb).trans e) pC.2.1 f1 f3 f4 f5, q5⟩)
/-! ### a scope that is written -/
def compOkB (osc sc : Scope) (oN N : List Str) (src : List (Option Nat)) : Bool :=
  sc.names.all (fun y => decide (y.2 ≠ .cell) || decide (sc.names.lookup y.1 = some .cell)) && sc.names.all (fun y => decide (y.2 ≠ .local) || decide (sc.names.lookup y.1 = some .local)) &&
  sc.names.all (fun y => decide (y.2 ≠ .free) || decide (osc.names.lookup y.1 = some .cell) || decide (osc.names.lookup y.1 = some .free)) && decide (src.length = N.length) &&
  (List.range src.length).all (fun i => match src[i]?, N[i]? with | some (some j), some x => decide (oN[j]? = some x) && decide ((x, NameKind.free) ∈ sc.names) && decide (sc.names.lookup x = some .free) | _, _ => true)
theorem comp_scope {X : Cx} {scope : Scope} {N : List Str} {src : List (Option Nat)} (osc : Scope) (oN : List Str) (e1 : X.env.scope = osc) (e2 : X.N = oN) (c : compOkB osc scope oN N src = true) (k : scope.kind = .function) : CompScope X scope N src := by
  unfold compOkB at c
  simp only [Bool.and_eq_true, List.all_eq_true, decide_eq_true_eq, Bool.or_eq_true] at c
  obtain ⟨⟨⟨⟨c1, c2⟩, c3⟩, c4⟩, c5⟩ := c
  refine ⟨k, fun y hy e => (c1 y hy).resolve_left fun z => z e, fun y hy e => ?_, fun x hx => ?_, c4, fun i j x h1 h2 => ?_⟩
  · rcases c2 y hy with z | z
    · exact absurd e z
    · exact z
  · show X.env.scope.names.lookup x = _ ∨ X.env.scope.names.lookup x = _
    rw [e1]
    rcases c3 (x, .free) hx with (z | z) | z
    · exact absurd rfl z
    · exact .inl z
    · exact .inr z
  · have hi : i < src.length := (List.getElem?_eq_some_iff.mp h1).1
    have z := c5 i (List.mem_range.mpr hi)
    rw [h1, h2] at z
    simp only [Bool.and_eq_true, decide_eq_true_eq] at z
    rw [e2]
    exact ⟨z.1.1, z.1.2, z.2⟩
end L2
/-! EvMore: data read off the abstract heap and compared, any, all; promises of defs in bundles. Behind EvComp. -/
namespace L2
open PySem PySem.Spec PyProof.Rows
/-! ### data -/
mutual
def IsD (K : PySem.W.Frag) (H : Hp) : PyData → V → Prop
  | .none, v => v = .non
  | .bool b, v => v = .bl b
  | .int i, v => v = .int i
  | .str x, v => v = .str x
  | .list ds, v => ∃ a xs, v = .ref a ∧ SqL K H a xs ∧ IsDs K H ds xs
  | .tuple ds, v => ∃ a xs, v = .ref a ∧ SqT K H a xs ∧ IsDs K H ds xs
  | .dict _, _ => False
def IsDs (K : PySem.W.Frag) (H : Hp) : List PyData → List V → Prop
  | [], xs => xs = []
  | d :: ds, xs => ∃ x r, xs = x :: r ∧ IsD K H d x ∧ IsDs K H ds r
end
theorem isTup_reads {h : Heap} {a : Addr} {its : Array Value} (t : IsTup h a its) : ∃ o n, h.get? a = some o ∧ o.cls = .type "tuple" ∧ o.data = .seq its n := by
  obtain ⟨o, ho, hc, n, hd⟩ := t
  exact ⟨o, n, ho, hc, hd⟩
section
variable {X : Cx} {pins : List (Addr × Obj)} {σ : St} {H : Hp} {s : Shared}
mutual
theorem IsD.reads (I : Inv X pins σ H s) : ∀ (d : PyData) {v : V} {u : Value}, IsD X.K H d v → RelV v u → ∃ as, Reads s.heap u d as
  | .none, v, u, h, r => by
    simp only [IsD] at h; subst h
    cases (show u = .none from r); exact ⟨_, .none⟩
  | .bool b, v, u, h, r => by
    simp only [IsD] at h; subst h
    cases (show u = .bool b from r); exact ⟨_, .bool b⟩
  | .int i, v, u, h, r => by
    simp only [IsD] at h; subst h
    obtain ⟨t, rfl⟩ := r; exact ⟨_, .int i t⟩
  | .str x, v, u, h, r => by
    simp only [IsD] at h; subst h
    obtain ⟨t, rfl⟩ := r; exact ⟨_, .str x t⟩
  | .list ds, v, u, h, r => by
    simp only [IsD] at h
    obtain ⟨a, xs, rfl, hs, hd⟩ := h
    cases (show u = .ref a from r)
    obtain ⟨its, rv, p, _⟩ := I.list hs
    obtain ⟨o, ho, hc, n, hdd⟩ := p.isList
    obtain ⟨as, ra⟩ := IsDs.reads I ds hd rv
    exact ⟨_, .list ho hc hdd (by simpa using ra)⟩
  | .tuple ds, v, u, h, r => by
    simp only [IsD] at h
    obtain ⟨a, xs, rfl, hs, hd⟩ := h
    cases (show u = .ref a from r)
    obtain ⟨its, rv, p, _⟩ := I.tuple hs
    obtain ⟨o, n, ho, hc, hdd⟩ := isTup_reads p
    obtain ⟨as, ra⟩ := IsDs.reads I ds hd rv
    exact ⟨_, .tuple ho hc hdd (by simpa using ra)⟩
  | .dict _, v, u, h, r => by
    simp only [IsD] at h
theorem IsDs.reads (I : Inv X pins σ H s) : ∀ (ds : List PyData) {vs : List V} {us : List Value}, IsDs X.K H ds vs → Vals vs us → ∃ as, ReadsAll s.heap us ds as
  | [], vs, us, h, r => by
    simp only [IsDs] at h; subst h
    cases r; exact ⟨_, .nil⟩
  | d :: ds, vs, us, h, r => by
    simp only [IsDs] at h
    obtain ⟨x, rr, rfl, hx, hr⟩ := h
    cases r with
    | cons r1 r2 =>
      obtain ⟨as, ra⟩ := IsD.reads I d hx r1
      obtain ⟨bs, rb⟩ := IsDs.reads I ds hr r2
      exact ⟨_, .cons ra rb⟩
end
end
mutual
theorem IsD.imp {K : PySem.W.Frag} {H H' : Hp} (sl : ∀ a xs, SqL K H a xs → SqL K H' a xs) (st : ∀ a xs, SqT K H a xs → SqT K H' a xs) : ∀ (d : PyData) {v : V}, IsD K H d v → IsD K H' d v
  | .none, v, h => by simp only [IsD] at h ⊢; exact h
  | .bool b, v, h => by simp only [IsD] at h ⊢; exact h
  | .int i, v, h => by simp only [IsD] at h ⊢; exact h
  | .str x, v, h => by simp only [IsD] at h ⊢; exact h
  | .list ds, v, h => by
    simp only [IsD] at h ⊢
    obtain ⟨a, xs, e, hs, hd⟩ := h
    exact ⟨a, xs, e, sl a xs hs, IsDs.imp sl st ds hd⟩
  | .tuple ds, v, h => by
    simp only [IsD] at h ⊢
    obtain ⟨a, xs, e, hs, hd⟩ := h
    exact ⟨a, xs, e, st a xs hs, IsDs.imp sl st ds hd⟩
  | .dict _, v, h => by simp only [IsD] at h
theorem IsDs.imp {K : PySem.W.Frag} {H H' : Hp} (sl : ∀ a xs, SqL K H a xs → SqL K H' a xs) (st : ∀ a xs, SqT K H a xs → SqT K H' a xs) : ∀ (ds : List PyData) {vs : List V}, IsDs K H ds vs → IsDs K H' ds vs
  | [], vs, h => by simp only [IsDs] at h ⊢; exact h
  | d :: ds, vs, h => by
    simp only [IsDs] at h ⊢
    obtain ⟨x, r, e, hx, hr⟩ := h
    exact ⟨x, r, e, IsD.imp sl st d hx, IsDs.imp sl st ds hr⟩
end
/-! ### == and != of data -/
def rEqD (K : PySem.W.Frag) (neg : Bool) : R2 := fun x y H Q => ∃ da db, IsD K H da x ∧ IsD K H db y ∧ PySem.SeqAt.shaped da = true ∧ PySem.SeqAt.shaped db = true ∧ Q (.bl (if neg then !PyData.eqv da db else PyData.eqv da db)) H
theorem op_eqD {X : Cx} (hu : X.A.units + 64 < cLine) : OpR X (compareOp .Eq) (rEqD X.K false) := by
  intro pins s σ H x y v u Q I rx ry h
  obtain ⟨da, db, ha, hb, sa, sb, q⟩ := h
  obtain ⟨as, ra⟩ := IsD.reads I da ha rx
  obtain ⟨bs, rb⟩ := IsD.reads I db hb ry
  exact PySem.SeqAt.compareEq_shaped ra rb sa sb hu ⟨.bl _, H, I, rfl, q⟩
theorem op_neD {X : Cx} (hu : X.A.units + 64 < cLine) : OpR X (compareOp .NotEq) (rEqD X.K true) := by
  intro pins s σ H x y v u Q I rx ry h
  obtain ⟨da, db, ha, hb, sa, sb, q⟩ := h
  obtain ⟨as, ra⟩ := IsD.reads I da ha rx
  obtain ⟨bs, rb⟩ := IsD.reads I db hb ry
  exact PySem.SeqAt.compareNe_shaped ra rb sa sb hu ⟨.bl _, H, I, rfl, q⟩
/-! ### any, all -/
theorem bools_of : ∀ {bs : List Bool} {us : List Value}, Vals (bs.map V.bl) us → LSm.BoolsAre us bs
  | [], _, .nil => .nil
  | b :: bs, _, .cons h t => by
    cases (show _ = Value.bool b from h)
    exact .cons b (bools_of t)
theorem call_any {X : Cx} (hc : X.calm = true) : CallR X (.builtin "any") (fun xs H Q => ∃ (a : Addr) (bs : List Bool), xs = [.ref a] ∧ SqL X.K H a (bs.map V.bl) ∧ Q (.bl (bs.any id)) H) := by
  intro pins s σ H xs us Q I r h
  obtain ⟨a, bs, rfl, hS, q⟩ := h
  obtain ⟨u, rfl, ru⟩ := r.one
  cases (show u = Value.ref a from ru)
  obtain ⟨its, rv, p, _⟩ := I.list hS
  have hl := p.isList
  have hb := bools_of rv
  have hlt : a < s.heap.objs.size := by obtain ⟨_, e, _⟩ := hl; exact Heap.lt_size e
  refine call_any_walk (wpAny_pyIter_list hl ?_)
  refine ⟨s.heap.objs.size, [s.heap.objs.size, a], [s.heap.objs.size], its.toArray.size, _, _, fun i => (bs[i]?).getD false, rfl, Walks.list (A := X.A.in1) (I.ok.hd hc) _ a (Nat.ne_of_lt hlt) its.toArray,
    ⟨⟨_, Heap.get?_push_size _ rfl, rfl, rfl⟩, hl.push _⟩, fun i v s' Q' E' hP hQ => ?_, fun h' tk hk => ?_⟩
  · obtain ⟨b, e, rfl⟩ := hb.get i v (by simpa using hP)
    simp only [e, Option.getD_some] at hQ
    exact wpAny_truthy_bool hQ
  · have e : ((List.range its.toArray.size).any fun i => (bs[i]?).getD false) = bs.any id := by
      rw [List.size_toArray, hb.length]; exact LSm.range_any bs
    rw [e]
    exact ⟨.bl _, H, I.kept (LSm.kept_iter hk), rfl, q⟩
theorem call_all {X : Cx} (hc : X.calm = true) : CallR X (.builtin "all") (fun xs H Q => ∃ (a : Addr) (bs : List Bool), xs = [.ref a] ∧ SqL X.K H a (bs.map V.bl) ∧ Q (.bl (bs.all id)) H) := by
  intro pins s σ H xs us Q I r h
  obtain ⟨a, bs, rfl, hS, q⟩ := h
  obtain ⟨u, rfl, ru⟩ := r.one
  cases (show u = Value.ref a from ru)
  obtain ⟨its, rv, p, _⟩ := I.list hS
  have hl := p.isList
  have hb := bools_of rv
  have hlt : a < s.heap.objs.size := by obtain ⟨_, e, _⟩ := hl; exact Heap.lt_size e
  refine call_all_walk (wpAny_pyIter_list hl ?_)
  refine ⟨s.heap.objs.size, [s.heap.objs.size, a], [s.heap.objs.size], its.toArray.size, _, _, fun i => (bs[i]?).getD true, rfl, Walks.list (A := X.A.in1) (I.ok.hd hc) _ a (Nat.ne_of_lt hlt) its.toArray,
    ⟨⟨_, Heap.get?_push_size _ rfl, rfl, rfl⟩, hl.push _⟩, fun i v s' Q' E' hP hQ => ?_, fun h' tk hk => ?_⟩
  · obtain ⟨b, e, rfl⟩ := hb.get i v (by simpa using hP)
    simp only [e, Option.getD_some] at hQ
    exact wpAny_truthy_bool hQ
  · have e : ((List.range its.toArray.size).all fun i => (bs[i]?).getD true) = bs.all id := by
      rw [List.size_toArray, hb.length]; exact LSm.range_all bs
    rw [e]
    exact ⟨.bl _, H, I.kept (LSm.kept_iter hk), rfl, q⟩
/-! ### a def with its promise, in one -/
def Pm (P : Program) (w : World) (K : PySem.W.Frag) (mg : Str → Option Value) (base : Heap) (CX : CXT) (k : Nat) (x : Str) (ps : List Str) (sp : Sp) : Prop :=
  ∃ (f : Addr) (fd : FuncData), mg x = some (.ref f) ∧ PySem.W.keepIn K (.ref f) = true ∧ Binds K fd ps [] ∧ FnOk P w K mg base CX k f fd ps sp
theorem pe_callP {X : Cx} {CX : CXT} {k : Nat} {x : Str} {ps : List Str} {sp : Sp} {E : XK} {p pos : Pos} {e : Expr} {es : List Expr} {t : TA} (h : Pm X.prog X.w X.K X.mg X.base CX k x ps sp) (hr : Room k X.A) (hg : Gl X x) (hx : Passes CX X E) (ha : PA X (e :: es) t)
    (hdb : (x == ("__debug__" : Str)) = false := by decide) (he : starEach (e :: es) X.env = (false, eval e X.env) :: starEach es X.env := by rfl) (hpl : (backTo pos (starEach es X.env)).any (·.1) = false := by rfl) :
    PE X (.Call (.Name x p) (e :: es) [] pos) (tCall sp [] E t) := by
  obtain ⟨f, fd, hm, hk, hb, F⟩ := h
  exact pe_call F hr hg hm hk hb .nil hx ha hdb he hpl
end L2
/-! EvQ: made by mkq.py. The rules over structures. -/
namespace L2
open PySem PySem.Spec PyProof.Rows
set_option autoImplicit true
set_option relaxedAutoImplicit true
structure QE (X : Cx) (e : Expr) (t : TE) : Prop where
  h : PE X e t
structure QT (X : Cx) (e : Expr) (t : TT) : Prop where
  h : PT X e t
structure QW (X : Cx) (e : Expr) (t : TT) : Prop where
  h : PW X e t
structure QA (X : Cx) (e : List Expr) (t : TA) : Prop where
  h : PA X e t
structure QS (X : Cx) (e : Stmt) (t : TS) : Prop where
  h : PS X e t
structure QSs (X : Cx) (e : List Stmt) (t : TS) : Prop where
  h : PSs X e t
structure QGs (X : Cx) (e : List Expr) (t : TGs) : Prop where
  h : PGs X e t
structure QG (X : Cx) (e : Expr) (t : TG) : Prop where
  h : PG X e t
structure QF (X : Cx) (e : List Expr) (t : TF) : Prop where
  h : PF X e t
structure QIf (X : Cx) (e : List Expr) (t : TT) : Prop where
  h : PIf X e t
structure QO (X : Cx) (e : Option Expr) (t : TO) : Prop where
  h : PO X e t
structure QI (X : Cx) (tg iter : Expr) (t : TI) : Prop where
  h : PI X tg iter t
theorem QW.pt {X : Cx} {e : Expr} {t : TT} (k : QW X e t) : QT X e t := ⟨k.h.pt⟩
theorem QSs.nox {X : Cx} {e : List Stmt} {t : TS} (k : QSs X.nox e t) : QSs X e t := ⟨k.h.nox⟩
theorem qe_int {i j pos} : QE X (.Constant (.int i) j pos) (tC (.int i)) := ⟨pe_int ⟩
theorem qe_bl {b j pos} : QE X (.Constant (.bool b) j pos) (tC (.bl b)) := ⟨pe_bl ⟩
theorem qe_non {j pos} : QE X (.Constant .none j pos) (tC .non) := ⟨pe_non ⟩
theorem qe_str {x j pos} : QE X (.Constant (.str x) j pos) (tC (.str x)) := ⟨pe_str ⟩
theorem qe_glob {x : Str} {v : V} {u : Value} {pos : Pos} (hg : Gl X x) (hm : X.mg x = some u) (r : RelV v u) (hd : (x == ("__debug__" : Str)) = false := by decide) : QE X (.Name x pos) (tC v) := ⟨pe_glob (hg) (hm) (r) (hd)⟩
theorem qe_bltn {x : Str} {v : V} {u : Value} {pos : Pos} (hg : Gl X x) (hm : X.mg x = none) (hv : bootBuiltins x = some u) (r : RelV v u) (hn : x ≠ "__name__" := by decide) (hd : (x == ("__debug__" : Str)) = false := by decide) : QE X (.Name x pos) (tC v) := ⟨pe_bltn (hg) (hm) (hv) (r) (hn) (hd)⟩
theorem qt_val {e : Expr} {t : TE} (h : QE X e t) (he : ∀ whole, isTrue e X.env whole = (do let v ← whole; standAt e.pos; holding [v] (truthy v)) := by intro _; rfl) : QT X e (tB t) := ⟨pt_val h.h (he)⟩
theorem qw_and1 (ha : QT X a tA) : QW X (.BoolOp .And [a] pos) tA := ⟨pw_and1 ha.h⟩
theorem qw_or1 (ha : QT X a tA) : QW X (.BoolOp .Or [a] pos) tA := ⟨pw_or1 ha.h⟩
theorem qw_and (ha : QT X a tA) (hb : QW X (.BoolOp .And (b :: restq) pos) tB') : QW X (.BoolOp .And (a :: b :: restq) pos) (tAnd tA tB') := ⟨pw_and ha.h hb.h⟩
theorem qw_or (ha : QT X a tA) (hb : QW X (.BoolOp .Or (b :: restq) pos) tB') : QW X (.BoolOp .Or (a :: b :: restq) pos) (tOr tA tB') := ⟨pw_or ha.h hb.h⟩
theorem qt_not (ha : QT X a tA) : QT X (.UnaryOp .Not a pos) (tNot tA) := ⟨pt_not ha.h⟩
theorem qe_one {op} {t : TE} (h : QE X a t) : QE X (.BoolOp op [a] pos) t := ⟨pe_one h.h⟩
theorem qe_and (ha : QE X a ta) (hb : QE X (.BoolOp .And (b :: restq) pos) tb) : QE X (.BoolOp .And (a :: b :: restq) pos) (tAndV ta tb) := ⟨pe_and ha.h hb.h⟩
theorem qe_or (ha : QE X a ta) (hb : QE X (.BoolOp .Or (b :: restq) pos) tb) : QE X (.BoolOp .Or (a :: b :: restq) pos) (tOrV ta tb) := ⟨pe_or ha.h hb.h⟩
theorem qe_not (ha : QE X a ta) : QE X (.UnaryOp .Not a pos) (tNotV ta) := ⟨pe_not ha.h⟩
theorem qss_nil  : QSs X [] tNext := ⟨pss_nil ⟩
theorem qss_cons (h1 : QS X stq t) (h2 : QSs X restq u) : QSs X (stq :: restq) (tSeq t u) := ⟨pss_cons h1.h h2.h⟩
theorem qss_one (h1 : QS X stq t) : QSs X [stq] t := ⟨pss_one h1.h⟩
theorem qs_expr (he : QE X e te) (hs : swapsWith e none pos.line X.env = pure false := by rfl) : QS X (.Expr e pos) (tDrop te) := ⟨ps_expr he.h (hs)⟩
theorem qs_ret (he : QE X e te) : QS X (.Return (some e) pos) (tRet te) := ⟨ps_ret he.h⟩
theorem qs_if {c : Expr} {a b : List Stmt} {tc : TT} (hc : QT X c tc) (ha : QSs X a t) (hb : QSs X b u) : QS X (.If c a b pos) (tIfS tc t u) := ⟨ps_if hc.h ha.h hb.h⟩
theorem qg_name {i : Nat} {x : Str} (hN : X.N.Nodup) (hiq : X.N[i]? = some x) (hx : Loc X.env.scope x) (hf : X.fn x = true ∨ X.env.scope.names.lookup x = some .local := by first | exact .inl rfl | exact .inr rfl | assumption) : QG X (.Name x pos) (gName i) := ⟨pg_name (hN) (hiq) (hx) (hf)⟩
theorem qgs_nil  : QGs X [] gNil := ⟨pgs_nil ⟩
theorem qgs_cons {e : Expr} {es : List Expr} {t : TG} {u : TGs} (h1 : QG X e t) (h2 : QGs X es u) (hs : (assignEach (e :: es) X.env).map (·.2) = assign e X.env :: (assignEach es X.env).map (·.2) := by rfl) : QGs X (e :: es) (gCons t u) := ⟨pgs_cons h1.h h2.h (hs)⟩
theorem qg_tup {es : List Expr} {k : Nat} {t : TGs} {n : Nat} (hc : X.calm = true) (h : QGs X es t) (hn : (assignEach es X.env).length = n := by rfl) (hst : (assignEach es X.env).findIdx? (·.1) = none := by rfl) : QG X (.Tuple es k pos) (gTup X.K n t) := ⟨pg_tup (hc) h.h (hn) (hst)⟩
theorem qg_sub {o i : Expr} {to ti : TE} {t : TSet} (ho : QE X o to) (hiq : QE X i ti) (hs : PSet X t) (ha : ∀ v, assign (.Subscript o i pos) X.env v = (do
      let ov ← holding [v] (eval o X.env)
      let iv ← holding [v, ov] (eval i X.env)
      standAt pos
      holding [v, ov, iv] (setItem ov iv v)
      release [v, ov, iv] []) := by intro _; rfl) : QG X (.Subscript o i pos) (gSub to ti t) := ⟨pg_sub ho.h hiq.h (hs) (ha)⟩
theorem qs_asg {tg e : Expr} {te : TE} {g : TG} (he : QE X e te) (hg : QG X tg g) (hs : swapsWithSole [tg] e pos.line X.env = pure false := by rfl) (hw : swappedStores [tg] e X.env = pure none := by rfl) (h1 : (assignEach [tg] X.env).map (·.2) = [assign tg X.env] := by rfl) : QS X (.Assign [tg] e pos) (tAsg te g) := ⟨ps_asg he.h hg.h (hs) (hw) (h1)⟩
theorem qs_set {i : Nat} {x : Str} {e : Expr} {te : TE} {pos' : Pos} (hN : X.N.Nodup) (hiq : X.N[i]? = some x) (hx : Loc X.env.scope x) (he : QE X e te) (hs : swapsWith e (some (.Name x pos')) pos.line X.env = pure false := by rfl) (hf : X.fn x = true ∨ X.env.scope.names.lookup x = some .local := by first | exact .inl rfl | exact .inr rfl | assumption) : QS X (.Assign [.Name x pos'] e pos) (tAsg te (gName i)) := ⟨ps_set (hN) (hiq) (hx) he.h (hs) (hf)⟩
theorem qi_list {l : Expr} {tl : TE} (hl : QE X l tl) : QI X tg l (iList X.K tl) := ⟨pi_list hl.h⟩
theorem qi_range1 {a : Expr} {ta : TA} {p pos : Pos} (hg : Gl X "range") (hm : X.mg "range" = none) (ha : QA X [a] ta) (hs : starEach [a] X.env = [(false, eval a X.env)] := by rfl) : QI X tg (.Call (.Name "range" p) [a] [] pos) (iRng1 ta) := ⟨pi_range1 (hg) (hm) ha.h (hs)⟩
theorem qs_for {iter : Expr} {body : List Stmt} {wi : TI} {g : TG} {tb : TS} {pos : Pos} (hp : PassesOwn (model X.prog X.w) X.A X.env X.xe) (hc : X.calm = true) (hiq : QI X tg iter wi) (hg : QG X tg g) (hb : QSs X body tb) (hs : ∀ x, foldedSetIterable iter X.env x = pure x := by intro _; rfl) : QS X (.For tg iter body [] pos) (tFor wi g tb) := ⟨ps_for (hp) (hc) hiq.h hg.h hb.h (hs)⟩
theorem qe_op {op : Operator} {r : R2} (ho : OpR X (binaryOp op) r) (ha : QE X a ta) (hb : QE X b tb) : QE X (.BinOp a op b pos) (tOp r ta tb) := ⟨pe_op (ho) ha.h hb.h⟩
theorem qe_un {op : UnaryOp} {r : V → Hp → VK → Prop} (ho : UnR X (unaryOp op) r) (ha : QE X a ta) : QE X (.UnaryOp op a pos) (tUn r ta) := ⟨pe_un (ho) ha.h⟩
theorem qe_cmpR {op : CmpOp} {r : R2} (ho : OpR X (compareOp op) r) (ha : QE X a ta) (hb : QE X b tb) (hm : behindInMarks op b = false) : QE X (.Compare a [op] [b] pos) (tOp r ta tb) := ⟨pe_cmpR (ho) ha.h hb.h (hm)⟩
theorem qt_cmpR {op : CmpOp} {r : R2} (ho : OpR X (compareOp op) r) (ha : QE X a ta) (hb : QE X b tb) (hm : behindInMarks op b = false) : QT X (.Compare a [op] [b] pos) (tTest (tOp r ta tb)) := ⟨pt_cmpR (ho) ha.h hb.h (hm)⟩
theorem qe_chain {op op' : CmpOp} {r r' : R2} (ho : OpR X (compareOp op) r) (ho' : OpR X (compareOp op') r') (ha : QE X a ta) (hb : QE X b tb) (hc : QE X c tc) (hm : lastMarks [op, op'] [b, c] = false := by with_unfolding_all rfl) : QE X (.Compare a [op, op'] [b, c] pos) (tChain r r' ta tb tc) := ⟨pe_chain (ho) (ho') ha.h hb.h hc.h (hm)⟩
theorem qt_chain {op op' : CmpOp} {r r' : R2} (ho : OpR X (compareOp op) r) (ho' : OpR X (compareOp op') r') (ha : QE X a ta) (hb : QE X b tb) (hc : QE X c tc) (hm : lastMarks [op, op'] [b, c] = false := by with_unfolding_all rfl) : QT X (.Compare a [op, op'] [b, c] pos) (tTest (tChain r r' ta tb tc)) := ⟨pt_chain (ho) (ho') ha.h hb.h hc.h (hm)⟩
theorem qa_nil  : QA X [] tNil := ⟨pa_nil ⟩
theorem qe_tup {x1} (h : QA X es t) : QE X (.Tuple es x1 pos) (tTup t) := ⟨pe_tup h.h⟩
theorem qe_lst (h : QA X es t) : QE X (.List es pos) (tLst t) := ⟨pe_lst h.h⟩
theorem qe_callB (hc : CallR X (.builtin idq) r) (hg : Gl X x) (hm : X.mg x = none) (hv : bootBuiltins x = some (.builtin idq)) (ha : QA X (e :: es) t) (hn : x ≠ "__name__" := by decide) (hdb : (x == ("__debug__" : Str)) = false := by decide) (he : starEach (e :: es) X.env = (false, eval e X.env) :: starEach es X.env := by rfl) (hpl : (backTo pos (starEach es X.env)).any (·.1) = false := by rfl) : QE X (.Call (.Name x p) (e :: es) [] pos) (tCB r t) := ⟨pe_callB (hc) (hg) (hm) (hv) ha.h (hn) (hdb) (he) (hpl)⟩
theorem qe_callTy (hc : CallR X (.type T) r) (hg : Gl X x) (hm : X.mg x = none) (hv : bootBuiltins x = some (.type T)) (ha : QA X (e :: es) t) (hn : x ≠ "__name__" := by decide) (hdb : (x == ("__debug__" : Str)) = false := by decide) (he : starEach (e :: es) X.env = (false, eval e X.env) :: starEach es X.env := by rfl) (hpl : (backTo pos (starEach es X.env)).any (·.1) = false := by rfl) : QE X (.Call (.Name x p) (e :: es) [] pos) (tCB r t) := ⟨pe_callTy (hc) (hg) (hm) (hv) ha.h (hn) (hdb) (he) (hpl)⟩
theorem qo_none  : QO X none tNoPart := ⟨po_none ⟩
theorem qo_some (h : QE X e te) : QO X (some e) (tPart te) := ⟨po_some h.h⟩
theorem qe_slice {r : V → Option Int → Option Int → Hp → VK → Prop} (hr : SlR X r) (he : QE X e te) (hl : QO X loq tl) (hu : QO X hiq th) : QE X (.Subscript e (.Slice loq hiq none p2) pos) (tSl r te tl th) := ⟨pe_slice (hr) he.h hl.h hu.h⟩
theorem qe_ix {r : R2} (hr : IxR X r) (ha : QE X a ta) (hb : QE X b tb) (hs : PlainIx b) : QE X (.Subscript a b pos) (tOp r ta tb) := ⟨pe_ix (hr) ha.h hb.h (hs)⟩
theorem qe_bm (pa : PlainAttrs T) (slot : Slot T nameq idq) (hty : typeOf (.builtin idq) = pure (.type "method_descriptor")) (hm : MtR X idq r) (ho : QE X o to) (ha : QA X (e :: es) t) (hbase : attributeBase o nameq X.env (eval o X.env) = eval o X.env := by rfl) (hfew : ((backTo cpos (starEach (e :: es) X.env)).all (fun x => !x.1) && (backToKw cpos (keywordEach [] X.env)).all (fun x => x.1.isSome)
      && decide ((e :: es).length + ([] : List Keyword).length + (if ([] : List Keyword).isEmpty then 0 else 1) < 30)) = true := by rfl) (hline : (apos.endLine == cpos.line) = true := by rfl) (hs : starEach (e :: es) X.env = (false, eval e X.env) :: starEach es X.env := by rfl) (hplain : (backTo cpos (starEach es X.env)).any (·.1) = false := by rfl) : QE X (.Call (.Attribute o nameq apos) (e :: es) [] cpos) (tBM X.K T r to t) := ⟨pe_bm (pa) (slot) (hty) (hm) ho.h ha.h (hbase) (hfew) (hline) (hs) (hplain)⟩
theorem qv (i : Nat) {x : Str} {pos : Pos} (hN : X.N[i]? = some x := by rfl) (hv : Vis X.env.scope x := by first | exact Or.inl rfl | exact Or.inr (Or.inl rfl) | exact Or.inr (Or.inr rfl)) (hd : (x == ("__debug__" : Str)) = false := by decide) (hcd : (x == ("__classdict__" : Str)) = false := by decide) : QE X (.Name x pos) (tVar i) := ⟨pv (i) (hN) (hv) (hd) (hcd)⟩
theorem qe_dnewK {X : Cx} {pos : Pos} : QE X (.Dict [] [] pos) tDNewK := ⟨pe_dnewK ⟩
theorem qf_nil {X : Cx} : QF X [] (fun out _ H Q => Q out H) := ⟨pf_nil ⟩
theorem qf_cons {X : Cx} {e : Expr} {es : List Expr} {te : TE} {tr : TF} (he : QE X e te) (hr : QF X es tr) : QF X (e :: es) (fun out σ H Q => te σ H fun v H1 => ∃ y, v = .str y ∧ (out ++ y).length ≤ sizeLine ∧ tr (out ++ y) σ H1 Q) := ⟨pf_cons he.h hr.h⟩
theorem qe_fstr {X : Cx} {e1 e2 : Expr} {es : List Expr} {pos : Pos} {t : TF} (h : QF X (e1 :: e2 :: es) t) : QE X (.JoinedStr (e1 :: e2 :: es) pos) (fun σ H Q => t Str.empty σ H fun z H1 => z.length ≤ sizeLine ∧ Q (.str z) H1) := ⟨pe_fstr h.h⟩
theorem qif_nil {X : Cx} : QIf X [] tYes := ⟨pif_nil ⟩
theorem qe_callP {X : Cx} {CX : CXT} {k : Nat} {x : Str} {ps : List Str} {sp : Sp} {E : XK} {p pos : Pos} {e : Expr} {es : List Expr} {t : TA} (h : Pm X.prog X.w X.K X.mg X.base CX k x ps sp) (hr : Room k X.A) (hg : Gl X x) (hx : Passes CX X E) (ha : QA X (e :: es) t) (hdb : (x == ("__debug__" : Str)) = false := by decide) (he : starEach (e :: es) X.env = (false, eval e X.env) :: starEach es X.env := by rfl) (hpl : (backTo pos (starEach es X.env)).any (·.1) = false := by rfl) : QE X (.Call (.Name x p) (e :: es) [] pos) (tCall sp [] E t) := ⟨pe_callP (h) (hr) (hg) (hx) ha.h (hdb) (he) (hpl)⟩
/-- an argument, by a test that is small -/
def notStar : Expr → Bool
  | .Starred .. => false
  | _ => true
theorem starEach_cons {e : Expr} {es : List Expr} {env : Env} (h : notStar e = true) : starEach (e :: es) env = (false, eval e env) :: starEach es env := by
  cases e <;> first | rfl | cases h
theorem qac {X : Cx} {e : Expr} {es : List Expr} {te : TE} {t : TA} (ha : QE X e te) (hr : QA X es t) (hs : notStar e = true := by rfl) : QA X (e :: es) (tCons te t) := ⟨pa_cons ha.h hr.h (starEach_cons hs)⟩
theorem qe_comp {X : Cx} {elt tg iter : Expr} {ifs : List Expr} {scope : Scope} {pos : Pos} {N : List Str} {src : List (Option Nat)} {wi : TI} {g : TG} {tc : TT} {te : TE} (hc : X.calm = true) (S : CompScope X scope N src) (hi : QI X tg iter wi)
    (hg : ∀ s H cl C fp, QG (cxC X s H scope cl C N fp) tg g) (hf : ∀ s H cl C fp, QIf (cxC X s H scope cl C N fp) ifs tc) (he : ∀ s H cl C fp, QE (cxC X s H scope cl C N fp) elt te)
    (hs : ∀ x, foldedSetIterable iter X.env x = pure x := by intro _; rfl) : QE X (.ListComp elt [⟨tg, iter, ifs, 0⟩] scope pos) (tComp src wi g tc te) :=
  ⟨pe_comp hc S hi.h (fun s H cl C fp => (hg s H cl C fp).h) (fun s H cl C fp => (hf s H cl C fp).h) (fun s H cl C fp => (he s H cl C fp).h) hs⟩
theorem qs_setComp {X : Cx} {elt tg iter : Expr} {ifs : List Expr} {scope : Scope} {pos spos pos' : Pos} {x : Str} {i : Nat} {N : List Str} {src : List (Option Nat)} {wi : TI} {g : TG} {tc : TT} {te : TE} (hc : X.calm = true) (S : CompScope X scope N src) (hi : QI X tg iter wi)
    (hg : ∀ s H cl C fp, QG (cxC X s H scope cl C N fp) tg g) (hf : ∀ s H cl C fp, QIf (cxC X s H scope cl C N fp) ifs tc) (he : ∀ s H cl C fp, QE (cxC X s H scope cl C N fp) elt te) (ht : QG X (.Name x pos') (gName i))
    (hsw : swapsWith (.ListComp elt [⟨tg, iter, ifs, 0⟩] scope pos) (some (.Name x pos')) spos.line X.env = pure true := by rfl)
    (hs : ∀ x, foldedSetIterable iter X.env x = pure x := by intro _; rfl) : QS X (.Assign [.Name x pos'] (.ListComp elt [⟨tg, iter, ifs, 0⟩] scope pos) spos) (tAsg (tComp src wi g tc te) (gName i)) :=
  ⟨ps_setComp hc S hi.h (fun s H cl C fp => (hg s H cl C fp).h) (fun s H cl C fp => (hf s H cl C fp).h) (fun s H cl C fp => (he s H cl C fp).h) ht.h hsw hs⟩
/-! ### defs -/
section
variable {P : Program} {w : World} {K : PySem.W.Frag} {mg : Str → Option Value} {base : Heap} {x qual : Str} {st : Stmt} {f : Addr} {fd : FuncData} {N ps : List Str} {k : Nat} {sp : Sp}
theorem Fun.okQ (F : Fun K x qual st f fd) (S : FnScope N ps (defScope st)) (len : ∀ vs H Q E, sp vs H Q E → vs.length = ps.length)
    (hbody : ∀ (cdv : Value) (A : Around) (outer : List Env) (s : Shared) (H : Hp) (vs : List V) (Q : VK) (E : XK), Room k (A.deeper (envOfC qual (defScope st) s.heap.objs.size f cdv)) → sp vs H Q E →
      ∃ t, QSs (cxOf CX0 P w K mg base N qual (defScope st) f cdv A outer s H E).nox (defBody st) t ∧ t { nx := fun _ H' => Q .non H', rt := Q } (start N vs) H) : FnOk P w K mg base CX0 (k + 1) f fd ps sp :=
  F.ok S len fun cdv A outer s H vs Q E hr h => let ⟨t, a, b⟩ := hbody cdv A outer s H vs Q E hr h; ⟨t, a.h, b⟩
end

end L2
/-! EvRange: range with a step. Behind EvQ. -/
namespace L2
open PySem PySem.Spec PyProof.Rows
section
variable {X : Cx} {tg : Expr}
end
end L2
/-! EvMath: the mathematics of primes, by naturals; core alone. -/
namespace EM
/-! ### lists of primes with how often -/
/-! ### plain parts -/
/-! ### roots -/
end EM
/-! EvEuler: Fermat and Euler for a prime, by naturals and ints; core alone. Behind EvMath. -/
namespace EM
/-! ### lists without repeats -/
/-! ### roots of a sum of powers, the highest one once -/
/-! ### Euler -/
/-! ### rests of squares -/
/-! ### powers by squaring -/
/-! ### small primes by looking -/
/-! ### plain parts are told in one way -/
/-! ### what shuts a form -/
/-! ### the plain part by looking -/
/-! ### odd primes by looking -/
end EM
/-! EvBase: what every row of stage 1 shares; no row is named here. Behind EvTry, EvMath. -/
namespace E1
open PySem L2
/-! ### whole numbers by their kinds -/
inductive WholeIs (K : PySem.W.Frag) (H : Hp) : V → Bool → Prop where
  | int (i : Int) : WholeIs K H (.int i) true
  | bl (x : Bool) : WholeIs K H (.bl x) false
  | odd {v : V} {T : String} (ty : TyOf K H v (.type T)) (k : PySem.W.kitOne K (.type T) (.type "int") = some false) : WholeIs K H v false
theorem ty_same {K : PySem.W.Frag} {H H' : Hp} {v : V} {T : String} (s : Same H H') (ty : TyOf K H v (.type T)) : TyOf K H' v (.type T) := by
  cases ty with
  | non => exact .non
  | bl x => exact .bl x
  | int i => exact .int i
  | str x => exact .str x
  | flt x => exact .flt x
  | lst e => exact .lst (s _ _ e)
  | frz e => exact .frz (s _ _ e)
  | tup e => exact .tup (s _ _ e)
  | dK e => exact .dK (s _ _ e)
  | dT e => exact .dT (s _ _ e)
theorem WholeIs.same {K : PySem.W.Frag} {H H' : Hp} {v : V} {b : Bool} (s : Same H H') (h : WholeIs K H v b) : WholeIs K H' v b := by
  cases h with
  | int i => exact .int i
  | bl x => exact .bl x
  | odd ty k => exact .odd (ty_same s ty) k
section
variable (K : PySem.W.Frag)
theorem kit_int_int : PySem.W.kitOne K (.type "int") (.type "int") = some true := by kernel_rfl
theorem kit_int_bool : PySem.W.kitOne K (.type "int") (.type "bool") = some false := by kernel_rfl
theorem kit_bool_int : PySem.W.kitOne K (.type "bool") (.type "int") = some true := by kernel_rfl
theorem kit_bool_bool : PySem.W.kitOne K (.type "bool") (.type "bool") = some true := by kernel_rfl
end
theorem rel_ty {n : String} {K : PySem.W.Frag} {t : Value} {b : Bool} (h : PySem.W.kitOne K t (.type n) = some b) : ∀ u, RelV (.ty n) u → PySem.W.kitOne K t u = some b := fun u r => by
  cases (show u = Value.type n from r)
  exact h
theorem rel_ref {c : Addr} {K : PySem.W.Frag} {t : Value} {b : Bool} (h : PySem.W.kitOne K t (.ref c) = some b) : ∀ u, RelV (.ref c) u → PySem.W.kitOne K t u = some b := fun u r => by
  cases (show u = Value.ref c from r)
  exact h
/-! ### the promises -/
def spWhole (K : PySem.W.Frag) : Sp := fun vs H Q _ => ∃ v b, vs = [v] ∧ WholeIs K H v b ∧ Q (.bl b) H
theorem same_new {q : Addr} {H : Hp} {o : HO} (n : H q = none) : Same H (upd H q o) := fun b u h => by rw [upd_ne (ne_of_none h n)]; exact h
theorem abs_nn (i : Int) : 0 ≤ (if i < 0 then -i else i) := by split <;> omega
theorem cut_ints {ns : List Int} {lo hi : Option Int} : ∀ x ∈ cutV (ns.map V.int) lo hi, ∃ z, x = V.int z := fun x hx => by
  unfold cutV at hx
  obtain ⟨z, _, e⟩ := List.mem_map.mp (List.mem_of_mem_drop (List.mem_of_mem_take hx))
  exact ⟨z, e.symm⟩
/-! ### primes as tuples in a list -/
theorem same_upd {H H' : Hp} {l : Addr} {o : HO} (s : Same H H') (hl : H l = none) : Same H (upd H' l o) := fun b u e => by
  rw [upd_ne (ne_of_none e hl)]
  exact s _ _ e
/-! ### primes as data -/
/-! ### forms -/
/-! ### a law's loop over its cells -/
theorem fn_mk {K : PySem.W.Frag} {x : Str} {st : Stmt} {f : Addr} {oc : Value} {od an : Option Addr} {osl : Array (Option Value)} {kV doc pm cdv ct : Value}
    (a : PySem.W.nsIn K mainGlobals x = some (some (.ref f)))
    (l : K.lookup f = some ⟨oc, od, .func (PySem.W.fnOf x x (defArgs st) (defBody st) (defScope st) .none kV doc pm an cdv ct), osl⟩)
    (c : PySem.W.codeIn K cdv x = true) (k : PySem.W.keepIn K (.ref f) = true) :
    ∃ (f : Addr) (fd : FuncData), PySem.W.nsIn K mainGlobals x = some (some (.ref f)) ∧ Fun K x x st f fd := ⟨f, _, a, fun_mk l c k⟩
def spLaw (K : PySem.W.Frag) : Sp := fun vs H Q _ => ∃ (a : Addr) (ns : List Int), vs = [.ref a] ∧ SqL K H a (ns.map V.int) ∧ ns.length ≤ 63 ∧ ∀ H', Q (.bl true) H'
theorem walk {l : PySem.W.OpenLaw} {q : Program} {loose : List Str} {XP : (Str → Option Value) → Heap → Prop} {YP : World → Heap → Prop} {d : DefRec} {K : Params → PySem.W.Frag} {k : Nat} (hr : Room k PySem.callerA) (hn : l.most = some 63) (hdf : d.params.defaults = [])
    (hY : ∀ (w : World) (h : Heap), YP w h → (K w.params).In h)
    (F : ∀ (w : World) (mg : Str → Option Value) (fa : Addr) (h : Heap), (K w.params).In h → h.Ns mainGlobals mg → mg d.name = some (.ref fa) →
      ∃ fd : FuncData, (∀ (s : Shared) (u : Value), BindsTo s fd ⟨[u], []⟩ [("_law_script", u)]) ∧ ∀ base : Heap, (K w.params).In base → base.Ns mainGlobals mg → FnOk l.prog w (K w.params) mg base CX0 k fa fd ["_law_script"] (spLaw (K w.params))) :
    PySem.W.WalkO q loose XP YP l.row.toRowW d [] (fun f vs => PySem.call f vs) :=
  L2.walk_of (n := 63) (k := k) (x := "_law_script") (CX := fun _ => CX0) (sp := fun w => spLaw (K w.params)) hn (by decide) hdf hr hY F (fun _ _ a ns hl _ hS => ⟨a, ns, rfl, hS, hl, fun _ => rfl⟩) fun _ _ _ _ _ z => z
abbrev At (K : PySem.W.Frag) (x : Str) (st : Stmt) : Prop := ∃ (f : Addr) (fd : FuncData), PySem.W.nsIn K mainGlobals x = some (some (.ref f)) ∧ Fun K x x st f fd

end E1
/-! EvLay: rules for sorted numbers, sets of numbers, lists taken so often, turned about, made of a range. Behind EvRange. -/
namespace L2
open PySem PySem.Spec PyProof.Rows
theorem ints_of_vals {ns : List Int} {us : List Value} (r : Vals (ns.map V.int) us) : IntsAre us ns := intsAre_of r
theorem vals_of_ints : ∀ {ns : List Int} {us : List Value}, IntsAre us ns → Vals (ns.map V.int) us
  | _, _, .nil => .nil
  | _, _, .cons n tk t => .cons ⟨tk, rfl⟩ (vals_of_ints t)
/-- sorted(list of numbers) -/
def rSortI (K : PySem.W.Frag) : List V → Hp → VK → Prop := fun xs H Q => ∃ (a : Addr) (ns : List Int), xs = [.ref a] ∧ SqL K H a (ns.map V.int) ∧ ns.length < 64 ∧ ∀ (l : Addr) (ns' : List Int), H l = none → ns'.Perm ns → ns'.Pairwise (· ≤ ·) → Q (.ref l) (upd H l (.lst (ns'.map V.int)))
theorem call_sortI {X : Cx} : CallR X (.builtin "sorted") (rSortI X.K) := by
  intro pins s σ H xs us Q I r h
  obtain ⟨a, ns, rfl, hq, h64, q⟩ := h
  obtain ⟨u, rfl, rx⟩ := vals1 r
  cases rx
  obtain ⟨its, r', pl, hz⟩ := I.list hq
  have hlen := r'.length
  rw [List.length_map] at hlen
  refine sorted_ints pl.isList (ints_of_vals r') (by omega) fun out ns' a1 a2 a3 => ?_
  obtain ⟨e, he⟩ := sortedAll_at s.heap its out
  have hl2 := a2.length_eq
  refine ⟨.ref (s.heap.objs.size + 1), _, I.laid (t' := s.toks) (o := .lst (ns'.map V.int)) (fun b o => sortedAll_old) (Nat.le_succ _) ?_, rfl, q _ _ (I.hok.fresh (Nat.le_succ _)) a2 a3⟩
  refine ⟨by rw [List.length_map, hl2]; exact Nat.le_trans (Nat.le_of_lt h64) (by decide), out.toList, e, vals_of_ints a1, ?_⟩
  rw [Array.toArray_toList]
  exact he
theorem firstMet_nodup {ns : List Int} (h : ns.Nodup) : ∀ i, i ≤ ns.length → firstMet (fun i => ns.getD i 0) i = ns.take i
  | 0, _ => by rw [firstMet_zero, List.take_zero]
  | i + 1, hi => by
    have hlt : i < ns.length := hi
    have ev : ns.getD i 0 = ns[i] := by simp [hlt]
    rw [firstMet_succ, firstMet_nodup h i (Nat.le_of_lt hlt)]
    show step_dedup (ns.take i) (ns.getD i 0) = _
    rw [ev]
    unfold step_dedup
    rw [if_neg]
    · rw [List.take_add_one, List.getElem?_eq_getElem hlt]
      rfl
    · intro z
      obtain ⟨x, hx, e⟩ := List.any_eq_true.mp z
      have e' : x = ns[i] := by simpa using e
      subst e'
      obtain ⟨j, hj, ej⟩ := List.mem_iff_getElem.mp hx
      rw [List.length_take] at hj
      rw [List.getElem_take] at ej
      have := (List.getElem_inj h).mp ej
      omega
theorem firstMet_len_iff {ns : List Int} : (firstMet (fun i => ns.getD i 0) ns.length).length = ns.length ↔ ns.Nodup := by
  constructor
  · intro h
    have key : ∀ i, i ≤ ns.length → ((firstMet (fun i => ns.getD i 0) i).length = i → (ns.take i).Nodup ∧ firstMet (fun i => ns.getD i 0) i = ns.take i) := by
      intro i
      induction i with
      | zero => intro _ _; exact ⟨by simp, by rw [firstMet_zero, List.take_zero]⟩
      | succ i ih =>
        intro hi hl
        have hlt : i < ns.length := hi
        have ev : ns.getD i 0 = ns[i] := by simp [hlt]
        rw [firstMet_succ] at hl ⊢
        have hle := firstMet_length_le (fun i => ns.getD i 0) i
        unfold step_dedup at hl ⊢
        by_cases z : (firstMet (fun i => ns.getD i 0) i).any (· == (fun i => ns.getD i 0) i) = true
        · rw [if_pos z] at hl
          omega
        · rw [if_neg z] at hl ⊢
          rw [List.length_append, List.length_singleton] at hl
          obtain ⟨h1, h2⟩ := ih (Nat.le_of_lt hlt) (by omega)
          have et : ns.take (i + 1) = ns.take i ++ [ns[i]] := by rw [List.take_add_one, List.getElem?_eq_getElem hlt]; rfl
          rw [et]
          refine ⟨?_, by rw [h2]; show _ ++ [ns.getD i 0] = _; rw [ev]⟩
          rw [List.nodup_append]
          refine ⟨h1, by simp, fun a ha b hb e => z ?_⟩
          rw [List.mem_singleton.mp hb] at e
          rw [List.any_eq_true]
          exact ⟨a, h2 ▸ ha, by show (a == ns.getD i 0) = true; rw [ev, e]; simp⟩
    have := (key ns.length (Nat.le_refl _) h).1
    rwa [List.take_length] at this
  · intro h
    rw [firstMet_nodup h _ (Nat.le_refl _), List.take_length]
theorem call_len_setI {X : Cx} : CallR X (.builtin "len") (fun xs H Q => ∃ (p : Addr) (S : Int → Bool) (n : Nat), xs = [.ref p] ∧ H p = some (.set S n) ∧ Q (.int n) H) := by
  intro pins s σ H xs us Q I r h
  obtain ⟨p, S, n, rfl, hp, q⟩ := h
  obtain ⟨u, rfl, rx⟩ := vals1 r
  cases rx
  obtain ⟨o, es, ep, t, ho, hex, hd, _, _, hb, hf, rfl⟩ := (show s.heap.SetOf (intKind X.prog X.w) p S n from I.hok p _ hp)
  refine call_len_set ho hex hd hf ?_ ⟨.int es.size, H, I.tok _, ⟨_, rfl⟩, q⟩
  have : es.size < 4096 := hb
  omega
/-- list * number -/
def rMulL (K : PySem.W.Frag) : R2 := fun x y H Q => ∃ (a : Addr) (xs : List V) (n : Int), x = .ref a ∧ y = .int n ∧ SqL K H a xs ∧ n < 2 ^ 63 ∧ 0 ≤ n ∧ xs.length * n.toNat ≤ 65536 ∧ ∀ l, H l = none → Q (.ref l) (upd H l (.lst (List.replicate n.toNat xs).flatten))
theorem vals_flat {xs : List V} {us : List Value} (r : Vals xs us) : ∀ n, Vals (List.replicate n xs).flatten (List.replicate n us).flatten
  | 0 => .nil
  | n + 1 => by
    rw [List.replicate_succ, List.replicate_succ, List.flatten_cons, List.flatten_cons]
    exact r.append (vals_flat r n)
theorem op_mulL {X : Cx} : OpR X (binaryOp .Mult) (rMulL X.K) := by
  intro pins s σ H x y v u Q I rx ry h
  obtain ⟨a, xs, n, rfl, rfl, hx, hn, h0, hsz, q⟩ := h
  cases rx
  obtain ⟨tk, rfl⟩ := ry
  obtain ⟨its, r, pl, hz⟩ := I.list hx
  have hlen := r.length
  obtain ⟨⟨oc, od, odt, osl⟩, k, hl, e1, e2, e3⟩ := pl
  dsimp only at e1 e2 e3
  subst e1 e2 e3
  refine wpAny_binaryOp_repeat_ref (T := "list") (U := "int") (by decide) ⟨_, hl, rfl⟩ (fun s' => typeIs_int s' n tk) noFill_list_mul F.fills_int_mul F.slot_int_rmul repeat_list F.slot_int_index.lookup
    (call_meets F.slot_int_rmul (typeIs_int s n tk) F.entry_int_rmul (F.args_int_rmul_2 _ _) (lm_int_rmul_list_any n tk a its.toArray k _ _)
      ⟨hl, rfl, ⟨_, hl, rfl⟩, call_meets F.slot_list_mul ⟨_, hl, rfl⟩ F.entry_list_mul (F.args_list_mul_2 _ _)
        (lm_list_mul_any a its.toArray k _ _ n tk (by simp [Builtin.List.listFitsIndex]; omega) (by rw [List.size_toArray, ← hlen]; omega) (by rw [List.size_toArray, ← hlen]; simp [Builtin.List.listTooLong, sizeLine]; omega))
        ⟨hl, ?_⟩⟩)
  rw [listMul_foldl_if, List.toList_toArray]
  refine ⟨.ref s.heap.objs.size, _, I.laid (t' := s.toks) (o := .lst (List.replicate n.toNat xs).flatten) (fun b ob q => Heap.get?_push_of_some _ q) (Nat.le_refl _) ?_, rfl, q _ (I.hok.fresh (Nat.le_refl _))⟩
  refine ⟨?_, (List.replicate n.toNat its).flatten, 0, vals_flat r _, Heap.get?_push_size _ rfl⟩
  rw [List.length_flatten, List.map_replicate, List.sum_replicate_nat, Nat.mul_comm]
  exact Nat.le_trans hsz (by decide)
/-- a[::-1] -/
def rRev (K : PySem.W.Frag) : V → Hp → VK → Prop := fun x H Q => ∃ (a : Addr) (xs : List V), x = .ref a ∧ SqL K H a xs ∧ ∀ l, H l = none → Q (.ref l) (upd H l (.lst xs.reverse))
def tRev (K : PySem.W.Frag) (te : TE) : TE := fun σ H Q => te σ H fun x H1 => rRev K x H1 Q
theorem vals_rev : ∀ {xs : List V} {us : List Value}, Vals xs us → Vals xs.reverse us.reverse
  | _, _, .nil => .nil
  | _, _, .cons h t => by
    rw [List.reverse_cons, List.reverse_cons]
    exact (vals_rev t).append (.cons h .nil)
theorem pe_rev {X : Cx} {e : Expr} {te : TE} {j : Nat} {p1 p2 p3 pos : Pos} (he : PE X e te) : PE X (.Subscript e (.Slice none none (some (.UnaryOp .USub (.Constant (.int 1) j p1) p2)) p3) pos) (tRev X.K te) := by
  intro pins s σ H Q I h
  refine Subscript_ (thn (he pins s σ H _ I h) fun v s1 ⟨x, H1, I1, r1, q1⟩ => ?_)
  obtain ⟨a, xs, rfl, hx, q⟩ := q1
  cases r1
  refine wpAny_Slice ?_
  rw [evalPart_none]
  refine wpAny_pure ?_
  refine wpAny_pure ?_
  rw [evalPart_some]
  refine thn (pe_un un_neg pe_int pins s1 σ H1 (fun x H' => x = .int (-1) ∧ H' = H1) I1 ⟨1, rfl, rfl, rfl⟩) fun vk s3 ⟨x3, H3, I3, r3, e3, e4⟩ => ?_
  subst e3 e4
  obtain ⟨tk, rfl⟩ := r3
  have I4 : Inv X pins σ H3 { s3 with heap := s3.heap.push { cls := .type "slice", data := .fields #[.none, .none, .int (-1) tk] } } := I3.kept (t' := s3.toks) fun b ob q => Heap.get?_push_of_some _ q
  obtain ⟨its, r, ht, hz⟩ := I4.list hx
  have hlen := r.length
  show wpAny (model X.prog X.w) X.A (subscriptTail e (.Slice none none (some (.UnaryOp .USub (.Constant (.int 1) j p1) p2)) p3) (.ref a) (.ref s3.heap.objs.size)) (EP X pins σ Q) X.xe { s3 with heap := s3.heap.push { cls := .type "slice", data := .fields #[.none, .none, .int (-1) tk] } }
  refine tail_any (ops := [.ref a, .ref s3.heap.objs.size]) ht.isList.typeIs slot_list_getitem.lookup ?_ (by with_unfolding_all rfl)
  refine wpAny_getItem_list_slice ht.isList (Heap.IsSliceOf.new ..) .none .none (.int (-1) tk) (by simp) ?_ (by rw [List.size_toArray] <;> omega)
  rw [PySem.W.krv_pick, List.toList_toArray]
  exact ⟨.ref _, _, I4.laid (t' := s3.toks) (o := .lst xs.reverse) (fun b ob q => Heap.get?_push_of_some _ q) (Nat.le_refl _) ⟨by rw [List.length_reverse]; exact hz, its.reverse, 0, vals_rev r, Heap.get?_push_size _ rfl⟩, rfl, q _ (I4.hok.fresh (Nat.le_refl _))⟩
theorem qe_rev {X : Cx} {e : Expr} {te : TE} {j : Nat} {p1 p2 p3 pos : Pos} (he : QE X e te) : QE X (.Subscript e (.Slice none none (some (.UnaryOp .USub (.Constant (.int 1) j p1) p2)) p3) pos) (tRev X.K te) := ⟨pe_rev he.h⟩
/-! ### enumerate(list) -/
theorem Inv.turnedL {X : Cx} {pins : List (Addr × Obj)} {σ : St} {H : Hp} {s : Shared} {h' : Heap} {t' : Nat} {wr : List Addr} (I : Inv X pins σ H s) (k : ∀ b o, b ∉ wr → s.heap.get? b = some o → h'.get? b = some o) (hf : ∀ b ∈ wr, FpOk X pins H b) : Inv X pins σ H { s with heap := h', toks := t' } := by
  have nit : ∀ b u, H b = some u → b ∉ wr := fun b u e z => by rw [(hf b z).1] at e; cases e
  refine I.step (g' := s.gens) (d' := s.drawn) (ch := wr) (fun b hb => ?_) (fun b o _ _ hc e _ => k b o hc e) (fun b o _ _ hc e _ => ⟨o.slots, k b o hc e⟩) (fun _ _ _ _ n => n) (fun b o hc e => ⟨o, k b o hc e⟩) (fun _ _ e => e) (fun _ _ _ e => e) (fun b ps e => ⟨#[], by rw [e]; simp⟩) (fun m hm => ?_) (fun b u e => ?_) I.bare
  · obtain ⟨_, f1, _, f3, f4, f5⟩ := hf b hb
    exact ⟨f3, f1, f4, f5⟩
  · obtain ⟨o, es, ep, ho, r⟩ := hm
    exact ⟨o, es, ep, k _ o (fun z => (hf _ z).2.1 rfl) ho, r⟩
  · refine (I.hok b u e).stay (fun c v hc q => k c v ?_ q) (fun _ q => q) fun _ _ q => q
    rcases hc with z | z
    · exact z ▸ nit b u e
    · exact nit c _ z
/-- the pairs (number, item) of a list -/
def Ite (K : PySem.W.Frag) (a : Addr) : It :=
  ⟨fun i H => ∃ xs x, SqL K H a xs ∧ xs[i]? = some x, fun i H v H' => ∃ T x, (∀ xs, SqL K H a xs → xs[i]? = some x) ∧ H T = none ∧ v = .ref T ∧ H' = upd H T (.tup [.int (i : Nat), x]), fun i H => ∃ xs, SqL K H a xs ∧ xs.length ≤ i⟩
theorem Inv.tracked {X : Cx} {pins : List (Addr × Obj)} {σ : St} {H : Hp} {s s' : Shared} {T : Addr} {o : HO} (I0 : Inv X pins σ H s) (I : Inv X pins σ H s') (hT : s.heap.objs.size ≤ T) (new : ObjOk X.prog X.w (upd H T o) s'.heap T o) : Inv X pins σ (upd H T o) s' := by
  obtain ⟨f0, f1, f2, f3, f4, f5⟩ := I0.fpOk (H' := H) hT (I0.hok.fresh hT)
  refine I.track f0 ?_ f1 f4 f5 new
  cases e : X.s₀.heap.get? T with
  | none => rfl
  | some ob => exact absurd (Nat.lt_of_lt_of_le (Heap.lt_size e) (Nat.le_trans I0.sz hT)) (Nat.lt_irrefl _)
theorem turn_enum {P : Program} {w : World} {K : PySem.W.Frag} {elts : List Expr} {k : Nat} {tp : Pos} (l e it : Addr) (hei : e ≠ it) : Turn P w K (.Tuple elts k tp) (Ite K l) [e, it] e (fun i h => (∃ old, IsEnum h e it ((i : Nat) : Int) old) ∧ h.IsListIter it l i) where
  mem := by simp
  obj := fun i h st b hb => by
    obtain ⟨⟨old, he⟩, o, ho, hc, hd⟩ := st
    simp only [List.mem_cons, List.not_mem_nil, or_false] at hb
    rcases hb with rfl | rfl
    · exact ⟨_, he, fun v z => by cases z⟩
    · exact ⟨o, ho, fun v z => by rw [hd] at z; cases z⟩
  keep := fun i h h' st kp => ⟨⟨_, kp e (by simp) _ st.1.choose_spec⟩, st.2.at fun o q => kp it (by simp) o q⟩
  item := by
    intro X hP hw hK hc i pins s σ H E I hf st hg
    subst hP hw hK
    obtain ⟨xs, x, hq, hx⟩ := hg
    obtain ⟨its, rv, p, hz⟩ := I.list hq
    obtain ⟨u, hu, ru⟩ := rv.get hx
    obtain ⟨⟨old, he⟩, hit⟩ := st
    have hlt : ∀ b ∈ [e, it], b ≠ s.heap.objs.size := fun b hb z => by
      simp only [List.mem_cons, List.not_mem_nil, or_false] at hb
      rcases hb with rfl | rfl
      · exact absurd (z ▸ Heap.lt_size he) (Nat.lt_irrefl _)
      · obtain ⟨_, ho, _⟩ := hit
        exact absurd (z ▸ Heap.lt_size ho) (Nat.lt_irrefl _)
    have fr : H s.heap.objs.size = none := I.hok.fresh (Nat.le_refl _)
    refine wpAny_pyNext_enum_item he hit p.isList (x := u) (by simpa using hu) hei fun h' ho hit' hT hsz hk => ?_
    have I1 : Inv X pins σ H { s with heap := h', toks := s.toks + 1 } := I.turnedL (wr := [e, it]) (fun b o hb q => hk b o (fun z => hb (by simp [z])) (fun z => hb (by simp [z])) q) hf
    have I2 : Inv X pins σ (upd H s.heap.objs.size (.tup [.int (i : Nat), x])) { s with heap := h', toks := s.toks + 1 } := I.tracked I1 (Nat.le_refl _) ⟨by show 2 ≤ sizeLine; decide, [.int i s.toks, u], .cons ⟨_, rfl⟩ (.cons ru .nil), ⟨_, hT, rfl, _, rfl⟩⟩
    have hf2 : ∀ b ∈ [e, it], FpOk X pins (upd H s.heap.objs.size (.tup [.int (i : Nat), x])) b := fun b hb => by
      obtain ⟨f0, f1, f2, f3, f4, f5⟩ := hf b hb
      exact ⟨by rw [upd_ne (hlt b hb)]; exact f0, f1, f2, f3, f4, f5⟩
    refine ⟨_, rfl, wpAny_letOwnedTupleGo_enum ho fun h'' he' hs' => ?_⟩
    refine ⟨.ref s.heap.objs.size, _, I2.turnedL (wr := [e]) (t' := s.toks + 1) (fun b o hb q => (hs'.2 b (fun z => hb (by simp [z]))).trans q) (fun b hb => hf2 b (by rw [List.mem_singleton.mp hb]; simp)), rfl, ⟨_, x, fun ys hy => by rw [I.list_inj hy hq]; exact hx, fr, rfl, rfl⟩, ⟨⟨_, by simpa using he'⟩, hit'.at fun o q => (hs'.2 it hei.symm).trans q⟩, fun b hb => (hf2 b hb).1⟩
  done := by
    intro X hP hw hK hc i pins s σ H E I hf st hg
    subst hP hw hK
    obtain ⟨xs, hq, hx⟩ := hg
    obtain ⟨its, rv, p, hz⟩ := I.list hq
    have hl := rv.length
    obtain ⟨⟨old, he⟩, hit⟩ := st
    exact wpAny_pyNext_enum_end (I.ok.hd hc) he hit p.isList (by simp; omega) fun h' eb => ⟨rfl, I.turnedL (wr := [it]) (t' := s.toks) (fun b o hb q => eb b o (fun z => hb (by simp [z])) q) (fun b hb => hf b (by rw [List.mem_singleton.mp hb]; simp))⟩
  self := fun _ _ _ _ _ st h => wpAny_pyIter_enum st.1.choose_spec h
section
variable {X : Cx} {elts : List Expr} {k : Nat} {tp : Pos}
def iEnum (K : PySem.W.Frag) (ta : TA) : TI := fun σ H R => ta σ H fun vs H1 => ∃ a, vs = [.ref a] ∧ (∃ xs, SqL K H1 a xs) ∧ R (Ite K a) H1
theorem pi_enum {a : Expr} {ta : TA} {p pos : Pos} (hg : Gl X "enumerate") (hm : X.mg "enumerate" = none) (ha : PA X [a] ta) (hs : starEach [a] X.env = [(false, eval a X.env)] := by rfl) : PI X (.Tuple elts k tp) (.Call (.Name "enumerate" p) [a] [] pos) (iEnum X.K ta) := by
  intro pins s σ H R I h
  refine Call_ (ld_blt I hg hm (show bootBuiltins "enumerate" = some (.type "enumerate") by decide +kernel) (PyProof.Rows.callWith_type1 (thn (ha pos pins s σ H _ I h) fun us s1 ⟨vs, H1, I1, r1, q1⟩ => ?_) (by rw [hs]; rfl) (by rfl)))
  obtain ⟨a, e, ⟨xs, hq⟩, q⟩ := q1
  subst e
  obtain ⟨u, rfl, rx⟩ := vals1 r1
  cases rx
  obtain ⟨its, rv, pl, hz⟩ := I1.list hq
  refine call_enumerate_list pl.isList fun h' he hit hsz kp => ?_
  have I2 : Inv X pins σ H1 { s1 with heap := h' } := I1.kept (t' := s1.toks) kp
  refine wpAny_pyIter_enum he ?_
  refine ⟨s1.heap.objs.size + 1, [s1.heap.objs.size + 1, s1.heap.objs.size], _, _, H1, rfl, I2, turn_enum a _ _ (Nat.succ_ne_self _), ⟨⟨_, he⟩, hit⟩, fun b hb => ?_, q⟩
  simp only [List.mem_cons, List.not_mem_nil, or_false] at hb
  rcases hb with rfl | rfl
  · exact I1.fpOk (Nat.le_succ _) (I1.hok.fresh (Nat.le_succ _))
  · exact I1.fpOk (Nat.le_refl _) (I1.hok.fresh (Nat.le_refl _))
theorem qi_enum {a : Expr} {ta : TA} {p pos : Pos} (hg : Gl X "enumerate") (hm : X.mg "enumerate" = none) (ha : QA X [a] ta) (hs : starEach [a] X.env = [(false, eval a X.env)] := by rfl) : QI X (.Tuple elts k tp) (.Call (.Name "enumerate" p) [a] [] pos) (iEnum X.K ta) := ⟨pi_enum hg hm ha.h hs⟩
end
theorem for_enum {K : PySem.W.Frag} {a : Addr} {xs : List V} {g : TG} {tb : TS} {D : Ends} {σ : St} {H : Hp} (Pv : Nat → St → Hp → Prop) (h0 : Pv 0 σ H) (hl : ∀ i σ H, i ≤ xs.length → Pv i σ H → SqL K H a xs)
    (hs : ∀ i x T σ H, xs[i]? = some x → Pv i σ H → H T = none → g (.ref T) σ (upd H T (.tup [.int (i : Nat), x])) fun σ2 H2 => tb { D with nx := Pv (i + 1), ct := Pv (i + 1), bk := D.nx } σ2 H2) (hd : ∀ σ H, Pv xs.length σ H → D.nx σ H) :
    ∃ W : Nat → Nat → St → Hp → Prop, (∃ m, W 0 m σ H) ∧ ∀ i m σ H, W i m σ H →
      ((Ite K a).stop i H ∧ D.nx σ H) ∨ ((Ite K a).go i H ∧ ∃ N : St → Hp → Prop, (∀ σ' H', N σ' H' → ∃ m', m' < m ∧ W (i + 1) m' σ' H') ∧ ∀ x H', (Ite K a).yld i H x H' → g x σ H' fun σ2 H2 => tb { D with nx := N, ct := N, bk := D.nx } σ2 H2) := by
  refine ⟨fun i m σ H => m = xs.length - i ∧ i ≤ xs.length ∧ Pv i σ H, ⟨xs.length, by simp, Nat.zero_le _, h0⟩, ?_⟩
  rintro i m σ H ⟨rfl, hi, p⟩
  have q := hl i σ H hi p
  by_cases hlt : i < xs.length
  · refine .inr ⟨⟨xs, xs[i], q, by simp [hlt]⟩, Pv (i + 1), fun σ' H' p' => ⟨xs.length - (i + 1), by omega, rfl, hlt, p'⟩, fun v H' y => ?_⟩
    obtain ⟨T, x, hx, hT, rfl, rfl⟩ := y
    exact hs i x T σ _ (hx xs q) p hT
  · have e : i = xs.length := by omega
    subst e
    exact .inl ⟨⟨xs, q, Nat.le_refl _⟩, hd σ H p⟩
/-- range(n) as a thing -/
theorem call_rng1 {X : Cx} : CallR X (.type "range") (fun xs H Q => ∃ n : Int, xs = [.int n] ∧ ∀ r, H r = none → Q (.ref r) (upd H r (.rng 0 n))) := by
  intro pins s σ H xs us Q I r h
  obtain ⟨n, rfl, q⟩ := h
  obtain ⟨u, rfl, rx⟩ := vals1 r
  obtain ⟨t, rfl⟩ := rx
  exact call_range_1 ⟨.ref s.heap.objs.size, _, I.laid (t' := s.toks + 1 + 1) (o := .rng 0 n) (fun b o e => Heap.get?_push_of_some _ e) (Nat.le_refl _) ⟨_, _, _, Heap.get?_push_size _ rfl⟩, rfl, q _ (I.hok.fresh (Nat.le_refl _))⟩
theorem items_nats {acc : Array Value} {n : Nat} (h : ItemsOf (fun i v => ∃ t, v = .int (0 + (i : Nat) * 1) t) acc n) : Vals ((List.range n).map fun p => V.int ((p : Nat) : Int)) acc.toList := by
  obtain ⟨hs, hv⟩ := h
  have key : ∀ (k : Nat) (l : List Value), (∀ (j : Nat) (v : Value), l[j]? = some v → ∃ t, v = Value.int ((k : Int) + (j : Int)) t) → Vals ((List.range' k l.length).map fun p => V.int ((p : Nat) : Int)) l := by
    intro k l
    induction l generalizing k with
    | nil => intro _; exact .nil
    | cons x l ih =>
      intro h
      rw [List.length_cons, List.range'_succ, List.map_cons]
      refine .cons ?_ (ih (k + 1) fun j v e => ?_)
      · obtain ⟨t, e⟩ := h 0 x rfl
        exact ⟨t, by rw [e]; simp⟩
      · obtain ⟨t, e'⟩ := h (j + 1) v e
        exact ⟨t, by rw [e']; congr 1; omega⟩
  have := key 0 acc.toList fun j v e => by
    obtain ⟨t, e'⟩ := hv j v (by simpa using e)
    exact ⟨t, by rw [e']; congr 1; omega⟩
  rw [Array.length_toList, hs] at this
  rw [List.range_eq_range']
  exact this
/-- list(range(n)) -/
theorem call_list_rng {X : Cx} (hc : X.calm = true) : CallR X (.type "list") (fun xs H Q => ∃ (r : Addr) (n : Nat), xs = [.ref r] ∧ H r = some (.rng 0 (n : Nat)) ∧ n ≤ 100000 ∧ ∀ l, H l = none → Q (.ref l) (upd H l (.lst ((List.range n).map fun p => V.int ((p : Nat) : Int))))) := by
  intro pins s σ H xs us Q I r h
  obtain ⟨a, n, rfl, ha, hn, q⟩ := h
  obtain ⟨u, rfl, rx⟩ := vals1 r
  cases rx
  obtain ⟨t, u, v, ho⟩ := (show ∃ t u v, s.heap.get? a = some { cls := .type "range", data := .fields #[.int 0 t, .int (n : Nat) u, .int 1 v] } from I.hok a _ ha)
  refine call_list_range (n := n) (I.ok.hd hc) ho (small_one (by decide) (by decide) (by omega) (by omega)) (by rw [rangeSize_one]; split <;> omega) (Nat.le_trans hn (by decide)) fun h' tk acc c kp hg hit => ?_
  refine ⟨.ref s.heap.objs.size, _, I.laid (t' := tk) kp (Nat.le_refl _) (show ObjOk X.prog X.w _ h' _ (.lst _) from ⟨by rw [List.length_map, List.length_range]; exact Nat.le_trans hn (by decide), acc.toList, c, items_nats hit, by rw [Array.toArray_toList]; exact hg⟩), rfl, q _ (I.hok.fresh (Nat.le_refl _))⟩
theorem iteV {c : Bool} {t1 t2 : TS} {D : Ends} {σ : St} {H : Hp} (J : St → Hp → Prop) (hJ : ∀ σ' H', J σ' H' → D.nx σ' H') (h1 : c = true → (∀ σ' H', J σ' H' → D.nx σ' H') → t1 D σ H) (h2 : ¬ c = true → (∀ σ' H', J σ' H' → D.nx σ' H') → t2 D σ H) : if c = true then t1 D σ H else t2 D σ H := by
  by_cases h : c = true
  · rw [if_pos h]; exact h1 h hJ
  · rw [if_neg h]; exact h2 h hJ
/-- names of builtins that the text does not give -/
structure TxtB (mg : Str → Option Value) : Prop where
  isi : mg "isinstance" = none
  int : mg "int" = none
  bool : mg "bool" = none
  abs : mg "abs" = none
  len : mg "len" = none
  range : mg "range" = none
  tup : mg "tuple" = none
  lst : mg "list" = none
  sor : mg "sorted" = none
  all : mg "all" = none
  set : mg "set" = none
  zip : mg "zip" = none
  enu : mg "enumerate" = none
  any : mg "any" = none
  max : mg "max" = none
  min : mg "min" = none
  str : mg "str" = none
  sum : mg "sum" = none
/-- a block: a list of numbers -/
def nats (L : List Nat) : List V := L.map fun p => V.int ((p : Nat) : Int)
theorem nats_ints (L : List Nat) : nats L = (L.map fun p => ((p : Nat) : Int)).map V.int := by simp [nats]
theorem nats_snoc (L : List Nat) (j : Nat) : nats (L ++ [j]) = nats L ++ [V.int (j : Int)] := by unfold nats; rw [List.map_append]; rfl
theorem nats_len (L : List Nat) : (nats L).length = L.length := by unfold nats; rw [List.length_map]
/-- lists of blocks -/
def BlAt (H : Hp) : List V → List (List Nat) → Prop
  | [], [] => True
  | v :: vs, b :: bs => (∃ a, v = .ref a ∧ H a = some (.lst (nats b))) ∧ BlAt H vs bs
  | _, _ => False
theorem BlAt.len {H : Hp} : ∀ {vs : List V} {bs : List (List Nat)}, BlAt H vs bs → vs.length = bs.length
  | [], [], _ => rfl
  | _ :: _, _ :: _, h => by rw [List.length_cons, List.length_cons, BlAt.len h.2]
theorem BlAt.imp {H H' : Hp} : ∀ {vs : List V} {bs : List (List Nat)}, BlAt H vs bs → (∀ a xs, V.ref a ∈ vs → H a = some (.lst xs) → H' a = some (.lst xs)) → BlAt H' vs bs
  | [], [], _, _ => trivial
  | v :: vs, b :: bs, ⟨⟨a, e, q⟩, r⟩, k => ⟨⟨a, e, k a _ (e ▸ List.mem_cons_self ..) q⟩, r.imp fun a xs h1 h2 => k a xs (List.mem_cons_of_mem _ h1) h2⟩
theorem BlAt.same {H H' : Hp} (s : Same H H') {vs : List V} {bs : List (List Nat)} (h : BlAt H vs bs) : BlAt H' vs bs := h.imp fun a xs _ q => s _ _ q
theorem BlAt.snoc {H : Hp} {a : Addr} {b : List Nat} (e : H a = some (.lst (nats b))) : ∀ {vs : List V} {bs : List (List Nat)}, BlAt H vs bs → BlAt H (vs ++ [.ref a]) (bs ++ [b])
  | [], [], _ => ⟨⟨a, rfl, e⟩, trivial⟩
  | _ :: _, _ :: _, h => ⟨h.1, h.2.snoc e⟩
theorem BlAt.get {H : Hp} : ∀ {vs : List V} {bs : List (List Nat)} {i : Nat} {v : V}, BlAt H vs bs → vs[i]? = some v → ∃ a b, v = .ref a ∧ bs[i]? = some b ∧ H a = some (.lst (nats b))
  | v :: vs, b :: bs, 0, _, h, e => by
    cases e
    obtain ⟨a, e, q⟩ := h.1
    exact ⟨a, b, e, rfl, q⟩
  | _ :: vs, _ :: bs, i + 1, v, h, e => BlAt.get (i := i) h.2 e
/-- tuples of blocks, rising -/
def TpAt (H : Hp) : List V → List (List Nat) → Prop
  | [], [] => True
  | v :: vs, b :: bs => (∃ a, v = .ref a ∧ H a = some (.tup (nats b))) ∧ TpAt H vs bs
  | _, _ => False
theorem TpAt.len {H : Hp} : ∀ {vs : List V} {bs : List (List Nat)}, TpAt H vs bs → vs.length = bs.length
  | [], [], _ => rfl
  | _ :: _, _ :: _, h => by rw [List.length_cons, List.length_cons, TpAt.len h.2]
theorem TpAt.same {H H' : Hp} (s : ∀ a xs, H a = some (.tup xs) → H' a = some (.tup xs)) : ∀ {vs : List V} {bs : List (List Nat)}, TpAt H vs bs → TpAt H' vs bs
  | [], [], _ => trivial
  | v :: vs, b :: bs, ⟨⟨a, e, q⟩, r⟩ => ⟨⟨a, e, s _ _ q⟩, r.same s⟩
theorem TpAt.snoc {H : Hp} {a : Addr} {b : List Nat} (e : H a = some (.tup (nats b))) : ∀ {vs : List V} {bs : List (List Nat)}, TpAt H vs bs → TpAt H (vs ++ [.ref a]) (bs ++ [b])
  | [], [], _ => ⟨⟨a, rfl, e⟩, trivial⟩
  | _ :: _, _ :: _, h => ⟨h.1, h.2.snoc e⟩
/-- sorted, block by block -/
def Srt : List (List Nat) → List (List Nat) → Prop
  | [], [] => True
  | c :: cs, b :: bs => (c.Perm b ∧ c.Pairwise (· ≤ ·)) ∧ Srt cs bs
  | _, _ => False
theorem Srt.snoc {c b : List Nat} (h1 : c.Perm b) (h2 : c.Pairwise (· ≤ ·)) : ∀ {cs bs : List (List Nat)}, Srt cs bs → Srt (cs ++ [c]) (bs ++ [b])
  | [], [], _ => ⟨⟨h1, h2⟩, trivial⟩
  | _ :: _, _ :: _, h => ⟨h.1, h.2.snoc h1 h2⟩
theorem Srt.len : ∀ {cs bs : List (List Nat)}, Srt cs bs → cs.length = bs.length
  | [], [], _ => rfl
  | _ :: _, _ :: _, h => by rw [List.length_cons, List.length_cons, Srt.len h.2]
theorem srt_eq {c c' b : List Nat} (h1 : c.Perm b) (h2 : c.Pairwise (· ≤ ·)) (h1' : c'.Perm b) (h2' : c'.Pairwise (· ≤ ·)) : c = c' :=
  (h1.trans h1'.symm).eq_of_pairwise (fun a b _ _ x y => Nat.le_antisymm x y) h2 h2'
theorem Srt.uniq : ∀ {cs cs' bs : List (List Nat)}, Srt cs bs → Srt cs' bs → cs = cs'
  | [], [], _, _, _ => rfl
  | [], _ :: _, [], _, h => False.elim h
  | [], _ :: _, _ :: _, h, _ => False.elim h
  | _ :: _, [], [], h, _ => False.elim h
  | _ :: _, [], _ :: _, _, h => False.elim h
  | _ :: _, _ :: _, [], h, _ => False.elim h
  | _ :: _, _ :: _, _ :: _, h, h' => by rw [srt_eq h.1.1 h.1.2 h'.1.1 h'.1.2, Srt.uniq h.2 h'.2]
/-- a block below p -/
structure Blk (p : Nat) (b : List Nat) : Prop where
  nd : b.Nodup
  lt : ∀ x ∈ b, x < p
theorem nodup_le : ∀ (n : Nat) (b : List Nat), b.Nodup → (∀ x ∈ b, x < n) → b.length ≤ n
  | 0, [], _, _ => Nat.le_refl _
  | 0, x :: b, _, h => absurd (h x (List.mem_cons_self ..)) (Nat.not_lt_zero _)
  | n + 1, b, hn, hl => by
    have h1 := nodup_le n (b.filter (fun x => decide (x ≠ n))) (hn.filter _) (fun x hx => by
      have := List.mem_filter.mp hx
      have h2 := hl x this.1
      have h3 : x ≠ n := of_decide_eq_true this.2
      omega)
    by_cases hm : n ∈ b
    · have e : b.length = (b.filter (fun x => decide (x ≠ n))).length + 1 := by
        clear h1 hl
        induction b with
        | nil => cases hm
        | cons y b ih =>
          rw [List.nodup_cons] at hn
          by_cases hy : y = n
          · subst hy
            rw [List.filter_cons_of_neg (by simp)]
            have : b.filter (fun x => decide (x ≠ y)) = b := List.filter_eq_self.mpr fun x hx => decide_eq_true fun z => hn.1 (z ▸ hx)
            rw [this]; rfl
          · rw [List.filter_cons_of_pos (by simpa using hy)]
            have hm' : n ∈ b := (List.mem_cons.mp hm).resolve_left (fun z => hy z.symm)
            simp only [List.length_cons]
            rw [ih hn.2 hm']
      omega
    · have : b.filter (fun x => decide (x ≠ n)) = b := List.filter_eq_self.mpr fun x hx => decide_eq_true fun z => hm (z ▸ hx)
      rw [this] at h1
      omega
theorem Blk.len {p : Nat} {b : List Nat} (h : Blk p b) : b.length ≤ p := nodup_le p b h.nd h.lt
theorem Blk.perm {p : Nat} {b c : List Nat} (h : Blk p b) (e : c.Perm b) : Blk p c := ⟨e.nodup_iff.mpr h.nd, fun x hx => h.lt x (e.mem_iff.mp hx)⟩
/-! ### a list or a tuple, gone through -/
/-! ### rules that name K, for comprehensions -/
def rTupQ (K : PySem.W.Frag) : List V → Hp → VK → Prop := fun xs H Q => ∃ p ys, xs = [.ref p] ∧ ((SqL K H p ys ∧ ∀ l, H l = none → Q (.ref l) (upd H l (.tup ys))) ∨ (SqT K H p ys ∧ Q (.ref p) H))
theorem call_tupQ {X : Cx} : CallR X (.type "tuple") (rTupQ X.K) := call_tuple_of
theorem TpAt.sm {H H' : Hp} (s : Same H H') {vs : List V} {bs : List (List Nat)} (h : TpAt H vs bs) : TpAt H' vs bs := h.same fun a xs q => s _ _ q
theorem back_nats {b : List Nat} {ns : List Int} (hp : ns.Perm (b.map fun p => ((p : Nat) : Int))) (hs : ns.Pairwise (· ≤ ·)) : ∃ b' : List Nat, ns.map V.int = nats b' ∧ b'.Perm b ∧ b'.Pairwise (· ≤ ·) := by
  have hnn : ∀ x ∈ ns, 0 ≤ x := fun x hx => by
    obtain ⟨p, _, rfl⟩ := List.mem_map.mp (hp.mem_iff.mp hx)
    omega
  have e : ns = (ns.map Int.toNat).map fun p => ((p : Nat) : Int) := by
    rw [List.map_map]
    conv => lhs; rw [← List.map_id ns]
    exact List.map_congr_left fun x hx => by
      have := hnn x hx
      show x = ((x.toNat : Nat) : Int)
      omega
  refine ⟨ns.map Int.toNat, ?_, ?_, ?_⟩
  · rw [nats_ints, ← e]
  · have := hp.map Int.toNat
    rw [List.map_map] at this
    have e2 : (b.map (Int.toNat ∘ fun p => ((p : Nat) : Int))) = b := by
      conv => rhs; rw [← List.map_id b]
      exact List.map_congr_left fun x _ => by simp
    rwa [e2] at this
  · rw [List.pairwise_map]
    exact hs.imp fun h => by omega
theorem nats_get {b : List Nat} {j : Nat} {x : V} (h : (nats b)[j]? = some x) : ∃ p : Nat, b[j]? = some p ∧ x = V.int ((p : Nat) : Int) := by
  unfold nats at h
  rw [List.getElem?_map] at h
  cases e : b[j]? with
  | none => rw [e] at h; cases h
  | some p => rw [e] at h; cases h; exact ⟨p, rfl, rfl⟩
theorem ints_isD' {K : PySem.W.Frag} {H : Hp} : ∀ L : List Nat, IsDs K H (L.map fun p => PyData.int ((p : Nat) : Int)) (nats L)
  | [] => by simp [nats, IsDs]
  | p :: L => by
    simp only [nats, List.map_cons, IsDs]
    exact ⟨_, _, rfl, by simp [IsD], ints_isD' L⟩
theorem lay_ints' : ∀ L : List Nat, PyData.canLayAll0 (L.map fun p => PyData.int ((p : Nat) : Int)) = true
  | [] => by simp [PyData.canLayAll0]
  | x :: L => by simp [PyData.canLayAll0, PyData.canLay0, lay_ints' L]
theorem depth_ints' : ∀ L : List Nat, PyData.depthAll (L.map fun p => PyData.int ((p : Nat) : Int)) ≤ 1
  | [] => by simp [PyData.depthAll]
  | x :: L => by
    have := depth_ints' L
    simp [PyData.depthAll, PyData.depth]
    omega
def dBlk (L : List Nat) : PyData := .list (L.map fun p => PyData.int ((p : Nat) : Int))
theorem shaped_blk (L : List Nat) : PySem.SeqAt.shaped (dBlk L) = true := by
  unfold PySem.SeqAt.shaped dBlk
  rw [Bool.and_eq_true]
  refine ⟨by simp only [PyData.canLay0]; exact lay_ints' L, decide_eq_true ?_⟩
  have := depth_ints' L
  simp only [PyData.depth]
  omega
theorem cut_from {xs : List V} {k : Nat} (hk : k ≤ xs.length) : cutV xs (some (k : Int)) none = xs.drop k := by
  unfold cutV
  have h1 : HT.sIx xs.length 0 (some (k : Int)) = k := by rw [HT.sIx_nat]; omega
  have h2 : HT.sIx xs.length xs.length none = xs.length := by simp [HT.sIx]
  rw [h1, h2, List.take_of_length_le (by rw [List.length_drop]; exact Nat.le_refl _)]
theorem cut_to {xs : List V} {k : Nat} (hk : k ≤ xs.length) : cutV xs none (some (k : Int)) = xs.take k := by
  unfold cutV
  have h1 : HT.sIx xs.length 0 none = 0 := by simp [HT.sIx]
  have h2 : HT.sIx xs.length xs.length (some (k : Int)) = k := by rw [HT.sIx_nat]; omega
  rw [h1, h2, List.drop_zero, Nat.sub_zero]
theorem seqVia {t rest : TS} {D : Ends} {σ : St} {H : Hp} (J : St → Hp → Prop) (hJ : ∀ σ' H', J σ' H' → rest D σ' H') (h : ∀ D' : Ends, (∀ σ' H', J σ' H' → D'.nx σ' H') → t D' σ H) : tSeq t rest D σ H := h { D with nx := rest D } hJ
theorem eqv_ints' : ∀ L : List Nat, PyData.eqvAll (L.map fun p => PyData.int ((p : Nat) : Int)) (L.map fun p => PyData.int ((p : Nat) : Int)) = true
  | [] => by simp [PyData.eqvAll]
  | x :: L => by simp [PyData.eqvAll, PyData.eqv, eqv_ints' L]
def dTup (L : List Nat) : PyData := .tuple (L.map fun p => PyData.int ((p : Nat) : Int))
theorem tps_isD {K : PySem.W.Frag} {H : Hp} : ∀ {vs : List V} {bs : List (List Nat)}, TpAt H vs bs → IsDs K H (bs.map dTup) vs
  | [], [], _ => by simp [IsDs]
  | v :: vs, b :: bs, ⟨⟨a, e, q⟩, r⟩ => by
    simp only [List.map_cons, IsDs]
    refine ⟨v, vs, rfl, ?_, tps_isD r⟩
    simp only [dTup, IsD]
    exact ⟨a, _, e, SqT.of q, ints_isD' b⟩
theorem lay_tps : ∀ bs : List (List Nat), PyData.canLayAll0 (bs.map dTup) = true
  | [] => by simp [PyData.canLayAll0]
  | b :: bs => by
    have h1 := lay_ints' b
    simp only [List.map_cons, PyData.canLayAll0, dTup, PyData.canLay0, h1, lay_tps bs, Bool.and_self, Bool.true_and]
theorem depth_tps : ∀ bs : List (List Nat), PyData.depthAll (bs.map dTup) ≤ 2
  | [] => by simp [PyData.depthAll]
  | b :: bs => by
    have h1 := depth_ints' b
    have h2 := depth_tps bs
    simp only [List.map_cons, PyData.depthAll, dTup, PyData.depth]
    omega
theorem eqv_tup (L : List Nat) : PyData.eqv (dTup L) (dTup L) = true := by
  simp only [dTup, PyData.eqv]
  exact eqv_ints' L
theorem eqv_tpsA : ∀ bs : List (List Nat), PyData.eqvAll (bs.map dTup) (bs.map dTup) = true
  | [] => by simp [PyData.eqvAll]
  | b :: bs => by simp only [List.map_cons, PyData.eqvAll, eqv_tup b, eqv_tpsA bs, Bool.and_self]
theorem cut_le {xs : List V} {k : Nat} : cutV xs none (some (k : Int)) = xs.take k := by
  by_cases hk : k ≤ xs.length
  · exact cut_to hk
  · unfold cutV
    have h1 : HT.sIx xs.length 0 none = 0 := by simp [HT.sIx]
    have h2 : HT.sIx xs.length xs.length (some (k : Int)) = xs.length := by rw [HT.sIx_nat]; omega
    rw [h1, h2, List.drop_zero, Nat.sub_zero, List.take_length, List.take_of_length_le (by omega)]
/-! ### a[i] += .. -/
end L2
/-! EvSort: sorted of a list of pairs of numbers: the same pairs in some order. Behind EvLay. -/
namespace L2
open PySem PySem.Spec PyProof.Rows PySem.W
section
variable {n : Nat} (hn : 0 < n)
include hn
end
section
variable {prog : Program} {w : World} {A : Around} {E : Value → Shared → Prop} {s : Shared}
end
end L2
/-! EvMul: tuple * number. Behind EvLay. -/
namespace PySem
open Sem (wp)
open Builtin
end PySem
namespace L2
open PySem PySem.Spec PyProof.Rows
end L2
namespace HT2
open PySem PySem.Spec PyProof.Rows HT
variable {prog : Program} {w : World} {A : Around} {E : Value → Shared → Prop} {s : Shared}
end HT2
namespace L2
open PySem PySem.Spec PyProof.Rows
end L2
/-! EvZip: zip of a tuple and a list. Behind EvLay. -/
namespace L2
open PySem PySem.Spec PyProof.Rows
section
variable {prog : Program} {w : World} {A : Around} {E : Value → Shared → Prop} {s : Shared}
end
section
variable {prog : Program} {w : World} {A : Around} {E : Value → Shared → Prop} {s : Shared}
end
section
variable {X : Cx} {elts : List Expr} {k : Nat} {tp : Pos}
end
end L2
/-! EvTold: loops by steps, zip of two lists, a def that calls itself. Behind EvMul. -/
namespace L2
open PySem PySem.Spec PyProof.Rows
section
variable {X : Cx} {elts : List Expr} {k : Nat} {tp : Pos}
end
end L2
/-! EvEnt: enumerate of a tuple, values of an `or`, a list taken apart. Behind EvTold and EvZip. -/
namespace L2
open PySem PySem.Spec PyProof.Rows
section
variable {prog : Program} {w : World} {A : Around} {E : Value → Shared → Prop} {s : Shared}
end
section
variable {X : Cx} {elts : List Expr} {k : Nat} {tp : Pos}
end
end L2
/-! EvIdx: places in tuples and lists from a start on, tuples whose object is known, lists taken apart, values of an `or`. Behind EvEnt. -/
namespace L2
open PySem PySem.Spec PyProof.Rows
section
variable {prog : Program} {w : World} {A : Around} {E : Value → Shared → Prop} {s : Shared}
end
/-! ### places from a start on -/
end L2
/-! EvKw: enumerate(tuple, start=k), sum of a list of numbers. Behind EvIdx. -/
namespace L2
open PySem PySem.Spec PyProof.Rows
section
variable {prog : Program} {w : World} {A : Around} {E : Value → Shared → Prop} {s : Shared}
end
section
variable {prog : Program} {w : World} {A : Around} {E : Value → Shared → Prop} {s : Shared}
end
section
variable {M : Model} {A : Around} {E : Value → Shared → Prop} {s : Shared} {env : Env}
end
section
variable {X : Cx} {elts : List Expr} {k : Nat} {tp : Pos}
end
end L2
namespace L2
open PySem PySem.Spec PyProof.Rows
/-! ### lists of pairs as tables -/
section
variable {κ : Type} [DecidableEq κ]
end


/-! ### a tracked dict, its keys ints and texts or tuples of these -/
section
variable {P : Program} {w : World} {H : Hp} {h : Heap} {a : Addr}
end

section
variable {X : Cx} {pins : List (Addr × Obj)} {σ : St} {H : Hp} {s : Shared} {a : Addr} {y v : V} {u r : Value} {o : Option V} {A : Around} {E : Value → Shared → Prop}


end

section
variable {X : Cx} {pins : List (Addr × Obj)} {σ : St} {H : Hp} {s : Shared} {a : Addr} {kvs : List (Key × V)} {k : Key} {u : Value} {A : Around} {E : Value → Shared → Prop}
end


/-! ### readings and rules -/
section
variable {X : Cx} {o i e value : Expr} {pos pos' tpos : Pos} {td ty tv : TE}
end
section
variable {X : Cx} {pos : Pos}
end
end L2
/-! EvDq: dicts with tuples as keys, data in a list and its place. Behind the dict part of the layer (mk.py's dictpart). -/
namespace L2
open PySem PySem.Spec PyProof.Rows
section
variable {X : Cx} {o i value : Expr} {pos pos' : Pos} {td ty tv : TE}
end
end L2
/-! EvDit: a dict with numbers as keys: made, walked while it is frozen, asked with a default. Behind EvDq. -/
namespace L2
open PySem PySem.Spec PyProof.Rows
section
variable {X : Cx} {o e : Expr} {es : List Expr} {to : TE} {t : TA} {apos cpos : Pos}
end
end L2
/-! EvVal: functions as values, a try whose clause has no name, () + t. Behind EvDit. -/
namespace L2
open PySem PySem.Spec PyProof.Rows
end L2
/-! EvNil: a list != [], whatever stands in it. Behind EvLay. -/
namespace L2
open PySem PySem.Spec PyProof.Rows
end L2
namespace L2
open PySem PySem.Spec PyProof.Rows
end L2
namespace L2
open PySem PySem.Spec PyProof.Rows
section
variable {X : Cx} {pins : List (Addr × Obj)} {σ : St} {H : Hp} {s : Shared}
/-- the clause's name goes, the others stay -/
theorem name_goneK {n : Str} {i : Nat} {pos : Pos} {Q : Unit → Shared → Prop} {E : Value → Shared → Prop} (I : Inv X pins σ H s) (hN : X.N.Nodup) (hi : X.N[i]? = some n) (hl : X.env.scope.names.lookup n = some .local) (h : ∀ s', Inv X pins (σ.set i none) H s' → Q () s') :
    wpAny (model X.prog X.w) X.A (do bindName X.env n .none; unbindBehindTheSuite X.env n pos) Q E s := by
  obtain ⟨m, hn, hrel⟩ := I.loc
  refine wpAny_nameGoes_keeps hl hn (by rw [I.ok.kind]; rfl) fun h' v0 hn' hs => h _ ?_
  have k : ∀ b o, b ≠ X.env.locals → s.heap.get? b = some o → h'.get? b = some o := fun b o hb e => (hs.2 b hb).trans e
  have cellK : ∀ c v, c ≠ X.env.locals → s.heap.IsCell c v → h'.IsCell c v := fun c v hc z => z.sameBut hs hc
  have nL : ∀ b o, X.s₀.heap.get? b = some o → b ≠ X.env.locals := fun b o e => Nat.ne_of_lt (Nat.lt_of_lt_of_le (Heap.lt_size e) I.ok.above)
  refine ⟨I.ok, I.os, I.bare, ⟨fun b o e n' hb hx => k b o (nL b o e) (I.base.keep b o e n' hb hx), fun b o e n' hb hx => ?_, I.base.free, fun b o e hx => ?_, I.base.tups, I.base.frzs, I.base.tbls⟩, ⟨_, hn', fun j x v e1 e2 e3 => ?_⟩, fun x c e => ?_, I.free, I.freeC, fun p hp => ?_, fun a o e => ?_, by rw [List.length_set]; exact I.len⟩
  · obtain ⟨sl, e1⟩ := I.base.slot b o e n' hb hx
    exact ⟨sl, k b _ (nL b o e) e1⟩
  · obtain ⟨o', e1⟩ := I.base.there b o e hx
    exact ⟨o', k b o' (nL b o e) e1⟩
  · have hji : j ≠ i := fun z => by
      rw [z] at e2
      by_cases hlt : i < σ.length
      · rw [List.getElem?_set_self hlt] at e2
        cases e2
      · rw [List.getElem?_eq_none (by rw [List.length_set]; omega)] at e2
        cases e2
    rw [List.getElem?_set_ne (Ne.symm hji)] at e2
    obtain ⟨u, r, lk⟩ := hrel j x v e1 e2 e3
    have hxn : x ≠ n := fun z => by
      subst z
      obtain ⟨h1, g1⟩ := List.getElem?_eq_some_iff.mp e1
      obtain ⟨h2, g2⟩ := List.getElem?_eq_some_iff.mp hi
      exact hji ((List.getElem_inj hN).mp (g1.trans g2.symm))
    refine ⟨u, r, ?_⟩
    rcases lk with ⟨l1, l2⟩ | ⟨l1, c, l2, l3⟩
    · exact .inl ⟨l1, (if_neg hxn).trans l2⟩
    · exact .inr ⟨l1, c, l2, cellK c _ (I.cne x c l2) l3⟩
  · obtain ⟨v, z⟩ := I.cell x c e
    exact ⟨v, cellK c v (I.cne x c e) z⟩
  · obtain ⟨e, n', ne, r⟩ := I.pin p hp
    exact ⟨k _ _ ne e, n', ne, r⟩
  · refine (I.hok a o e).stay (fun b u hb q => k b u (fun z => ?_) q) (fun _ q => q) fun _ _ q => q
    have n' := I.free
    rcases hb with rfl | hb
    · rw [z, n'] at e; cases e
    · rw [z, n'] at hb; cases hb
end
/-- what stands behind the clause: its name is gone -/
def Ends.gone (D : Ends) (i : Nat) : Ends := { nx := fun σ H => D.nx (σ.set i none) H, rt := D.rt, bk := fun σ H => D.bk (σ.set i none) H, ct := fun σ H => D.ct (σ.set i none) H }
end L2
/-! EvRev: t[::-1] and reversed(t) of a tuple t. Behind EvLay. -/
namespace L2
open PySem PySem.Spec PyProof.Rows
section
variable {prog : Program} {w : World} {A : Around} {E : Value → Shared → Prop} {s : Shared}
end
/-! ### reversed(t) -/
section
variable {prog : Program} {w : World} {A : Around} {E : Value → Shared → Prop} {s : Shared}
end
end L2
/-! EvCls: own classes: fields, methods, makings, as rules with the promise bundled. Behind EvLay. -/
namespace L2
open PySem PySem.Spec PyProof.Rows
section
variable {X : Cx} {CX : CXT} {k : Nat} {C : Addr} {m : Str} {ps : List Str} {sp : Sp} {E : XK} {pos apos : Pos} {e o : Expr} {es : List Expr} {ta : TE} {t : TA}
end
end L2
/-! EvXi: refusals whose class has its own __init__: the making, the base's __init__, a field set and read, the raise (on the model's level). Behind Layer. -/
namespace PySem
open PySem.Spec PyProof.Rows
abbrev tupObj (rest : List Value) : Obj := { cls := .type "tuple", data := .seq rest.toArray }
abbrev excObj (C t : Addr) : Obj := { cls := .ref C, data := .fields #[.ref t, .none, .none, .none, .bool false, .none] }
theorem type_call_exc_own {prog : Program} {w : World} {A : Around} {E : Value → Shared → Prop} {h : Heap} {g : Array GenState} {d : Drawn} {t : Nat} {os : OsState} {nm q : Str} {C N fI : Addr} {bs bm bmB : List Value} {hdct : Bool} {sn : List Str} {sub : List Value} {ab : Bool} {col : Option Bool} {dd : Option Addr} {k0 k1 k2 k3 k5 : Option Value}
    {B Bn newId nid initId inN : String} {bmN : List Value} (Fn : ExcBaseFacts Bn newId inN bmN) (hBn : bmB.contains (.type Bn) = true) (F : ExcBaseFacts B nid initId bmB) (T : OwnTail h bmB bm) {mN : Str → Option Value} {rest : List Value} {Q : Fin → Shared → Prop}
    (hC : h.get? C = some (excClassObj nm q C N bs bm hdct sn sub ab col dd k0 k1 k2 k3 k5 newId)) (hn : h.Ns N mN) (hi : mN (Str.ofString "__init__") = some (.ref fI)) (hrest : rest.length ≤ sizeLine)
    (hq : wpAny (model prog w) A (bindSpecial (.ref fI) (.ref (h.objs.size + 1))) (fun r s' => wpAny (model prog w) A (call r.1 (r.2 ++ rest)) (fun v s'' => v = .none ∧ Q (.done (.ret (.ref (h.objs.size + 1)))) s'') E s') E ⟨(h.push (tupObj rest)).push (excObj C h.objs.size), g, d, t, os⟩) :
    wpAny (model prog w) A (Builtin.«type.__call__» ⟨.ref C :: rest, []⟩) Q E ⟨h, g, d, t, os⟩ := by
  unfold Builtin.«type.__call__»
  refine wpAny_ite_false rfl ?_
  refine wpAny_bind ?_
  show wpAny _ _ (mroOf (.ref C)) _ _ _
  unfold mroOf
  refine wpAny_bind ?_
  unfold classData
  refine wpAny_bind (wpAny_load' hC ?_)
  refine wpAny_pure (wpAny_pure (wpAny_ite_false rfl ?_))
  refine wpAny_bind (wpAny_madeBy_exc hC (wpAny_bind (wpAny_pure (wpAny_bind (wpAny_holding (wpAny_call (codeAny_call_builtin_code (Code.quiet_builtin _ Fn.quiet) (wpAny_check_new_subU Fn hBn T hC (codeAny_exc_new_subU Fn hBn F T hC ?_ hrest))))))))) 
  have kp : ∀ b o, h.get? b = some o → ((h.push (tupObj rest)).push (excObj C h.objs.size)).get? b = some o := fun b o e => Heap.get?_push_of_some _ (Heap.get?_push_of_some _ e)
  have hC1 := kp _ _ hC
  have hn1 := hn.keeps kp
  have T1 := T.keeps kp
  have hget : ((h.push (tupObj rest)).push (excObj C h.objs.size)).get? (h.objs.size + 1) = some (excObj C h.objs.size) := Heap.get?_push_at (by rw [Heap.size_push]) rfl
  show wpAny _ _ _ _ _ _
  refine wpAny_bind ?_
  unfold isInstance
  refine wpAny_bind ?_
  unfold typeOf
  refine wpAny_bind (wpAny_loadPart_at hget (wpAny_pure ?_))
  refine wpAny_isSubtype_exc hC1 ?_
  rw [show (Value.ref C :: bm).contains (Value.ref C) = true by simp]
  refine wpAny_ite_false rfl ?_
  refine wpAny_bind (wpAny_holding ?_)
  unfold callSpecial? specialOf
  refine wpAny_bind ?_
  refine wpAny_bind ?_
  unfold typeOf
  refine wpAny_bind (wpAny_loadPart_at hget (wpAny_pure ?_))
  refine wpAny_typeLookup_tail hC1 hn1 T1 F.mroIs F.init.lookup ?_
  rw [hi]
  refine wpAny_holding (wpAny_bind ?_)
  refine wpAny_mono hq (fun r s' hr => ?_) fun _ _ z => z
  refine wpAny_bind (wpAny_mono hr (fun v s'' hv => ?_) fun _ _ z => z)
  obtain ⟨rfl, hv⟩ := hv
  refine wpAny_pure (wpAny_ite_false rfl ?_)
  exact wpAny_pure hv
/-- C(..) for an own exception class with its own __init__ -/
theorem call_exc_own {prog : Program} {w : World} {A : Around} {E : Value → Shared → Prop} {h : Heap} {g : Array GenState} {d : Drawn} {t : Nat} {os : OsState} {nm q : Str} {C N fI : Addr} {bs bm bmB : List Value} {hdct : Bool} {sn : List Str} {sub : List Value} {ab : Bool} {col : Option Bool} {dd : Option Addr} {k0 k1 k2 k3 k5 : Option Value}
    {B Bn newId nid initId inN : String} {bmN : List Value} (Fn : ExcBaseFacts Bn newId inN bmN) (hBn : bmB.contains (.type Bn) = true) (F : ExcBaseFacts B nid initId bmB) (T : OwnTail h bmB bm) {mN : Str → Option Value} {rest : List Value} {Q : Value → Shared → Prop}
    (hC : h.get? C = some (excClassObj nm q C N bs bm hdct sn sub ab col dd k0 k1 k2 k3 k5 newId)) (hn : h.Ns N mN) (hi : mN (Str.ofString "__init__") = some (.ref fI)) (hrest : rest.length ≤ sizeLine)
    (hq : wpAny (model prog w) (A.under (.builtin "type.__call__" ⟨.ref C :: rest, []⟩)) (bindSpecial (.ref fI) (.ref (h.objs.size + 1))) (fun r s' => wpAny (model prog w) (A.under (.builtin "type.__call__" ⟨.ref C :: rest, []⟩)) (call r.1 (r.2 ++ rest)) (fun v s'' => v = .none ∧ Q (.ref (h.objs.size + 1)) s'') E s') E ⟨(h.push (tupObj rest)).push (excObj C h.objs.size), g, d, t, os⟩) :
    wpAny (model prog w) A (call (.ref C) rest) Q E ⟨h, g, d, t, os⟩ := by
  have f1 := tc_lookup
  have f2 := tc_bind (.ref C)
  have hT : Shared.TypeIs ⟨h, g, d, t, os⟩ (.ref C) "type" := ⟨_, hC, rfl⟩
  refine wpAny_call (codeAny_of_tree ?_)
  refine wpAny_bind (wpAny_load' hC ?_)
  refine wpAny_bind (wpAny_specialOf hT f1 (wpAny_bind (wpAny_of_eq f2 (wpAny_bind ?_))))
  refine wpAny_pure (wpAny_ite_true rfl ?_)
  refine wpAny_pure ⟨rfl, codeAny_call_builtin_at (Code.quiet_builtin _ (by decide +kernel)) entry_typeCall (wpAny_check_type_call_sub hC ?_)⟩
  refine type_call_exc_own Fn hBn F T hC hn hi hrest ?_
  exact hq
theorem raise_own {M : Model} {A : Around} {E : Value → Shared → Prop} {env : Env} {nm q : Str} {C N : Addr} {bs bm : List Value} {hdct : Bool} {sn : List Str} {sub : List Value} {ab : Bool} {col : Option Bool} {dd : Option Addr} {k0 k1 k2 k3 k5 : Option Value} {newId : String} {s : Shared} {x : Sem Value} {Q : Flow → Shared → Prop}
    (hb : bm.contains (.type "BaseException") = true) (hh : A.handled = none)
    (h : wpAny M A x (fun v s₁ => ∃ e t dx, v = .ref e ∧ s₁.heap.get? C = some (excClassObj nm q C N bs bm hdct sn sub ab col dd k0 k1 k2 k3 k5 newId) ∧ s₁.heap.get? e = some ⟨.ref C, dx, .fields #[.ref t, .none, .none, .none, .bool false, .none], #[]⟩ ∧ E (.ref e) s₁) E s) :
    wpAny M A (raiseStmt env (some x) none) Q E s := by
  unfold raiseStmt
  refine wpAny_bind (wpAny_mono h (fun v s1 hv => ?_) fun _ _ z => z)
  obtain ⟨e, t, dx, rfl, hC, he, hE⟩ := hv
  refine wpAny_bind (wpAny_pure ?_)
  refine wpAny_bind (wpAny_holding ?_)
  obtain ⟨hp, g, d, tk, os⟩ := s1
  have hC' : hp.get? C = some (excClassObj nm q C N bs bm hdct sn sub ab col dd k0 k1 k2 k3 k5 newId) := hC
  have he' : hp.get? e = some ⟨.ref C, dx, .fields #[.ref t, .none, .none, .none, .bool false, .none], #[]⟩ := he
  unfold excFromValue isExcClass isType isInstance typeOf
  repeat (first | with_reducible refine wpAny_loadPart_at he' ?_ | with_reducible refine wpAny_isSubtype_exc hC' ?_ | wp_step)
  have hc : (Value.ref C :: bm).contains (Value.type "BaseException") = true := by
    rw [List.contains_cons, hb, Bool.or_true]
  rw [if_pos hc]
  unfold raisedInstance setFlight field
  repeat (first | with_reducible refine wpAny_loadPart_at he' ?_ | with_reducible refine wpAny_loadPart_at hC' ?_ | with_reducible refine wpAny_load' he' ?_ | wp_step)
  exact wpAny_raiseNew_none hh hE
theorem base_init {prog : Program} {w : World} {A : Around} {E : Value → Shared → Prop} {h : Heap} {g : Array GenState} {d : Drawn} {t : Nat} {os : OsState} {nm q : Str} {C N : Addr} {bs bm bmB : List Value} {hdct : Bool} {sn : List Str} {sub : List Value} {ab : Bool} {col : Option Bool} {dd : Option Addr} {k0 k1 k2 k3 k5 : Option Value}
    {newId : String} (F : ExcBaseFacts "ValueError" "ValueError.__new__" "ValueError.__init__" bmB) (T : OwnTail h bmB bm) {e t0 : Addr} {dx : Option Addr} {v : Value} {Q : Value → Shared → Prop}
    (hC : h.get? C = some (excClassObj nm q C N bs bm hdct sn sub ab col dd k0 k1 k2 k3 k5 newId)) (he : h.get? e = some ⟨.ref C, dx, .fields #[.ref t0, .none, .none, .none, .bool false, .none], #[]⟩)
    (hq : ∀ h' : Heap, h'.get? e = some ⟨.ref C, dx, .fields #[.ref h.objs.size, .none, .none, .none, .bool false, .none], #[]⟩ → (∀ b o, b ≠ e → h.get? b = some o → h'.get? b = some o) → Q .none ⟨h', g, d, t, os⟩) :
    wpAny (model prog w) A (call (.builtin "ValueError.__init__") [.ref e, v]) Q E ⟨h, g, d, t, os⟩ := by
  refine wpAny_call (codeAny_call_builtin_at (Code.quiet_builtin _ (by decide +kernel)) F.initEntry (wpAny_check_init_subU F T hC he rfl ?_))
  have hlt : e < h.objs.size := Heap.lt_size he
  have hne : e ≠ h.objs.size := Nat.ne_of_lt hlt
  unfold Builtin.«BaseException.__init__»
  dsimp only
  refine wpAny_ite_false rfl ?_
  unfold newTuple Builtin.BaseException.bexcPut field setField updateField
  have he1 : (h.push { cls := Value.type "tuple", data := Data.seq #[v] }).get? e = some ⟨.ref C, dx, .fields #[.ref t0, .none, .none, .none, .bool false, .none], #[]⟩ := Heap.get?_push_of_some _ he
  repeat (first | with_reducible refine wpAny_load' he1 ?_ | wp_step)
  refine hq _ ?_ fun b o hb ho => ?_
  · exact Heap.get?_update_self _ he1 rfl
  · rw [Heap.get?_update_other _ _ (Ne.symm hb)]
    exact Heap.get?_push_of_some _ ho
def excTypes : List String := ["ValueError", "Exception", "BaseException", "object"]
def okEntry : Value → Bool
  | .ref _ => true
  | .type n => excTypes.contains n
  | _ => false
theorem own_sa {n : String} (h : excTypes.contains n = true) : (∃ y, classOwn (.type n) (Str.ofString "__setattr__") = pure (some y) ∧ Builtin.ObjectAttr.isObjects n "__setattr__" = true) ∨ classOwn (.type n) (Str.ofString "__setattr__") = pure none := by
  have : n = "ValueError" ∨ n = "Exception" ∨ n = "BaseException" ∨ n = "object" := by simpa [excTypes] using h
  rcases this with rfl | rfl | rfl | rfl
  · exact .inr (by first | rfl | kernel_rfl)
  · exact .inr (by first | rfl | kernel_rfl)
  · exact .inr (by first | rfl | kernel_rfl)
  · exact .inl ⟨.builtin "object.__setattr__", by kernel_rfl, by decide +kernel⟩
theorem loop_ok {g : Value → Option Unit × Unit → Sem (ForInStep (Option Unit × Unit))} (hg : ∀ c, okEntry c = true → (∃ r, g c (none, ()) = pure (ForInStep.done r)) ∨ g c (none, ()) = pure (ForInStep.yield (none, ()))) :
    ∀ l : List Value, l.all okEntry = true → ∃ r, forIn l ((none : Option Unit), ()) g = pure r
  | [], _ => ⟨_, rfl⟩
  | c :: l, h => by
    rw [List.all_cons, Bool.and_eq_true] at h
    rw [List.forIn_cons]
    rcases hg c h.1 with ⟨r, e⟩ | e
    · rw [e]
      exact ⟨r, rfl⟩
    · rw [e]
      exact loop_ok hg l h.2
theorem over_ok {M : Model} {A : Around} {E : Value → Shared → Prop} {e C : Addr} {oe : Obj} {cd : ClassData} {K : W.Frag} {s : Shared} {Q : Unit → Shared → Prop} (X : K.In s.heap) (he : s.heap.get? e = some oe) (hc : oe.cls = .ref C) (hcd : W.clsIn K C = some cd) (ho : cd.mro.all okEntry = true) (hq : Q () s) :
    wpAny M A (Builtin.ObjectAttr.refuseIfOverridden (.ref e) (Str.ofString "__setattr__")) Q E s := by
  unfold Builtin.ObjectAttr.refuseIfOverridden typeOf
  refine wpAny_bind (wpAny_bind (wpAny_loadPart_at he (wpAny_pure ?_)))
  rw [hc]
  refine wpAny_bind ?_
  unfold mroOf
  refine wpAny_bind (W.Looks.here (W.looks_clsIn X hcd) (wpAny_pure ?_))
  refine wpAny_bind ?_
  refine wpAny_of_eq (loop_ok ?hg cd.mro ho).choose_spec ?_
  · intro c hc
    match c, hc with
    | .ref a, _ => exact .inr rfl
    | .type n, hn =>
      have hn' : n = "ValueError" ∨ n = "Exception" ∨ n = "BaseException" ∨ n = "object" := by simpa [okEntry, excTypes] using hn
      have h1 : (n == "_thread._local") = false := by rcases hn' with rfl | rfl | rfl | rfl <;> decide
      have h2 : (n == "_pickle.Pickler" || n == "_pickle.Unpickler") = false := by rcases hn' with rfl | rfl | rfl | rfl <;> decide
      dsimp only
      rw [h1, h2, if_neg (by decide), if_neg (by decide)]
      rcases own_sa hn with ⟨y, e1, e2⟩ | e1
      · refine .inl ⟨(some (), ()), ?_⟩
        rw [e1, show (Str.ofString "__setattr__").toString = "__setattr__" by decide +kernel, e2]
        rfl
      · refine .inr ?_
        rw [e1]
        rfl
  · dsimp only
    split <;> exact wpAny_pure hq
theorem check_slot {M : Model} {A : Around} {E : Value → Shared → Prop} {s : Shared} {id owner name : String} {self : Value} {rest : List Value} {Q : Unit → Shared → Prop} (hk : builtinKind id = some .slot) (hs : splitId id = some (owner, name)) (ht : wpAny M A (isInstance self (.type owner)) (fun b s' => b = true ∧ s' = s) E s)
    (ha : argsOk id ⟨self :: rest, []⟩) (hq : Q () s) : wpAny M A (checkBuiltinCall id ⟨self :: rest, []⟩) Q E s := by
  unfold checkBuiltinCall
  rw [hk, hs]
  dsimp only
  refine wpAny_bind (wpAny_mono ht (fun b s' hb => ?_) fun _ _ z => z)
  obtain ⟨rfl, rfl⟩ := hb
  refine wpAny_ite_false rfl ?_
  unfold argsOk at ha
  revert ha
  cases Manifest.signature? id with
  | none => exact fun _ => wpAny_pure hq
  | some sig => exact fun ha => wpAny_of_eq ha hq
theorem os_kind : builtinKind "object.__setattr__" = some .slot := by kernel_rfl
theorem os_split : splitId "object.__setattr__" = some ("object", "__setattr__") := by kernel_rfl
theorem os_args (e : Addr) (x : Str) (t : Tok) (v : Value) : argsOk "object.__setattr__" ⟨[.ref e, .str x t, v], []⟩ := by unfold argsOk; kernel_rfl
theorem os_entry : entryFor table "object.__setattr__" = some Builtin.«object.__setattr__» := entryFor_of_tree (by kernel_rfl)
/-- what is asked of a class of refusals with fields -/
structure XCls (K : W.Frag) (C : Addr) (cd : ClassData) : Prop where
  cls : W.clsIn K C = some cd
  ok : cd.mro.all okEntry = true
  obj : cd.mro.contains (.type "object") = true
  bex : cd.mro.contains (.type "BaseException") = true
  dct : cd.hasDict = true
  ga : W.findIn K (.ref C) (Str.ofString "__getattribute__") = some (some (.builtin "BaseException.__getattribute__"))
  gt : W.findIn K (.ref C) (Str.ofString "__getattr__") = some none
  sa : W.findIn K (.ref C) (Str.ofString "__setattr__") = some (some (.builtin "object.__setattr__"))
theorem inst_of {M : Model} {A : Around} {E : Value → Shared → Prop} {e C : Addr} {oe : Obj} {cd : ClassData} {K : W.Frag} {s : Shared} {B : String} (X : K.In s.heap) (hc : W.clsIn K C = some cd) (hb : cd.mro.contains (.type B) = true) (he : s.heap.get? e = some oe) (hoc : oe.cls = .ref C) :
    wpAny M A (isInstance (.ref e) (.type B)) (fun b s' => b = true ∧ s' = s) E s := by
  unfold isInstance typeOf
  refine wpAny_bind (wpAny_bind (wpAny_loadPart_at he (wpAny_pure ?_)))
  rw [hoc]
  unfold isSubtype mroOf
  refine wpAny_bind (wpAny_bind (W.Looks.here (W.looks_clsIn X hc) (wpAny_pure ?_)))
  have hne : cd.mro.isEmpty = false := by
    cases hm : cd.mro with
    | nil => rw [hm] at hb; cases hb
    | cons _ _ => rfl
  dsimp only
  rw [hne, if_neg (by decide)]
  exact wpAny_pure ⟨hb, rfl⟩
theorem inst_dict {M : Model} {A : Around} {E : Value → Shared → Prop} {e C : Addr} {fs : Array Value} {cd : ClassData} {K : W.Frag} {s : Shared} {Q : Option Addr → Shared → Prop} (X : K.In s.heap) (hc : W.clsIn K C = some cd) (hd : cd.hasDict = true) (he : s.heap.get? e = some ⟨.ref C, none, .fields fs, #[]⟩)
    (hq : Q (some s.heap.objs.size) { s with heap := (s.heap.push { cls := .type "dict", data := .dict #[] }).update e fun o => { o with dict := some s.heap.objs.size } }) : wpAny M A (instanceDict e true) Q E s := by
  unfold instanceDict
  refine wpAny_bind (wpAny_loadPart_at he ?_)
  dsimp only
  refine wpAny_bind (W.Looks.here (W.looks_clsIn X hc) ?_)
  rw [hd]
  refine wpAny_ite_false rfl ?_
  repeat wp_step
  exact hq
theorem exc_set {prog : Program} {w : World} {A : Around} {E : Value → Shared → Prop} {e C : Addr} {fs : Array Value} {cd : ClassData} {K : W.Frag} {s : Shared} {name : Str} {v : Value} {Q : Unit → Shared → Prop} (X : K.In s.heap) (XC : XCls K C cd) (he : s.heap.get? e = some ⟨.ref C, none, .fields fs, #[]⟩) (hn : W.findIn K (.ref C) name = some none)
    (hq : ∀ (h' : Heap) (tk : Nat), h'.get? e = some ⟨.ref C, some s.heap.objs.size, .fields fs, #[]⟩ → h'.Ns1 s.heap.objs.size (fun y => if y = name then some v else none) → (∀ b o, b ≠ e → s.heap.get? b = some o → h'.get? b = some o) → Q () { s with heap := h', toks := tk }) :
    wpAny (model prog w) A (setAttr (.ref e) name v) Q E s := by
  have J : W.InstAt s.heap e ⟨.ref C, none, .fields fs, #[]⟩ C none := ⟨he, rfl, rfl, trivial⟩
  refine W.set_plain X J XC.sa ?_
  have X1 : K.In ({ s with toks := s.toks + 1 } : Shared).heap := X
  have he1 : ({ s with toks := s.toks + 1 } : Shared).heap.get? e = some ⟨.ref C, none, .fields fs, #[]⟩ := he
  refine codeAny_call_builtin_at (b := Builtin.«object.__setattr__») (Code.quiet_builtin _ (by decide +kernel)) os_entry ?_
  refine check_slot (id := "object.__setattr__") (owner := "object") (name := "__setattr__") (self := .ref e) (rest := [.str name s.toks, v]) os_kind os_split ?_ (os_args e _ _ _) ?_
  · exact inst_of X1 XC.cls XC.obj he1 rfl
  unfold Builtin.«object.__setattr__»
  refine wpAny_ite_false rfl ?_
  refine wpAny_bind (over_ok X1 he1 rfl XC.cls XC.ok ?_)
  refine wpAny_bind (wpAny_pure ?_)
  refine wpAny_bind ?_
  unfold typeOf
  refine wpAny_bind (wpAny_loadPart_at he1 (wpAny_pure ?_))
  refine wpAny_bind (W.Looks.here (W.looks_findIn X1 hn) ?_)
  refine wpAny_bind (wpAny_pure ?_)
  unfold Builtin.ObjectAttr.storeInOwnDict
  dsimp only
  refine wpAny_bind (wpAny_pure ?_)
  rw [if_neg (by simp)]
  refine wpAny_bind ?_
  refine inst_dict X1 XC.cls XC.dct he1 ?_
  have hlt : e < s.heap.objs.size := Heap.lt_size he
  have hne : s.heap.objs.size ≠ e := Ne.symm (Nat.ne_of_lt hlt)
  have hp : (s.heap.push { cls := .type "dict", data := .dict #[] }).get? e = some ⟨.ref C, none, .fields fs, #[]⟩ := Heap.get?_push_of_some _ he
  have hd0 : ((s.heap.push { cls := .type "dict", data := .dict #[] }).update e fun o => { o with dict := some s.heap.objs.size }).Ns1 s.heap.objs.size (fun _ => none) := by
    refine ⟨_, #[], _, (Heap.get?_update_other _ _ (Ne.symm hne)).trans (Heap.get?_push_size _ rfl), rfl, ?_, ?_, fun _ => rfl⟩
    · intro x hx
      simp at hx
    · unfold UniqKeys
      simp
  dsimp only
  unfold Builtin.ObjectAttr.storeInDict
  refine wpAny_bind (wpAny_pure (wpAny_bind (wpAny_nsSet1 (s := { s with heap := (s.heap.push { cls := .type "dict", data := .dict #[] }).update e fun o => { o with dict := some s.heap.objs.size }, toks := s.toks + 1 }) hd0 fun h' hn2 hs2 => ?_)))
  obtain ⟨oD, esD, epD, hoD, hdD, hcD⟩ := hn2.count (PySem.Within.cons (ns := []) name v (fun _ z => absurd rfl z))
  refine wpAny_bind (wpAny_lookBehind hoD (by rw [hdD]; exact pastItsLine_dict (Nat.le_trans hcD (Nat.le_add_left 1 _))) ?_)
  refine wpAny_pure (hq h' _ ?_ hn2 fun b o hb ho => ?_)
  · exact (hs2.2 _ (Ne.symm hne)).trans (Heap.get?_update_self _ hp rfl)
  · have hbs : b ≠ s.heap.objs.size := Nat.ne_of_lt (Heap.lt_size ho)
    refine (hs2.2 _ hbs).trans ?_
    rw [Heap.get?_update_other _ _ (Ne.symm hb)]
    exact Heap.get?_push_of_some _ ho
theorem bg_entry : entryFor table "BaseException.__getattribute__" = some Builtin.«object.__getattribute__» := entryFor_alias (id' := "object.__getattribute__") (by kernel_rfl) (by first | rfl | decide +kernel | (unfold String.splitOn; simp +decide [String.splitOnAux])) (by decide +kernel) (by kernel_rfl)
theorem bg_kind : builtinKind "BaseException.__getattribute__" = some .slot := by kernel_rfl
theorem bg_split : splitId "BaseException.__getattribute__" = some ("BaseException", "__getattribute__") := by kernel_rfl
theorem bg_bind (e : Addr) : bindSpecial (.builtin "BaseException.__getattribute__") (.ref e) = pure (.builtin "BaseException.__getattribute__", [.ref e]) := by first | rfl | kernel_rfl
theorem bg_args (e : Addr) (x : Str) (t : Tok) : argsOk "BaseException.__getattribute__" ⟨[.ref e, .str x t], []⟩ := by unfold argsOk; kernel_rfl
theorem own_get {M : Model} {A : Around} {E : Value → Shared → Prop} {e C dx : Addr} {oe : Obj} {cd : ClassData} {K : W.Frag} {s : Shared} {name : Str} {v : Value} {mA : Str → Option Value} {Q : Option Value → Shared → Prop} (X : K.In s.heap) (hc : W.clsIn K C = some cd) (hdt : cd.hasDict = true) (he : s.heap.get? e = some oe) (hoc : oe.cls = .ref C) {fs : Array Value} (hdat : oe.data = .fields fs) (hod : oe.dict = some dx) (hd : s.heap.Ns1 dx mA) (hv : mA name = some v) (hq : Q (some v) s) :
    wpAny M A (Builtin.ObjectAttr.inOwnDict name (.ref e)) Q E s := by
  unfold Builtin.ObjectAttr.inOwnDict Builtin.ObjectAttr.ownDict
  dsimp only
  refine wpAny_bind ?_
  unfold instanceDict
  refine wpAny_bind (wpAny_loadPart_at he ?_)
  rw [hdat]
  dsimp only
  refine wpAny_bind (wpAny_loadPart_at he ?_)
  rw [hoc]
  dsimp only
  refine wpAny_bind (W.Looks.here (W.looks_clsIn X hc) ?_)
  rw [hdt]
  refine wpAny_ite_false rfl ?_
  rw [hod]
  refine wpAny_pure ?_
  unfold Builtin.ObjectAttr.inDict
  dsimp only
  refine wpAny_nsGet hd.ns ?_
  rw [hv]
  exact hq
theorem exc_get {prog : Program} {w : World} {A : Around} {E : Value → Shared → Prop} {e C dx : Addr} {oe : Obj} {cd : ClassData} {K : W.Frag} {s : Shared} {name : Str} {expr : Bool} {v : Value} {mA : Str → Option Value} {Q : Value → Shared → Prop} (X : K.In s.heap) (XC : XCls K C cd) (he : s.heap.get? e = some oe) (hoc : oe.cls = .ref C) {fs : Array Value} (hdat : oe.data = .fields fs) (hod : oe.dict = some dx) (hd : s.heap.Ns1 dx mA) (hv : mA name = some v)
    (hn : W.findIn K (.ref C) name = some none) (hh : ∀ id, v ≠ .builtin id) (hq : ∀ tk, Q v { s with toks := tk }) :
    wpAny (model prog w) A (getAttr (.ref e) name expr) Q E s := by
  unfold getAttr getAttrBy
  refine wpAny_bind (wpAny_mkText ?_)
  have X1 : K.In ({ s with toks := s.toks + 1 } : Shared).heap := X
  have he1 : ({ s with toks := s.toks + 1 } : Shared).heap.get? e = some oe := he
  refine wpAny_holding ?_
  unfold typeOf
  refine wpAny_bind (wpAny_bind (wpAny_loadPart_at he1 (wpAny_pure ?_)))
  rw [hoc]
  refine wpAny_bind (W.Looks.here (W.looks_findIn X1 XC.ga) ?_)
  dsimp only
  rw [if_neg (by rw [show (Value.builtin "BaseException.__getattribute__" == Value.builtin "object.__getattribute__") = false by decide, Bool.and_false]; decide)]
  unfold getAttrByItsOwn
  refine wpAny_bind ?_
  unfold hookBefore
  rw [if_pos (by rfl)]
  refine W.Looks.here (W.looks_findIn X1 XC.gt) ?_
  unfold callGetattribute
  rw [if_neg (by rw [show onTheHeap (Value.builtin "BaseException.__getattribute__") = false by rfl, Bool.and_false]; decide)]
  repeat wp_step
  refine wpAny_of_eq (bg_bind e) ?_
  dsimp only
  refine wpAny_call ?_
  show codeAny _ _ (.call (.builtin "BaseException.__getattribute__") ⟨[.ref e, .str name s.toks], []⟩) _ _
  refine codeAny_call_builtin_at (b := Builtin.«object.__getattribute__») (Code.quiet_builtin _ (by decide +kernel)) bg_entry ?_
  refine check_slot (id := "BaseException.__getattribute__") (owner := "BaseException") (name := "__getattribute__") (self := .ref e) (rest := [.str name s.toks]) bg_kind bg_split (inst_of X1 XC.cls XC.bex he1 hoc) (bg_args e _ _) ?_
  unfold Builtin.«object.__getattribute__» slotArgs
  dsimp only
  refine wpAny_bind (wpAny_pure ?_)
  dsimp only
  refine wpAny_bind (wpAny_pure ?_)
  unfold typeOf
  refine wpAny_bind (wpAny_bind (wpAny_loadPart_at he1 (wpAny_pure ?_)))
  rw [hoc]
  unfold Builtin.ObjectAttr.find
  refine wpAny_bind (wpAny_bind (W.Looks.here (W.looks_findIn X1 hn) ?_))
  refine wpAny_bind (wpAny_pure (wpAny_bind (wpAny_pure ?_)))
  dsimp only
  unfold Builtin.ObjectAttr.ownThenClass
  refine wpAny_bind ?_
  refine own_get X1 XC.cls XC.dct he1 hoc hdat hod hd hv ?_
  dsimp only
  refine wpAny_bind ?_
  repeat wp_step
  cases v <;> first | exact wpAny_pure (hq _) | exact absurd rfl (hh _)
/-- a refusal has left a frame, and its own dict is the same -/
def LeftD (base : Heap) (l : List Env) (e : Addr) (cls a0 : Value) (dx : Option Addr) (h h' : Heap) : Prop := base.LeftW l e cls a0 h h' ∧ ∃ oe, h'.get? e = some oe ∧ oe.dict = dx
theorem mapFields_dict (f : Array Value → Array Value) (o : Obj) : (Obj.mapFields f o).dict = o.dict := by
  unfold Obj.mapFields
  split <;> rfl
theorem left_of {base h h1 : Heap} {l : List Env} {e : Addr} {oe : Obj} {vs : Array Value} {a0 : Value} {dx : Option Addr} {tb : Obj} {ts : Array Value} (hl : h.FunFrames base l) (he : h.get? e = some oe) (hkb : base.StaysIn h) (hen : base.get? e = none) (hd : oe.data = .fields vs) (hsz : 1 < vs.size) (h0 : vs[0]? = some a0) (hdx : oe.dict = dx)
    (S : Heap.SlotsOnly (List.filterMap (fun x => x.frame) l) h h1) (ht : tb.data = .fields ts) (h3 : 3 < ts.size) :
    LeftD base l e oe.cls a0 dx h (((h1.push tb).update e (Obj.mapFields fun x => x.setIfInBounds 1 (.ref h1.objs.size))).update h1.objs.size (Obj.mapFields fun x => x.setIfInBounds 3 .none)) := by
  have hene : e ∉ List.filterMap (fun x => x.frame) l := fun hm => by
    obtain ⟨_, o, ho, hnf⟩ := hl.mem hm
    rw [he] at ho
    cases ho
    exact hnf vs hd
  have he1 : h1.get? e = some oe := (S.2.1 e hene).trans he
  have he2 := Heap.get?_push_of_some tb he1
  have hTe : h1.objs.size ≠ e := Nat.ne_of_gt (Heap.lt_size he1)
  have hd3 := Obj.data_mapFields hd fun x => x.setIfInBounds 1 (.ref h1.objs.size)
  have he3 := Heap.get?_update_self (Obj.mapFields fun x => x.setIfInBounds 1 (.ref h1.objs.size)) he2 (Obj.isFreed_of_fields hd3)
  have hT2 : (h1.push tb).get? h1.objs.size = some tb := Heap.get?_push_size h1 (Obj.isFreed_of_fields ht)
  have hT3 : ((h1.push tb).update e (Obj.mapFields fun x => x.setIfInBounds 1 (.ref h1.objs.size))).get? h1.objs.size = some tb := (Heap.get?_update_other _ _ (Ne.symm hTe)).trans hT2
  have hdT := Obj.data_mapFields ht fun x => x.setIfInBounds 3 .none
  have hT4 := Heap.get?_update_self (Obj.mapFields fun x => x.setIfInBounds 3 .none) hT3 (Obj.isFreed_of_fields hdT)
  have he4 : (((h1.push tb).update e (Obj.mapFields fun x => x.setIfInBounds 1 (.ref h1.objs.size))).update h1.objs.size (Obj.mapFields fun x => x.setIfInBounds 3 .none)).get? e = some (Obj.mapFields (fun x => x.setIfInBounds 1 (.ref h1.objs.size)) oe) := (Heap.get?_update_other _ _ hTe).trans he3
  have other : ∀ b o, h1.get? b = some o → b ≠ e → (((h1.push tb).update e (Obj.mapFields fun x => x.setIfInBounds 1 (.ref h1.objs.size))).update h1.objs.size (Obj.mapFields fun x => x.setIfInBounds 3 .none)).get? b = some o := fun b o ho hb => by
    have hbT : h1.objs.size ≠ b := Nat.ne_of_gt (Heap.lt_size ho)
    rw [Heap.get?_update_other _ _ hbT, Heap.get?_update_other _ _ (Ne.symm hb)]
    exact Heap.get?_push_of_some _ ho
  have baseF : ∀ b, b ∈ List.filterMap (fun x => x.frame) l → base.get? b = none := fun b hm => (hl.mem hm).1
  refine ⟨⟨fun b o hbo => ?_, ?_, ?_, fun b o ho hnf => ?_⟩, _, he4, (mapFields_dict _ _).trans hdx⟩
  · have hb : b ≠ e := fun z => by
      rw [z, hen] at hbo
      cases hbo
    refine other b o ?_ hb
    rw [S.2.1 b fun hm => by rw [baseF b hm] at hbo; cases hbo]
    exact hkb b o hbo
  · refine Heap.FunFrames.of_keeps (fun b o ho hnf => ?_) (Heap.FunFrames.of_slotsOnly S hl)
    have hb : b ≠ e := fun z => by
      rw [z, he1] at ho
      cases ho
      exact hnf vs hd
    exact ⟨o, other b o ho hb, rfl⟩
  · refine ⟨_, _, h1.objs.size, _, _, he4, ⟨Obj.cls_mapFields _ _, ?_⟩, hd3, ?_, ?_, hTe, hT4, hdT, ?_⟩
    · rw [Array.getElem?_setIfInBounds_ne (by decide)]
      exact h0
    · rw [Array.getElem?_setIfInBounds_self_of_lt hsz]
    · cases hq : base.get? h1.objs.size with
      | none => rfl
      | some o =>
        have := hkb _ _ hq
        have hlt := Heap.lt_size this
        rw [S.1] at hlt
        exact absurd hlt (Nat.lt_irrefl _)
    · rw [Array.getElem?_setIfInBounds_self_of_lt h3]
  · obtain ⟨sl, hsl⟩ := S.2.2 b o ho
    have hb : b ≠ e := fun z => by
      rw [z, he] at ho
      cases ho
      exact hnf vs hd
    exact ⟨sl, other b _ hsl hb⟩
theorem place_len {L : Nat} {pl : List Value} (h : IsPlace pl) (x : Value) : ([x, Value.ref L, Value.none, rawInt (L : Int), Value.none] ++ if pl.isEmpty = true then List.replicate 6 Value.none else pl).toArray.size = 11 := by
  rcases h with rfl | ⟨a, b, c, d, c9, b10, _, rfl⟩ <;> rfl
theorem note_next {M : Model} {A : Around} {E : Value → Shared → Prop} {s : Shared} {base : Heap} {env : Env} {outer : List Env} {L e T : Addr} {oe oT : Obj} {vs ts : Array Value} {a0 : Value} {dx : Option Addr} {Q : Unit → Shared → Prop} (hfr : A.frames = some (env :: outer)) (hl : s.heap.FunFrames base (env :: outer)) (hf : env.frame = some L) (he : s.heap.get? e = some oe) (hkb : base.StaysIn s.heap) (hen : base.get? e = none) (hd : oe.data = .fields vs) (h1 : vs[1]? = some (.ref T)) (h0 : vs[0]? = some a0) (hdx : oe.dict = dx)
    (hbT : base.get? T = none) (hTe0 : T ≠ e) (hT : s.heap.get? T = some oT) (hdT : oT.data = .fields ts) (h3 : ts[3]? = some .none)
    (h : ∀ h' : Heap, LeftD base (env :: outer) e oe.cls a0 dx s.heap h' → Q () { s with heap := h' }) : wpAny M A (noteFrame (.ref e) env) (fun _ s' => wpAny M A (setFlight (.ref e) none) Q E s') E s := by
  have hsz : 1 < vs.size := (Array.getElem?_eq_some_iff.mp h1).1
  unfold noteFrame
  simp only [hf]
  refine wpAny_bind (wpAny_field he hd h1 ?_)
  rw [if_pos (by rfl)]
  refine wpAny_bind (wpAny_field hT hdT h3 ?_)
  rw [if_neg (by unfold rawInt; intro z; cases z)]
  refine wpAny_bind (wpAny_setField hT hdT (Array.getElem?_eq_some_iff.mp h3).1 ?_)
  have hdT2 := Obj.data_mapFields hdT fun x => x.setIfInBounds 3 .none
  have keep : ∀ b o, b ≠ T → s.heap.get? b = some o → (s.heap.update T (Obj.mapFields fun x => x.setIfInBounds 3 .none)).get? b = some o := fun b o hb ho => (Heap.get?_update_other _ _ (Ne.symm hb)).trans ho
  have he' := keep e oe (Ne.symm hTe0) he
  have hkb' : base.StaysIn (s.heap.update T (Obj.mapFields fun x => x.setIfInBounds 3 .none)) := fun b o hb => keep b o (fun z => by rw [z, hbT] at hb; cases hb) (hkb b o hb)
  have hl' : (s.heap.update T (Obj.mapFields fun x => x.setIfInBounds 3 .none)).FunFrames base (env :: outer) := Heap.FunFrames.of_keeps (fun b o ho hnf => ⟨o, keep b o (fun z => by
    rw [z, hT] at ho
    cases ho
    exact hnf ts hdT) ho, rfl⟩) hl
  have keepN : ∀ b o, s.heap.get? b = some o → (∀ vs : Array Value, o.data ≠ .fields vs) → (s.heap.update T (Obj.mapFields fun x => x.setIfInBounds 3 .none)).get? b = some o := fun b o ho hnf => keep b o (fun z => by
    rw [z, hT] at ho
    cases ho
    exact hnf ts hdT) ho
  replace he := he'
  replace hkb := hkb'
  replace hl := hl'
  clear he' hkb' hl' keep
  generalize s.heap.update T (Obj.mapFields fun x => x.setIfInBounds 3 .none) = hp at he hkb hl keepN ⊢
  refine wpAny_bind (wpAny_frameOf_fun (s := { s with heap := hp }) hfr hl hf fun hh S => wpAny_bind (wpAny_entryPlaceOf fun pl hpl => wpAny_bind ?_))
  unfold EntryCells.newEntry newFields
  have hlen : ∀ x : Value, ([x, Value.ref L, Value.none, rawInt (L : Int), Value.none] ++ if pl.isEmpty = true then List.replicate 6 Value.none else pl).toArray.size = 11 := place_len hpl
  refine wpAny_newObj_type ?_ (by show Array.size _ ≤ sizeLine + 2; rw [hlen]; decide)
  have hene : e ∉ List.filterMap (fun x => x.frame) (env :: outer) := fun hm => by
    obtain ⟨_, o, ho, hnf⟩ := hl.mem hm
    rw [he] at ho
    cases ho
    exact hnf vs hd
  have he1 : hh.get? e = some oe := (S.2.1 e hene).trans he
  refine wpAny_setField (Heap.get?_push_of_some _ he1) hd hsz ?_
  unfold setFlight
  have hd3 := Obj.data_mapFields hd fun x => x.setIfInBounds 1 (.ref hh.objs.size)
  refine wpAny_bind (wpAny_field (Heap.get?_update_self (Obj.mapFields fun x => x.setIfInBounds 1 (.ref hh.objs.size)) (Heap.get?_push_of_some _ he1) (Obj.isFreed_of_fields hd3)) hd3 (Array.getElem?_setIfInBounds_self_of_lt hsz) ?_)
  rw [if_pos (by rfl)]
  have hTe : hh.objs.size ≠ e := Nat.ne_of_gt (Heap.lt_size he1)
  refine wpAny_setField ((Heap.get?_update_other _ _ (Ne.symm hTe)).trans (Heap.get?_push_size hh rfl)) rfl ?_ ?_
  · rw [hlen]
    decide
  · obtain ⟨⟨l1, l2, l3, l4⟩, l5⟩ := left_of hl he hkb hen hd hsz h0 hdx S (tb := { cls := .type "traceback", data := .fields ([Value.ref T, Value.ref L, Value.none, rawInt (L : Int), Value.none] ++ if pl.isEmpty = true then List.replicate 6 Value.none else pl).toArray }) rfl (by rw [hlen]; decide)
    exact h _ ⟨⟨l1, l2, l3, fun b o ho hnf => l4 b o (keepN b o ho hnf) hnf⟩, l5⟩
/-- the flight is noted again: the refusal and its dict are the same -/
theorem land_again {M : Model} {A : Around} {E : Value → Shared → Prop} {s : Shared} {base : Heap} {l : List Env} {e : Addr} {oe : Obj} {cls a0 : Value} {dx : Option Addr} {Q : Unit → Shared → Prop} (F : base.FlyingW l e cls a0 s.heap) (he : s.heap.get? e = some oe) (hdx : oe.dict = dx)
    (h : ∀ h' : Heap, base.FlyingW l e cls a0 h' → s.heap.UpToSlots h' → h'.get? e = some oe → Q () { s with heap := h' }) : wpAny M A (setFlight (.ref e) none) Q E s := by
  obtain ⟨f1, f2, f3, oe2, vs, T, oT, ts, he2, ⟨hc, h0⟩, hd, h1, hbT, hTe, hT, hdT, h3⟩ := F
  rw [he] at he2
  cases he2
  unfold setFlight
  refine wpAny_bind (wpAny_field he hd h1 ?_)
  rw [if_pos (by rfl)]
  have h3s := (Array.getElem?_eq_some_iff.mp h3).1
  have hdT2 := Obj.data_mapFields hdT fun x => x.setIfInBounds 3 .none
  have hT2 := Heap.get?_update_self (Obj.mapFields fun x => x.setIfInBounds 3 .none) hT (Obj.isFreed_of_fields hdT2)
  have keep : ∀ b o, b ≠ T → s.heap.get? b = some o → (s.heap.update T (Obj.mapFields fun x => x.setIfInBounds 3 .none)).get? b = some o := fun b o hb ho => (Heap.get?_update_other _ _ (Ne.symm hb)).trans ho
  have nT : ∀ b o, s.heap.get? b = some o → (∀ vs : Array Value, o.data ≠ .fields vs) → b ≠ T := fun b o ho hnf z => by
    rw [z, hT] at ho
    cases ho
    exact hnf ts hdT
  have he3 := keep e oe (Ne.symm hTe) he
  refine wpAny_setField hT hdT h3s (h _ ⟨fun b o hb => keep b o (fun z => by rw [z, hbT] at hb; cases hb) (f1 b o hb), f2, Heap.FunFrames.of_keeps (fun b o ho hnf => ⟨o, keep b o (nT b o ho hnf) ho, rfl⟩) f3, oe, vs, T, _, _, he3, ⟨hc, h0⟩, hd, h1, hbT, hTe, hT2, hdT2, ?_⟩ (fun b o ho hnf => ⟨o.slots, keep b o (nT b o ho hnf) ho⟩) he3)
  rw [Array.getElem?_setIfInBounds_self_of_lt h3s]
end PySem
/-! EvExd: refusals that may carry a dict of their own: EvExc's forms with the dict's address. Behind EvExc and EvXi. -/
namespace L2
open PySem PySem.Spec PyProof.Rows
/-- as FlyT, the refusal's own dict known -/
structure FlyD (h0 : Heap) (H : Hp) (a T : Addr) (C : Value) (dx : Option Addr) (h : Heap) : Prop where
  na : h0.get? a = none
  fa : H a = none
  nT : h0.get? T = none
  fT : H T = none
  ob : ∃ oe vs a0 oT ts, h.get? a = some oe ∧ oe.cls = C ∧ oe.dict = dx ∧ oe.data = .fields vs ∧ vs[0]? = some a0 ∧ vs[1]? = some (.ref T) ∧ T ≠ a ∧ h.get? T = some oT ∧ oT.data = .fields ts ∧ ts[3]? = some .none
structure FlyE (h0 : Heap) (H : Hp) (a : Addr) (C : Value) (dx : Option Addr) (h : Heap) : Prop where
  na : h0.get? a = none
  fa : H a = none
  ob : ∃ oe vs a0, h.get? a = some oe ∧ oe.cls = C ∧ oe.dict = dx ∧ oe.data = .fields vs ∧ vs[0]? = some a0 ∧ vs[1]? = some .none
def CXD (P : Program) (w : World) : CXT := fun outer H s E e s' => ∃ (a T : Addr) (C : Value) (dx : Option Addr) (H' : Hp), e = .ref a ∧ s'.os = s.os ∧ AllBare s'.gens ∧ Un (frs outer) [] H H' s.heap s'.heap ∧ HOk P w H' s'.heap ∧
  FlyD s.heap H' a T C dx s'.heap ∧ E C dx H'
def XED (X : Cx) (E : XK) : Value → Shared → Prop := fun e s' => ∃ (a : Addr) (C : Value) (dx : Option Addr) (H' : Hp) (σ : St), e = .ref a ∧ Inv X [] σ H' s' ∧ (FlyE X.s₀.heap H' a C dx s'.heap ∨ ∃ T, FlyD X.s₀.heap H' a T C dx s'.heap) ∧ E C dx H'
section
variable {X : Cx} {pins : List (Addr × Obj)} {σ : St} {H H' : Hp} {s s' : Shared}
theorem passED {E : XK} (hex : X.ex = []) : Passes (CXD X.prog X.w) (X.wish (XED X E)) E := fun pins σ H s e s' I q => by
  obtain ⟨a, T, C, dx, H', rfl, os, bare, un, hok, fl, qE⟩ := q
  have I0 : Inv X pins σ H s := I.unwish
  refine ⟨a, C, dx, H', σ, rfl, (I0.call' os un hok bare (fun b z => absurd z (by simp))).nopins, .inr ⟨T, ?_⟩, qE⟩
  exact ⟨I0.new0 hex fl.na, fl.fa, I0.new0 hex fl.nT, fl.fT, fl.ob⟩
end
section
variable {P : Program} {w : World} {K : PySem.W.Frag} {mg : Str → Option Value} {base : Heap} {N : List Str} {qual : Str} {scope : Scope} {f : Addr} {cd : Value} {A : Around} {outer : List Env} {s : Shared} {H : Hp} {E : XK}
end
end L2
/-! EvXin: refusals whose class has its own __init__ with one field: the rules. Behind EvExd. -/
namespace PySem
theorem ns_some {K : W.Frag} {h : Heap} {N : Addr} {m : Str → Option Value} {n : Str} {v : Value} (X : K.In h) (G : h.Ns N m) (e : W.nsIn K N n = some (some v)) : m n = some v := by
  obtain ⟨o, es, ep, ho, hd, _, hf⟩ := G
  unfold W.nsIn at e
  split at e
  · rename_i heq
    have h2 := X _ _ heq
    rw [ho] at h2
    cases h2
    cases hd
    have := hf n
    unfold nsFind findBy at this
    rw [← Array.find?_toList] at this
    rw [← this]
    split at e
    · rename_i y hy
      rw [hy]
      cases e
      rfl
    · split at e <;> cases e
  · cases e
theorem getm_base {prog : Program} {w : World} {A : Around} {E : Value → Shared → Prop} {s : Shared} {K : W.Frag} {M : Addr} {pl : Sem Bool} {b : String} {Q : Value × List Value → Shared → Prop} (X : K.In s.heap) (hsp : W.specialIn K (.ref M) (Str.ofString "__getattribute__") = some (some (.builtin "type.__getattribute__"))) (hr : W.readsIn K M (.type "type") = true)
    (hf : W.findCls K (.ref M) (.type "type") (Str.ofString "__init__") = some (.val (.builtin b))) (hb : (withoutEnding? b "#data").isSome = false) (hq : Q (.builtin b, []) { s with toks := s.toks + 1 }) : wpAny (model prog w) A (getMethod (.ref M) (Str.ofString "__init__") pl) Q E s := by
  unfold getMethod
  refine wpAny_bind (W.Looks.here (W.looks_specialIn X hsp) ?_)
  dsimp only
  rw [if_pos (by decide +kernel)]
  refine wpAny_bind (W.cls_read X hr hf ?_)
  show wpAny _ _ (ret (.builtin b)) _ _ _
  refine wpAny_pure ?_
  unfold handedOut
  dsimp only
  rw [hb, if_neg (by decide)]
  exact wpAny_pure (wpAny_pure hq)
end PySem
namespace PySem.W
open PySem PySem.Calls PyProof.Rows Builtin Builtin.ObjectAttr Builtin.Getset_descriptor
/-- isinstance of a refusal whose class has its own __init__ -/
structure ExcD (K : Frag) (C : Addr) : Prop where
  lk : ∃ nm q N bs bm hdct sn sub ab col dd k0 k1 k2 k3 k5 nw, K.lookup C = some (excClassObj nm q C N bs bm hdct sn sub ab col dd k0 k1 k2 k3 k5 nw)
  ga : findIn K (.ref C) "__getattribute__" = some (some (.builtin "BaseException.__getattribute__"))
  no : findIn K (.ref C) "__getattr__" = some none
  cl : findIn K (.ref C) "__class__" = some (some (.builtin "object.__class__"))
  ob : mroIn K C (.type "object") = some true
  be : mroIn K C (.type "BaseException") = some true
section
variable {prog : Program} {w : World} {A : Around} {E : Value → Shared → Prop} {s : Shared} {K : Frag} {x C D : Addr} {ox : Obj}
set_option maxHeartbeats 400000 in
theorem exc_caD {Q : Option Value → Shared → Prop} (T : ExcD K C) (G : ClsK K) (X : K.In s.heap) (hx : s.heap.get? x = some ox) (hc : ox.cls = .ref C) (h : Q (some (.ref C)) { s with toks := s.toks + 1 }) :
    wpAny (model prog w) A (getAttr? (.ref x) "__class__") Q E s := by
  obtain ⟨hh, g, d, t, os⟩ := s
  have Q0 : Looks (model prog w) hh (typeOf (.ref x)) (.ref C) := hc ▸ (Looks.ld hx).andThen .now
  have Q1 := looks_findIn (M := model prog w) X T.ga
  have Q2 := looks_findIn (M := model prog w) X T.no
  have Q3 := looks_findIn (M := model prog w) X T.cl
  have Q4 := looks_takesIn (M := model prog w) X G.tk
  have Q5 : Looks (model prog w) hh (getOf (some (.builtin "object.__class__"))) (some (.builtin "getset_descriptor.__get__")) := looks_specialIn (M := model prog w) X G.gt
  have Q6 : Looks (model prog w) hh (find (.ref x) (.ref C) "__class__") (.bind (.builtin "getset_descriptor.__get__") (.builtin "object.__class__")) :=
    Q3.andThen (Q5.andThen ((show Looks (model prog w) hh (dataDescriptor? (some (.builtin "object.__class__")) (some (.builtin "getset_descriptor.__get__"))) (some (.builtin "getset_descriptor.__get__", .builtin "object.__class__")) from Q4.andThen .now).andThen (Looks.tag .now)))
  have Q7 : Looks (model prog w) hh (isInstance (.ref x) (.type "BaseException")) true := Q0.andThen (looks_mroIn X T.be)
  have hx2 : (Value.builtin "BaseException.__getattribute__" == Value.builtin "object.__getattribute__") = false := by decide +kernel
  have hx1 : ¬ ((onTheHeap (Value.ref C) && Value.builtin "BaseException.__getattribute__" == Value.builtin "object.__getattribute__") = true) := by rw [hx2, Bool.and_false]; exact Bool.false_ne_true
  unfold getAttr? getAttrBy? getAttrBy
  refine wpAny_bind (wpAny_mkText (wpAny_bind (wpAny_attempt (wpAny_holding (wpAny_bind (Q0.at (wpAny_bind (Q1.at ?_))))))))
  refine wp_if_neg hx1 ?_
  unfold getAttrByItsOwn
  refine wpAny_bind ?_
  show wpAny _ _ (typeLookup (.ref C) "__getattr__") _ _ _
  refine Q2.at ?_
  refine wpAny_bind (wpAny_attempt (wpAny_holding ?_))
  show wpAny _ _ (boundAndCalled (.builtin "BaseException.__getattribute__") (.ref x) _) _ _ _
  unfold boundAndCalled
  refine wpAny_bind (wpAny_of_eq (PySem.F.attr_ValueError.ga.bind _) ?_)
  refine wpAny_call (exc_ga_call Q7 ?_)
  unfold Builtin.«object.__getattribute__»
  refine wpAny_bind (wpAny_of_eq (ga_slot _ _) ?_)
  refine wpAny_bind (wpAny_of_eq (ga_name _ _) ?_)
  refine wpAny_bind (Q0.at (wpAny_bind (Q6.at ?_)))
  show wpAny _ _ (bindTo (.builtin "getset_descriptor.__get__") (.builtin "object.__class__") (.ref x) (.ref C)) _ _ _
  unfold bindTo
  refine wpAny_bind (wpAny_holding (wpAny_call (exc_class_get X hx hc T.ob ?_)))
  refine wpAny_pure ?_
  exact handed_on rfl (wpAny_pure h)
theorem kitx_excD (T : ExcD K C) (G : ClsK K) : KitX K (.ref x) (.ref C) (fun h => ∃ o, h.get? x = some o ∧ o.cls = .ref C) where
  ty := fun _ _ _ ⟨_, hx, hc⟩ => hc ▸ (Looks.ld hx).andThen .now
  it := fun _ _ X _ => by
    obtain ⟨nm, q, N, bs, bm, hdct, sn, sub, ab, col, dd, k0, k1, k2, k3, k5, nw, lk⟩ := T.lk
    have hC := X _ _ lk
    intro A' Q' E' s' k q
    unfold isType loadHead
    exact wpAny_bind (wpAny_loadPart (k _ _ hC) (wpAny_pure q))
  ne := fun h tp dd its n sl X htp => by
    obtain ⟨nm, q, N, bs, bm, hdct, sn, sub, ab, col, dd, k0, k1, k2, k3, k5, nw, lk⟩ := T.lk
    have hC := X _ _ lk
    refine Bool.eq_false_iff.mpr fun q => ?_
    have e : C = tp := Value.ref.inj (beq_iff_eq.mp q)
    subst e
    exact absurd (Value.type.inj (congrArg Obj.cls (Option.some.inj (hC.symm.trans htp)))) (by decide)
  ca := fun X ⟨_, hx, hc⟩ k => exc_caD T G X hx hc k
end
end PySem.W
namespace L2
open PySem PySem.Spec PyProof.Rows
/-- a refusal's object: its class, its own dict -/
def XN (e C : Addr) (dx : Option Addr) : HO := .ext fun h => ∃ t, h.get? e = some ⟨.ref C, dx, .fields #[.ref t, .none, .none, .none, .bool false, .none], #[]⟩
theorem XN.mk {P : Program} {w : World} {H : Hp} {h : Heap} {e C t : Addr} {dx : Option Addr} (he : h.get? e = some ⟨.ref C, dx, .fields #[.ref t, .none, .none, .none, .bool false, .none], #[]⟩) : ObjOk P w H h e (XN e C dx) := ⟨⟨t, he⟩, ⟨_, he⟩, fun _ _ ⟨t', e1⟩ k => ⟨t', k _ e1⟩⟩
theorem XN.at {P : Program} {w : World} {H : Hp} {h : Heap} {e C : Addr} {dx : Option Addr} (ok : HOk P w H h) (q : H e = some (XN e C dx)) : ∃ t, h.get? e = some ⟨.ref C, dx, .fields #[.ref t, .none, .none, .none, .bool false, .none], #[]⟩ := (ok e _ q).1
/-- what the fragment tells of a class of refusals: its own __init__, its field -/
structure OwnX (K : PySem.W.Frag) (C fI : Addr) (fl : Str) : Prop where
  ex : ∃ nm q N bs bm hdct sn sub ab col dd k0 k1 k2 k3 k5, K.lookup C = some (excClassObj nm q C N bs bm hdct sn sub ab col dd k0 k1 k2 k3 k5 newVE) ∧ PySem.W.tailIn K bmVE bm = true ∧ PySem.W.nsOkIn K N = true ∧ PySem.W.nsIn K N "__init__" = some (some (.ref fI))
  fn : PySem.W.isFn K (.ref fI) = true
  xc : ∃ cd, XCls K C cd
  fd : PySem.W.findIn K (.ref C) fl = some none
  kp : PySem.W.keepIn K (.ref C) = true
/-- .. of the base that is named: its __init__ -/
structure BaseX (K : PySem.W.Frag) (M : Addr) : Prop where
  sp : PySem.W.specialIn K (.ref M) (Str.ofString "__getattribute__") = some (some (.builtin "type.__getattribute__"))
  rd : PySem.W.readsIn K M (.type "type") = true
  fc : PySem.W.findCls K (.ref M) (.type "type") (Str.ofString "__init__") = some (.val (.builtin "ValueError.__init__"))
section
variable {X : Cx} {pins : List (Addr × Obj)} {σ : St} {H : Hp} {s : Shared}
theorem OwnX.get {K : PySem.W.Frag} {C fI : Addr} {fl : Str} {h : Heap} (O : OwnX K C fI fl) (I : K.In h) : ∃ nm q N bs bm hdct sn sub ab col dd k0 k1 k2 k3 k5 mN, h.get? C = some (excClassObj nm q C N bs bm hdct sn sub ab col dd k0 k1 k2 k3 k5 newVE) ∧ OwnTail h bmVE bm ∧ h.Ns N mN ∧ mN "__init__" = some (.ref fI) := by
  obtain ⟨nm, q, N, bs, bm, hdct, sn, sub, ab, col, dd, k0, k1, k2, k3, k5, l, t, n, i⟩ := O.ex
  have G : h.Ns N (h.nsMap N) := .of_isNs (PySem.W.isNs_of_in I n)
  exact ⟨nm, q, N, bs, bm, hdct, sn, sub, ab, col, dd, k0, k1, k2, k3, k5, _, I _ _ l, PySem.W.tail_of_in I t, G, ns_some I G i⟩
/-! ### {x!r} -/
theorem pe_frep {e : Expr} {te : TE} {pos : Pos} (he : PE X e te) : PE X (.FormattedValue e 114 none pos) (fun σ H Q => te σ H fun v H1 => (∃ i, v = .int i ∧ i.natAbs.log2 < 1920 ∧ (Str.ofString (toString i)).length ≤ sizeLine ∧ Q (.str (toString i)) H1) ∨ (v = .non ∧ Q (.str "None") H1)) := fun pins s σ H Q I hw => by
  refine wpAny_FormattedValue_repr (wpAny_mono (he pins s σ H _ I hw) (fun u s1 q => ?_) fun _ _ z => z)
  obtain ⟨v, H1, I1, r, q⟩ := q
  rcases q with ⟨i, rfl, hi, hl, q⟩ | ⟨rfl, q⟩
  · obtain ⟨t, rfl⟩ := r
    refine pyReprObj_int hi (formatField_str (fun t' tk => ⟨.str (toString i), H1, I1.tok _, ⟨_, rfl⟩, q⟩) hl)
  · cases r
    exact pyReprObj_none (formatField_str (fun t' tk => ⟨.str "None", H1, I1.tok _, ⟨_, rfl⟩, q⟩) (by decide))
/-! ### M.__init__(self, text) -/
def tXInit (K : PySem.W.Frag) (t : TA) : TE := fun σ H Q => t σ H fun vs H1 => ∃ (e C fI : Addr) (fl : Str) (dx : Option Addr) (v : V), vs = [.ref e, v] ∧ H1 e = some (XN e C dx) ∧ OwnX K C fI fl ∧ Q .non H1
theorem pe_xinit {M : Addr} {x : Str} {np apos pos : Pos} {a1 : Expr} {es : List Expr} {t : TA} (B : BaseX X.K M) (hg : Gl X x) (hm : X.mg x = some (.ref M)) (ha : PA X (a1 :: es) t) (hdb : (x == ("__debug__" : Str)) = false := by decide)
    (he : starEach (a1 :: es) X.env = (false, eval a1 X.env) :: starEach es X.env := by rfl) (hpl : (backTo pos (starEach es X.env)).any (·.1) = false := by rfl) {pl : Sem Bool}
    (ht : eval (.Call (.Attribute (.Name x np) (Str.ofString "__init__") apos) (a1 :: es) [] pos) X.env = (do
      let ov ← eval (.Name x np) X.env; standAt apos.atName; let (f, first) ← holding [ov] (getMethod ov (Str.ofString "__init__") pl)
      callWith pos f first (backTo pos (starEach (a1 :: es) X.env)) (backToKw pos (keywordEach [] X.env))) := by rfl) :
    PE X (.Call (.Attribute (.Name x np) (Str.ofString "__init__") apos) (a1 :: es) [] pos) (tXInit X.K t) := by
  intro pins s σ H Q I h
  refine PySem.W.methodCall_KW (pl := pl) (ld_glob I hg hm ?_ hdb) ht
  refine getm_base I.kIn B.sp B.rd B.fc (by decide +kernel) ?_
  have I1 : Inv X pins σ H { s with toks := s.toks + 1 } := I.tok _
  refine PyProof.Rows.callWith_method1 (thn (ha pos pins _ σ H _ I1 h) fun us s2 ⟨vs, H2, I2, r, q⟩ => ?_) he hpl
  obtain ⟨e, C, fI, fl, dx, v, rfl, hH, O, q⟩ := q
  obtain ⟨u, u2, rfl, r1, r2⟩ := vals2 r
  cases (show u = Value.ref e from r1)
  obtain ⟨t0, he0⟩ := XN.at I2.hok hH
  obtain ⟨nm, qn, N, bs, bm, hdct, sn, sub, ab, col, dd, k0, k1, k2, k3, k5, mN, hC, T, hN, hi⟩ := O.get I2.kIn
  obtain ⟨hp, g, d, tk, os⟩ := s2
  refine base_init PySem.F.excBase_ValueError T hC he0 fun h' he' kp => ?_
  have I3 := Inv.write (x := e) (e := e) (o := XN e C dx) (h' := h') (t' := tk) I2 (by rw [hH]; trivial) (.inl rfl) kp ⟨_, he'⟩ (XN.mk he')
  have eq : upd H2 e (XN e C dx) = H2 := by
    funext b
    unfold upd
    split
    · rename_i hb
      rw [hb, hH]
    · rfl
  rw [eq] at I3
  exact ⟨.non, H2, I3, rfl, q⟩
/-! ### self.f = v -/
def tXSet (K : PySem.W.Frag) (ta tv : TE) (f : Str) : TS := fun D σ H => tv σ H fun y H1 => ta σ H1 fun x H2 => ∃ e C fI, x = .ref e ∧ H2 e = some (XN e C none) ∧ OwnX K C fI f ∧ ∀ dx, H2 dx = none → D.nx σ (upd (upd H2 dx (.xd [(f, y)])) e (XN e C (some dx)))
theorem ps_xset {o value : Expr} {f : Str} {pos' pos : Pos} {ta tv : TE} (ha : PE X o ta) (hv : PE X value tv) (hs : swapsWith value (some (.Attribute o f pos')) pos.line X.env = pure false) : PS X (.Assign [.Attribute o f pos'] value pos) (tXSet X.K ta tv f) := by
  intro pins s σ H D I h
  refine plainObj_wpAny_Assign_Attribute (thn (hv pins s σ H _ I h) fun u s1 ⟨y, H1, I1, ry, q⟩ => thn (ha pins s1 σ H1 _ I1 q) fun ov s2 ⟨x, H2, I2, rx, e, C, fI, ex, hH, O, q2⟩ => ?_) hs
  subst ex
  obtain rfl : ov = Value.ref e := rx
  obtain ⟨t0, he0⟩ := XN.at I2.hok hH
  obtain ⟨cd, XC⟩ := O.xc
  refine exc_set I2.kIn XC he0 O.fd fun h' tk he' hns kp => ?_
  have hlt : e < s2.heap.objs.size := Heap.lt_size he0
  have hne : e ≠ s2.heap.objs.size := Nat.ne_of_lt hlt
  have hd0 : H2 s2.heap.objs.size = none := I2.hok.fresh (Nat.le_refl _)
  have q3 := q2 _ hd0
  have hold := Heap.get?_update_self (fun _ : Obj => ⟨.ref C, none, .fields #[.ref t0, .none, .none, .none, .bool false, .none], #[]⟩) he' rfl
  have I3 : Inv X pins σ (upd H2 s2.heap.objs.size (.xd [(f, y)])) { s2 with heap := h'.update e fun _ => ⟨.ref C, none, .fields #[.ref t0, .none, .none, .none, .bool false, .none], #[]⟩, toks := tk } := by
    refine I2.laid (fun b o ho => ?_) (Nat.le_refl _) ⟨_, hns.at fun o ho => ?_, fun g => ?_⟩
    · by_cases hb : b = e
      · rw [hb] at ho ⊢
        rw [hold, ← he0, ho]
      · rw [Heap.get?_update_other _ _ (Ne.symm hb)]
        exact kp b o hb ho
    · rw [Heap.get?_update_other _ _ hne]
      exact ho
    · show RelO (List.lookup g [(f, y)]) (if g = f then some u else none)
      by_cases hg : g = f
      · have hb : (g == f) = true := beq_iff_eq.mpr hg
        rw [if_pos hg]
        simp only [List.lookup, hb]
        exact ry
      · have hb : (g == f) = false := beq_eq_false_iff_ne.mpr hg
        rw [if_neg hg]
        simp only [List.lookup, hb]
        trivial
  have hH3 : upd H2 s2.heap.objs.size (.xd [(f, y)]) e = some (XN e C none) := by rw [upd_ne hne]; exact hH
  have I4 := Inv.write (x := e) (e := e) (o := XN e C (some s2.heap.objs.size)) (h' := h') (t' := tk) I3 (by rw [hH3]; trivial) (.inl rfl) (fun b o hb ho => by
    have ho' : (h'.update e fun _ => ⟨.ref C, none, .fields #[.ref t0, .none, .none, .none, .bool false, .none], #[]⟩).get? b = some o := ho
    rw [Heap.get?_update_other _ _ (Ne.symm hb)] at ho'
    exact ho') ⟨_, he'⟩ (XN.mk he')
  exact ⟨σ, _, I4, q3⟩
/-! ### the making, the raise -/
def unt (H : Hp) (x : Addr) : Hp := fun b => if b = x then none else H b
theorem unt_ne {H : Hp} {x b : Addr} (h : b ≠ x) : unt H x b = H b := by unfold unt; rw [if_neg h]
theorem unt_same {H : Hp} {x : Addr} : unt H x x = none := by unfold unt; rw [if_pos rfl]
theorem Inv.untrack {x C : Addr} {dx : Option Addr} (I : Inv X pins σ H s) (hx : H x = some (XN x C dx)) : Inv X pins σ (unt H x) s := by
  have nn : ∀ b, H b = none → unt H x b = none := fun b h => by
    unfold unt
    split
    · rfl
    · exact h
  have ne : ∀ b o, H b = some o → o ≠ XN x C dx → unt H x b = some o := fun b o h n => by
    rw [unt_ne]
    · exact h
    · intro z
      rw [z, hx] at h
      exact n (Option.some.inj h).symm
  have nX : ∀ o, o = XN x C dx → ∃ φ, o = .ext φ := fun o h => ⟨_, h⟩
  refine ⟨I.ok, I.os, I.bare, ⟨I.base.keep, I.base.slot, fun b o e n hx' => nn b (I.base.free b o e n hx'), I.base.there, fun b xs e => ne b _ (I.base.tups b xs e) (fun z => ?_), fun b o u e => ne b _ (I.base.frzs b o u e) (fun z => ?_), fun b ps e => ?_⟩, I.loc, I.cell, nn _ I.free, fun y c e => nn _ (I.freeC y c e), fun p hp => ?_, fun a o e => ?_, I.len⟩
  · cases z
  · cases z
  · obtain ⟨more, q⟩ := I.base.tbls b ps e
    exact ⟨more, ne b _ q (fun z => by cases z)⟩
  · obtain ⟨h1, h2, h3⟩ := I.pin p hp
    exact ⟨h1, nn _ h2, h3⟩
  · have hax : a ≠ x := fun z => by
      rw [z, unt_same] at e
      cases e
    rw [unt_ne hax] at e
    exact (I.hok a o e).stay (fun b u _ q => q) (fun b q => ne b _ q (fun z => by cases z)) fun b xs q => ne b _ q (fun z => by cases z)
def tRaiseX (C : Addr) (sp : Sp) (dvs : List V) (E : XK) (t : TA) : TS := fun _ σ H => t σ H fun vs H1 => vs.length ≤ sizeLine ∧ ∀ x, H1 x = none → sp (.ref x :: (vs ++ dvs)) (upd H1 x (XN x C none)) (fun v H2 => v = .non ∧ ∃ dx, H2 x = some (XN x C (some dx)) ∧ E (.ref C) (some dx) (unt H2 x)) E0
theorem ps_raiseX {E : XK} {CX : CXT} {k : Nat} {x fl : Str} {C f : Addr} {fd : FuncData} {ps : List Str} {sp : Sp} {ds : List Value} {dvs : List V} {np cpos pos : Pos} {e : Expr} {es : List Expr} {t : TA} (O : OwnX X.K C f fl) (F : FnOk X.prog X.w X.K X.mg X.base CX k f fd ps sp) (hr : Room (k + 1) X.A) (hg : Gl X x) (hm : X.mg x = some (.ref C)) (hb : Binds X.K fd ps ds) (hd : Vals dvs ds) (hc : X.calm = true) (hex : X.ex = []) (hx : Passes CX (X.wish (XED X E)) E0)
    (ha : PA (X.wish (XED X E)) (e :: es) t) (hdb : (x == ("__debug__" : Str)) = false := by decide) (he : starEach (e :: es) X.env = (false, eval e X.env) :: starEach es X.env := by rfl) (hpl : (backTo cpos (starEach es X.env)).any (·.1) = false := by rfl) :
    PS (X.wish (XED X E)) (.Raise (some (.Call (.Name x np) (e :: es) [] cpos)) none pos) (tRaiseX C sp dvs E t) := by
  intro pins s σ H D I h
  obtain ⟨nm, q, N, bs, bm, hdct, sn, sub, ab, col, dd, k0, k1, k2, k3, k5, lk, tl, nk, ik⟩ := O.ex
  have T0 := PySem.W.tail_of_in I.mod.kin tl
  rw [arm_exec_Raise]
  refine wpAny_bind (wpAny_standAt ?_)
  show wpAny _ _ (raiseStmt _ (some _) none) _ _ _
  refine raise_own (C := C) (nm := nm) (q := q) (N := N) (bs := bs) (bm := bm) (hdct := hdct) (sn := sn) (sub := sub) (ab := ab) (col := col) (dd := dd) (k0 := k0) (k1 := k1) (k2 := k2) (k3 := k3) (k5 := k5) (newId := newVE) (T0.hasType PySem.F.excBase_ValueError.hasBase) (I.ok.hd hc) ?_
  refine wpAny_bind ?_
  show wpAny _ _ (eval (.Call (.Name x np) (e :: es) [] cpos) X.env) _ _ _
  refine wpAny_Call_Name_kw (ld_glob I hg hm ?_ hdb)
  refine PySem.W.callWith_K (h₀ := X.base) I.ok.mod.kin O.kp (thn (ha cpos pins s σ H _ I h) fun us s1 ⟨vs, H1, I1, r, hz, q1⟩ => ⟨I1.kIn, ?_⟩) he hpl
  have I1' : Inv X pins σ H1 s1 := I1.unwish
  have hxn : H1 (s1.heap.objs.size + 1) = none := I1.hok.fresh (Nat.le_succ _)
  have q2 := q1 _ hxn
  have na : X.s₀.heap.get? (s1.heap.objs.size + 1) = none := I1'.new0 hex (Heap.get?_none_of_le (Nat.le_succ _))
  obtain ⟨hh, g, d, tk, os⟩ := s1
  have G : hh.Ns N (hh.nsMap N) := .of_isNs (PySem.W.isNs_of_in I1.kIn nk)
  refine call_exc_own PySem.F.excBase_ValueError (by decide) PySem.F.excBase_ValueError (PySem.W.tail_of_in I1.kIn tl) (I1.kIn _ _ lk) G (ns_some I1.kIn G ik) (by rw [List.nil_append, ← r.length]; exact hz) ?_
  have hsz : (hh.push (tupObj ([] ++ us))).objs.size = hh.objs.size + 1 := Heap.size_push _ _
  have hget : ((hh.push (tupObj ([] ++ us))).push (excObj C hh.objs.size)).get? (hh.objs.size + 1) = some (excObj C hh.objs.size) := Heap.get?_push_at (by rw [hsz]) rfl
  have Ia : Inv (X.wish (XED X E)) pins σ H1 ⟨hh.push (tupObj ([] ++ us)), g, d, tk, os⟩ := I1.kept (t' := tk) fun b o q => Heap.get?_push_of_some _ q
  have I2 : Inv (X.wish (XED X E)) pins σ (upd H1 (hh.objs.size + 1) (XN (hh.objs.size + 1) C none)) ⟨(hh.push (tupObj ([] ++ us))).push (excObj C hh.objs.size), g, d, tk, os⟩ := Ia.laid (t' := tk) (fun b o q => Heap.get?_push_of_some _ q) (Nat.le_of_eq hsz) (XN.mk hget)
  refine PySem.W.Looks.here (s := ⟨(hh.push (tupObj ([] ++ us))).push (excObj C hh.objs.size), g, d, tk, os⟩) (PySem.W.bind_fn I2.kIn _ (beq_iff_eq.mp O.fn)) ?_
  have r2 : Vals (V.ref (hh.objs.size + 1) :: (vs ++ dvs)) (Value.ref (hh.objs.size + 1) :: (us ++ ds)) := .cons rfl (r.append hd)
  have hl : (Value.ref (hh.objs.size + 1) :: us ++ ds).length = ps.length := by
    have e := r2.length
    rw [F.len _ _ _ _ q2] at e
    exact e.symm
  refine wpAny_call (codeAny_mono (F.run _ X.stack _ _ ⟨Value.ref (hh.objs.size + 1) :: us, []⟩ (Value.ref (hh.objs.size + 1) :: (us ++ ds)) _ _ E0 (hr.make C us []) (I2.env0.make C us []) (hb _ (Value.ref (hh.objs.size + 1) :: us) I2.kIn hl) r2 q2) fun r s' hq' => ?_)
  cases r with
  | error e => exact hx pins σ _ _ e s' I2 hq'
  | ok fl =>
    cases fl with
    | ret u =>
      obtain ⟨v, H', I3, rv, ev, dx, hx3, qE⟩ := I2.after hq'
      subst ev
      obtain ⟨t3, he3⟩ := XN.at I3.hok hx3
      refine ⟨rv, wpAny_bind (wpAny_standAt (wpAny_pure ⟨_, t3, some dx, rfl, I3.kIn _ _ lk, he3, ?_⟩))⟩
      have I3' : Inv X pins σ H' s' := I3.unwish
      exact ⟨_, .ref C, some dx, unt H' (hh.objs.size + 1), σ, rfl, (I3'.untrack hx3).nopins, .inl ⟨na, unt_same, _, _, _, he3, rfl, rfl, rfl, rfl, rfl⟩, qE⟩
    | next => exact False.elim hq'
    | brk => exact False.elim hq'
    | cont => exact False.elim hq'
end
/-! ### try, one clause with a name; the refusal's dict known -/
/-- a refusal that is known by its class and its own dict -/
def XD (a C : Addr) (dx : Option Addr) : HO := .ext fun h => ∃ o vs, h.get? a = some o ∧ o.cls = .ref C ∧ o.dict = dx ∧ o.data = .fields vs
theorem XD.at {P : Program} {w : World} {H : Hp} {h : Heap} {a C : Addr} {dx : Option Addr} (ok : HOk P w H h) (e : H a = some (XD a C dx)) : ∃ o vs, h.get? a = some o ∧ o.cls = .ref C ∧ o.dict = dx ∧ o.data = .fields vs := (ok a _ e).1
theorem call_isinstD {X : Cx} (G : PySem.W.ClsK X.K) : CallR X (.builtin "isinstance") (fun xs H Q => ∃ a C dx c b, xs = [.ref a, c] ∧ H a = some (XD a C dx) ∧ PySem.W.ExcD X.K C ∧ (∀ u, RelV c u → PySem.W.kitOne X.K (.ref C) u = some b) ∧ Q (.bl b) H) := by
  intro pins s σ H xs us Q I r h
  obtain ⟨a, C, dx, c, b, rfl, e, T, k, q⟩ := h
  obtain ⟨u, w', rfl, r1, r2⟩ := vals2 r
  cases (show u = Value.ref a from r1)
  obtain ⟨o, _, z1, z2, _⟩ := XD.at I.hok e
  exact PySem.W.kia_one (PySem.W.kitx_excD T G) I.kIn ⟨o, z1, z2⟩ (k _ r2) (fun z => nomatch z) fun tk => ⟨.bl b, H, I.tok tk, rfl, q⟩
theorem call_isinstDT {X : Cx} (G : PySem.W.ClsK X.K) : CallR X (.builtin "isinstance") (fun xs H Q => ∃ a C dx p ys b, xs = [.ref a, .ref p] ∧ H a = some (XD a C dx) ∧ PySem.W.ExcD X.K C ∧ H p = some (.tup ys) ∧ (∀ us, Vals ys us → PySem.W.kitAny X.K (.ref C) us = some b) ∧ Q (.bl b) H) := by
  intro pins s σ H xs us Q I r h
  obtain ⟨a, C, dx, p, ys, b, rfl, e, T, hp, k, q⟩ := h
  obtain ⟨u, w', rfl, r1, r2⟩ := vals2 r
  cases (show u = Value.ref a from r1)
  cases (show w' = Value.ref p from r2)
  obtain ⟨_, its, rv, o, ho, hc, n, hd⟩ := (show ObjOk X.prog X.w H s.heap p (.tup ys) from I.hok p _ hp)
  obtain ⟨oc, od, oda, osl⟩ := o
  dsimp only at hc hd
  subst hc hd
  obtain ⟨oe, _, z1, z2, _⟩ := XD.at I.hok e
  exact PySem.W.kia_tup (PySem.W.kitx_excD T G) I.kIn ⟨oe, z1, z2⟩ ho (k _ rv) (fun z => nomatch z) fun tk => ⟨.bl b, H, I.tok tk, rfl, q⟩
/-- e.f, e a refusal -/
def tXFld (K : PySem.W.Frag) (ta : TE) (f : Str) : TE := fun σ H Q => ta σ H fun x H1 => ∃ a C fI dx fs v, x = .ref a ∧ H1 a = some (XD a C (some dx)) ∧ H1 dx = some (.xd fs) ∧ OwnX K C fI f ∧ fs.lookup f = some v ∧ ((∃ i, v = .int i) ∨ v = .non) ∧ Q v H1
theorem pe_xfld {X : Cx} {e : Expr} {f : Str} {pos : Pos} {ta : TE} (he : PE X e ta) (hb : attributeBase e f X.env (eval e X.env) = eval e X.env) : PE X (.Attribute e f pos) (tXFld X.K ta f) := by
  intro pins s σ H Q I h
  refine attr_of hb (thn (he pins s σ H _ I h) fun u s1 ⟨x, H1, I1, rx, a, C, fI, dx, fs, v, ex, ea, ed, O, l, hv, q⟩ => ?_)
  subst ex
  obtain rfl : u = Value.ref a := rx
  obtain ⟨o, vs, z1, z2, z3, z4⟩ := XD.at I1.hok ea
  obtain ⟨mA, hns, hrel⟩ := (show ObjOk X.prog X.w H1 s1.heap dx (.xd fs) from I1.hok dx _ ed)
  obtain ⟨cd, XC⟩ := O.xc
  have hr := hrel f
  rw [l] at hr
  obtain ⟨y, ey, ry⟩ : ∃ y, mA f = some y ∧ RelV v y := by
    cases hm : mA f with
    | none => rw [hm] at hr; exact False.elim hr
    | some y => rw [hm] at hr; exact ⟨y, rfl, hr⟩
  refine exc_get I1.kIn XC z1 z2 z4 z3 hns ey O.fd ?_ fun tk => ⟨v, H1, I1.tok _, ry, q⟩
  intro id z
  rcases hv with ⟨i, rfl⟩ | rfl
  · obtain ⟨t, ht⟩ := ry
    rw [ht] at z
    cases z
  · rw [show y = Value.none from ry] at z
    cases z
theorem up_trans {h1 h2 h3 : Heap} (a : ∀ (b : Addr) (o : Obj), h1.get? b = some o → (∀ vs : Array Value, o.data ≠ .fields vs) → ∃ sl, h2.get? b = some { o with slots := sl }) (c : h2.UpToSlots h3) : h1.UpToSlots h3 := fun b o ho hnf => by
  obtain ⟨sl, e⟩ := a b o ho hnf
  obtain ⟨sl2, e2⟩ := c b _ e hnf
  exact ⟨sl2, e2⟩
end L2
/-! EvXq: EvXin's rules in short form; a def with a default that is always given. Behind EvXin. -/
namespace L2
open PySem PySem.Spec PyProof.Rows
structure FunD (K : PySem.W.Frag) (x qual : Str) (st : Stmt) (f : Addr) (fd : FuncData) : Prop where
  ex : ∃ (oc : Value) (od : Option Addr) (dT : Addr) (oT : Obj) (tn : Nat) (kV doc pm : Value) (an : Option Addr) (cdv ct : Value) (osl : Array (Option Value)), K.lookup dT = some oT ∧ oT.data = .seq #[.none] tn ∧
    fd = PySem.W.fnOf x qual (defArgs st) (defBody st) (defScope st) (.ref dT) kV doc pm an cdv ct ∧ K.lookup f = some ⟨oc, od, .func fd, osl⟩ ∧ PySem.W.codeIn K cdv qual = true
section
variable {P : Program} {w : World} {K : PySem.W.Frag} {mg : Str → Option Value} {base : Heap} {x qual : Str} {st : Stmt} {f : Addr} {fd : FuncData} {N ps : List Str} {k : Nat} {sp : Sp}
theorem FunD.okQ (F : FunD K x qual st f fd) (S : FnScope N ps (defScope st)) (len : ∀ vs H Q E, sp vs H Q E → vs.length = ps.length)
    (hbody : ∀ (cdv : Value) (A : Around) (outer : List Env) (s : Shared) (H : Hp) (vs : List V) (Q : VK) (E : XK), Room k (A.deeper (envOfC qual (defScope st) s.heap.objs.size f cdv)) → sp vs H Q E →
      ∃ t, QSs (cxOf CX0 P w K mg base N qual (defScope st) f cdv A outer s H E).nox (defBody st) t ∧ t { nx := fun _ H' => Q .non H', rt := Q } (start N vs) H) : FnOk P w K mg base CX0 (k + 1) f fd ps sp := by
  obtain ⟨oc, od, dT, oT, tn, kV, doc, pm, an, cdv, ct, osl, lT, hT, rfl, lk, hcd⟩ := F.ex
  refine fn_of lk hcd S len fun A outer s H vs Q E hr hsp => ?_
  obtain ⟨t, h, q⟩ := hbody cdv A outer s H vs Q E hr hsp
  exact ⟨t, h.h.nox, q⟩
theorem FunD.binds {ds : List Value} (F : FunD K x qual st f fd)
    (h : ∀ (dT : Addr) (kV doc pm : Value) (an : Option Addr) (cdv ct : Value) (us : List Value), (us ++ ds).length = ps.length → ∃ k, bindArgs (PySem.W.fnOf x qual (defArgs st) (defBody st) (defScope st) (.ref dT) kV doc pm an cdv ct) ⟨us, []⟩ = seqItems? (.ref dT) >>= k ∧
      k (some #[.none]) = pure (ps.zip (us ++ ds))) : Binds K fd ps ds := by
  obtain ⟨oc, od, dT, oT, tn, kV, doc, pm, an, cdv, ct, osl, lT, hT, rfl, lk, hcd⟩ := F.ex
  intro s us X hl
  obtain ⟨k, h1, h2⟩ := h dT kV doc pm an cdv ct us hl
  exact .of_defaults rfl (X _ _ lT) hT h1 h2
end
section
variable {X : Cx}
theorem qe_frep {e : Expr} {te : TE} {pos : Pos} (he : QE X e te) : QE X (.FormattedValue e 114 none pos) (fun σ H Q => te σ H fun v H1 => (∃ i, v = .int i ∧ i.natAbs.log2 < 1920 ∧ (Str.ofString (toString i)).length ≤ sizeLine ∧ Q (.str (toString i)) H1) ∨ (v = .non ∧ Q (.str "None") H1)) := ⟨pe_frep he.h⟩
theorem qe_xinit {M : Addr} {x : Str} {np apos pos : Pos} {a1 : Expr} {es : List Expr} {t : TA} (B : BaseX X.K M) (hg : Gl X x) (hm : X.mg x = some (.ref M)) (ha : QA X (a1 :: es) t) (hdb : (x == ("__debug__" : Str)) = false := by decide)
    (he : starEach (a1 :: es) X.env = (false, eval a1 X.env) :: starEach es X.env := by rfl) (hpl : (backTo pos (starEach es X.env)).any (·.1) = false := by rfl) {pl : Sem Bool}
    (ht : eval (.Call (.Attribute (.Name x np) (Str.ofString "__init__") apos) (a1 :: es) [] pos) X.env = (do
      let ov ← eval (.Name x np) X.env; standAt apos.atName; let (f, first) ← holding [ov] (getMethod ov (Str.ofString "__init__") pl)
      callWith pos f first (backTo pos (starEach (a1 :: es) X.env)) (backToKw pos (keywordEach [] X.env))) := by rfl) :
    QE X (.Call (.Attribute (.Name x np) (Str.ofString "__init__") apos) (a1 :: es) [] pos) (tXInit X.K t) := ⟨pe_xinit B hg hm ha.h hdb he hpl ht⟩
theorem qs_xset {o value : Expr} {f : Str} {pos' pos : Pos} {ta tv : TE} (ha : QE X o ta) (hv : QE X value tv) (hs : swapsWith value (some (.Attribute o f pos')) pos.line X.env = pure false := by rfl) : QS X (.Assign [.Attribute o f pos'] value pos) (tXSet X.K ta tv f) := ⟨ps_xset ha.h hv.h hs⟩
theorem qe_xfld {e : Expr} {f : Str} {pos : Pos} {ta : TE} (he : QE X e ta) (hb : attributeBase e f X.env (eval e X.env) = eval e X.env := by rfl) : QE X (.Attribute e f pos) (tXFld X.K ta f) := ⟨pe_xfld he.h hb⟩
theorem qs_raiseX {E : XK} {CX : CXT} {k : Nat} {x fl : Str} {C f : Addr} {fd : FuncData} {ps : List Str} {sp : Sp} {ds : List Value} {dvs : List V} {np cpos pos : Pos} {e : Expr} {es : List Expr} {t : TA} (O : OwnX X.K C f fl) (F : FnOk X.prog X.w X.K X.mg X.base CX k f fd ps sp) (hr : Room (k + 1) X.A) (hg : Gl X x) (hm : X.mg x = some (.ref C)) (hb : Binds X.K fd ps ds) (hd : Vals dvs ds) (hc : X.calm = true) (hex : X.ex = []) (hx : Passes CX (X.wish (XED X E)) E0)
    (ha : QA (X.wish (XED X E)) (e :: es) t) (hdb : (x == ("__debug__" : Str)) = false := by decide) (he : starEach (e :: es) X.env = (false, eval e X.env) :: starEach es X.env := by rfl) (hpl : (backTo cpos (starEach es X.env)).any (·.1) = false := by rfl) :
    QS (X.wish (XED X E)) (.Raise (some (.Call (.Name x np) (e :: es) [] cpos)) none pos) (tRaiseX C sp dvs E t) := ⟨ps_raiseX O F hr hg hm hb hd hc hex hx ha.h hdb he hpl⟩
end
/-! ### __init__(self, f): M.__init__(self, f'..{f!r}'); self.f = f -/
def spXI (K : PySem.W.Frag) (fl : Str) : Sp := fun vs H Q _ => ∃ (e C fI : Addr) (v : V), vs = [.ref e, v] ∧ H e = some (XN e C none) ∧ OwnX K C fI fl ∧ ((∃ i : Nat, v = .int ((i : Nat) : Int) ∧ i ≤ 1000) ∨ v = .non) ∧ ∀ dx, H dx = none → Q .non (upd (upd H dx (.xd [(fl, v)])) e (XN e C (some dx)))
theorem dig_len : ∀ i : Fin 1001, (Str.ofString (toString ((i.val : Nat) : Int))).length ≤ 5 := by decide +kernel
end L2
/-! EvXl: refusals that leave a loop of the frame in which they are raised. Behind EvXq. -/
namespace PySem
/-- a refusal is noted in a frame, and its own dict is the same -/
def NotedD (base : Heap) (l : List Env) (e : Addr) (cls a0 fl : Value) (dx : Option Addr) (h h' : Heap) : Prop := base.NotedW l e cls a0 fl h h' ∧ ∃ oe, h'.get? e = some oe ∧ oe.dict = dx
theorem noted_of {base h h1 : Heap} {l : List Env} {e : Addr} {oe : Obj} {vs : Array Value} {a0 fl : Value} {dx : Option Addr} {tb : Obj} {ts : Array Value} (hl : h.FunFrames base l) (he : h.get? e = some oe) (hkb : base.StaysIn h) (hen : base.get? e = none) (hd : oe.data = .fields vs) (hsz : 1 < vs.size) (h0 : vs[0]? = some a0) (hdx : oe.dict = dx)
    (S : Heap.SlotsOnly (List.filterMap (fun x => x.frame) l) h h1) (ht : tb.data = .fields ts) (h3 : ts[3]? = some fl) :
    NotedD base l e oe.cls a0 fl dx h ((h1.push tb).update e (Obj.mapFields fun x => x.setIfInBounds 1 (.ref h1.objs.size))) := by
  have hene : e ∉ List.filterMap (fun x => x.frame) l := fun hm => by
    obtain ⟨_, o, ho, hnf⟩ := hl.mem hm
    rw [he] at ho
    cases ho
    exact hnf vs hd
  have he1 : h1.get? e = some oe := (S.2.1 e hene).trans he
  have he2 := Heap.get?_push_of_some tb he1
  have hTe : h1.objs.size ≠ e := Nat.ne_of_gt (Heap.lt_size he1)
  have hd3 := Obj.data_mapFields hd fun x => x.setIfInBounds 1 (.ref h1.objs.size)
  have he3 := Heap.get?_update_self (Obj.mapFields fun x => x.setIfInBounds 1 (.ref h1.objs.size)) he2 (Obj.isFreed_of_fields hd3)
  have hT2 : (h1.push tb).get? h1.objs.size = some tb := Heap.get?_push_size h1 (Obj.isFreed_of_fields ht)
  have hT3 : ((h1.push tb).update e (Obj.mapFields fun x => x.setIfInBounds 1 (.ref h1.objs.size))).get? h1.objs.size = some tb := (Heap.get?_update_other _ _ (Ne.symm hTe)).trans hT2
  have other : ∀ b o, h1.get? b = some o → b ≠ e → ((h1.push tb).update e (Obj.mapFields fun x => x.setIfInBounds 1 (.ref h1.objs.size))).get? b = some o := fun b o ho hb => by
    rw [Heap.get?_update_other _ _ (Ne.symm hb)]
    exact Heap.get?_push_of_some _ ho
  have baseF : ∀ b, b ∈ List.filterMap (fun x => x.frame) l → base.get? b = none := fun b hm => (hl.mem hm).1
  refine ⟨⟨fun b o hbo => ?_, ?_, ?_, fun b o ho hnf => ?_⟩, _, he3, (mapFields_dict _ _).trans hdx⟩
  · have hb : b ≠ e := fun z => by
      rw [z, hen] at hbo
      cases hbo
    refine other b o ?_ hb
    rw [S.2.1 b fun hm => by rw [baseF b hm] at hbo; cases hbo]
    exact hkb b o hbo
  · refine Heap.FunFrames.of_keeps (fun b o ho hnf => ?_) (Heap.FunFrames.of_slotsOnly S hl)
    have hb : b ≠ e := fun z => by
      rw [z, he1] at ho
      cases ho
      exact hnf vs hd
    exact ⟨o, other b o ho hb, rfl⟩
  · refine ⟨_, _, h1.objs.size, _, _, he3, ⟨Obj.cls_mapFields _ _, ?_⟩, hd3, ?_, ?_, hTe, hT3, ht, h3⟩
    · rw [Array.getElem?_setIfInBounds_ne (by decide)]
      exact h0
    · rw [Array.getElem?_setIfInBounds_self_of_lt hsz]
    · cases hq : base.get? h1.objs.size with
      | none => rfl
      | some o =>
        have := hkb _ _ hq
        have hlt := Heap.lt_size this
        rw [S.1] at hlt
        exact absurd hlt (Nat.lt_irrefl _)
  · obtain ⟨sl, hsl⟩ := S.2.2 b o ho
    have hb : b ≠ e := fun z => by
      rw [z, he] at ho
      cases ho
      exact hnf vs hd
    exact ⟨sl, other b _ hsl hb⟩
theorem place_at {L : Nat} (pl : List Value) (x : Value) : ([x, Value.ref L, Value.none, rawInt (L : Int), Value.none] ++ if pl.isEmpty = true then List.replicate 6 Value.none else pl).toArray[3]? = some (rawInt (L : Int)) := by simp
/-- how a refusal lies in the heap, as its trace tells -/
inductive FliesAs (base h : Heap) (L e : Addr) (vs : Array Value) : Prop where
  | new (h1 : vs[1]? = some .none)
  | next {T : Addr} {oT : Obj} {ts : Array Value} {x : Value} (h1 : vs[1]? = some (.ref T)) (hbT : base.get? T = none) (hTe : T ≠ e) (hT : h.get? T = some oT) (hdT : oT.data = .fields ts) (h3 : ts[3]? = some x) (hx : x ≠ rawInt L)
  | here {T : Addr} {oT : Obj} {ts : Array Value} (h1 : vs[1]? = some (.ref T)) (hbT : base.get? T = none) (hTe : T ≠ e) (hT : h.get? T = some oT) (hdT : oT.data = .fields ts) (h3 : ts[3]? = some (rawInt L))
theorem note_own {M : Model} {A : Around} {E : Value → Shared → Prop} {s : Shared} {base : Heap} {env : Env} {outer : List Env} {L e : Addr} {oe : Obj} {vs : Array Value} {a0 : Value} {dx : Option Addr} {Q : Unit → Shared → Prop} (hfr : A.frames = some (env :: outer)) (hl : s.heap.FunFrames base (env :: outer)) (hf : env.frame = some L) (he : s.heap.get? e = some oe) (hkb : base.StaysIn s.heap) (hen : base.get? e = none) (hd : oe.data = .fields vs) (h0 : vs[0]? = some a0) (hdx : oe.dict = dx)
    (fl : FliesAs base s.heap L e vs) (h : ∀ h' : Heap, NotedD base (env :: outer) e oe.cls a0 (rawInt L) dx s.heap h' → Q () { s with heap := h' }) : wpAny M A (noteFrame (.ref e) env) Q E s := by
  unfold noteFrame
  simp only [hf]
  cases fl with
  | new h1 =>
    have hsz : 1 < vs.size := (Array.getElem?_eq_some_iff.mp h1).1
    refine wpAny_bind (wpAny_field he hd h1 ?_)
    rw [if_neg (by decide)]
    refine wpAny_bind (wpAny_frameOf_fun hfr hl hf fun hh S => wpAny_bind (wpAny_entryPlaceOf fun pl hpl => wpAny_bind ?_))
    unfold EntryCells.newEntry newFields
    have hlen : ∀ x : Value, ([x, Value.ref L, Value.none, rawInt (L : Int), Value.none] ++ if pl.isEmpty = true then List.replicate 6 Value.none else pl).toArray.size = 11 := place_len hpl
    refine wpAny_newObj_type ?_ (by show Array.size _ ≤ sizeLine + 2; rw [hlen]; decide)
    have hene : e ∉ List.filterMap (fun x => x.frame) (env :: outer) := fun hm => by
      obtain ⟨_, o, ho, hnf⟩ := hl.mem hm
      rw [he] at ho
      cases ho
      exact hnf vs hd
    have he1 : hh.get? e = some oe := (S.2.1 e hene).trans he
    refine wpAny_setField (Heap.get?_push_of_some _ he1) hd hsz ?_
    exact h _ (noted_of hl he hkb hen hd hsz h0 hdx S rfl (place_at pl _))
  | @next T oT ts x h1 hbT hTe0 hT hdT h3 hx =>
    have hsz : 1 < vs.size := (Array.getElem?_eq_some_iff.mp h1).1
    refine wpAny_bind (wpAny_field he hd h1 ?_)
    rw [if_pos (by rfl)]
    refine wpAny_bind (wpAny_field hT hdT h3 ?_)
    rw [if_neg (by simpa using hx)]
    refine wpAny_bind (wpAny_setField hT hdT (Array.getElem?_eq_some_iff.mp h3).1 ?_)
    have keep : ∀ b o, b ≠ T → s.heap.get? b = some o → (s.heap.update T (Obj.mapFields fun x => x.setIfInBounds 3 .none)).get? b = some o := fun b o hb ho => (Heap.get?_update_other _ _ (Ne.symm hb)).trans ho
    have he' := keep e oe (Ne.symm hTe0) he
    have hkb' : base.StaysIn (s.heap.update T (Obj.mapFields fun x => x.setIfInBounds 3 .none)) := fun b o hb => keep b o (fun z => by rw [z, hbT] at hb; cases hb) (hkb b o hb)
    have hl' : (s.heap.update T (Obj.mapFields fun x => x.setIfInBounds 3 .none)).FunFrames base (env :: outer) := Heap.FunFrames.of_keeps (fun b o ho hnf => ⟨o, keep b o (fun z => by
      rw [z, hT] at ho
      cases ho
      exact hnf ts hdT) ho, rfl⟩) hl
    have keepN : ∀ b o, s.heap.get? b = some o → (∀ vs : Array Value, o.data ≠ .fields vs) → (s.heap.update T (Obj.mapFields fun x => x.setIfInBounds 3 .none)).get? b = some o := fun b o ho hnf => keep b o (fun z => by
      rw [z, hT] at ho
      cases ho
      exact hnf ts hdT) ho
    replace he := he'
    replace hkb := hkb'
    replace hl := hl'
    clear he' hkb' hl' keep
    generalize s.heap.update T (Obj.mapFields fun x => x.setIfInBounds 3 .none) = hp at he hkb hl keepN ⊢
    refine wpAny_bind (wpAny_frameOf_fun (s := { s with heap := hp }) hfr hl hf fun hh S => wpAny_bind (wpAny_entryPlaceOf fun pl hpl => wpAny_bind ?_))
    unfold EntryCells.newEntry newFields
    have hlen : ∀ x : Value, ([x, Value.ref L, Value.none, rawInt (L : Int), Value.none] ++ if pl.isEmpty = true then List.replicate 6 Value.none else pl).toArray.size = 11 := place_len hpl
    refine wpAny_newObj_type ?_ (by show Array.size _ ≤ sizeLine + 2; rw [hlen]; decide)
    have hene : e ∉ List.filterMap (fun x => x.frame) (env :: outer) := fun hm => by
      obtain ⟨_, o, ho, hnf⟩ := hl.mem hm
      rw [he] at ho
      cases ho
      exact hnf vs hd
    have he1 : hh.get? e = some oe := (S.2.1 e hene).trans he
    refine wpAny_setField (Heap.get?_push_of_some _ he1) hd hsz ?_
    obtain ⟨⟨l1, l2, l3, l4⟩, l5⟩ := noted_of hl he hkb hen hd hsz h0 hdx S (tb := { cls := .type "traceback", data := .fields ([Value.ref T, Value.ref L, Value.none, rawInt (L : Int), Value.none] ++ if pl.isEmpty = true then List.replicate 6 Value.none else pl).toArray }) rfl (place_at pl _)
    exact h _ ⟨⟨l1, l2, l3, fun b o ho hnf => l4 b o (keepN b o ho hnf) hnf⟩, l5⟩
  | @here T oT ts h1 hbT hTe0 hT hdT h3 =>
    refine wpAny_bind (wpAny_field he hd h1 ?_)
    rw [if_pos (by rfl)]
    refine wpAny_bind (wpAny_field hT hdT h3 ?_)
    rw [if_pos (by simp)]
    exact wpAny_pure (h _ ⟨⟨hkb, hl, ⟨oe, vs, T, oT, ts, he, ⟨rfl, h0⟩, hd, h1, hbT, hTe0, hT, hdT, h3⟩, fun b o ho _ => ⟨o.slots, ho⟩⟩, oe, he, hdx⟩)
/-- the flight is noted: the refusal and its dict are the same -/
theorem flight_own {M : Model} {A : Around} {E : Value → Shared → Prop} {s : Shared} {base : Heap} {l : List Env} {e : Addr} {cls a0 fl : Value} {dx : Option Addr} {fr : Option Addr} {h1 : Heap} {Q : Unit → Shared → Prop} (N : NotedD base l e cls a0 fl dx h1 s.heap)
    (h : ∀ h' : Heap, NotedD base l e cls a0 (fr.elim .none fun f => rawInt f) dx h1 h' → Q () { s with heap := h' }) : wpAny M A (setFlight (.ref e) fr) Q E s := by
  obtain ⟨⟨f1, f2, ⟨oe, vs, T, oT, ts, he, ⟨hc, h0⟩, hd, h1', hbT, hTe, hT, hdT, h3⟩, f4⟩, oe2, he2, hdx⟩ := N
  rw [he] at he2
  cases he2
  unfold setFlight
  refine wpAny_bind (wpAny_field he hd h1' ?_)
  rw [if_pos (by rfl)]
  generalize (fr.elim Value.none fun f => rawInt f) = x at h ⊢
  have h3s := (Array.getElem?_eq_some_iff.mp h3).1
  have hdT2 := Obj.data_mapFields hdT fun y => y.setIfInBounds 3 x
  have hT2 := Heap.get?_update_self (Obj.mapFields fun y => y.setIfInBounds 3 x) hT (Obj.isFreed_of_fields hdT2)
  have keep : ∀ b o, b ≠ T → s.heap.get? b = some o → (s.heap.update T (Obj.mapFields fun y => y.setIfInBounds 3 x)).get? b = some o := fun b o hb ho => (Heap.get?_update_other _ _ (Ne.symm hb)).trans ho
  have nT : ∀ b o, s.heap.get? b = some o → (∀ vs : Array Value, o.data ≠ .fields vs) → b ≠ T := fun b o ho hnf z => by
    rw [z, hT] at ho
    cases ho
    exact hnf ts hdT
  have he3 := keep e oe (Ne.symm hTe) he
  refine wpAny_setField hT hdT h3s (h _ ⟨⟨fun b o hb => keep b o (fun z => by rw [z, hbT] at hb; cases hb) (f1 b o hb), Heap.FunFrames.of_keeps (fun b o ho hnf => ⟨o, keep b o (nT b o ho hnf) ho, rfl⟩) f2, ⟨oe, vs, T, _, _, he3, ⟨hc, h0⟩, hd, h1', hbT, hTe, hT2, hdT2, ?_⟩, fun b o ho hnf => ?_⟩, oe, he3, hdx⟩)
  · rw [Array.getElem?_setIfInBounds_self_of_lt h3s]
  · obtain ⟨sl, e2⟩ := f4 b o ho hnf
    exact ⟨sl, keep b _ (nT b _ e2 hnf) e2⟩
theorem back_own {M : Model} {A : Around} {E : Value → Shared → Prop} {s : Shared} {base : Heap} {env : Env} {l : List Env} {e L : Addr} {cls a0 fl : Value} {dx : Option Addr} {h1 : Heap} (hf : env.frame = some L) (N : NotedD base l e cls a0 fl dx h1 s.heap)
    (h : ∀ h' : Heap, NotedD base l e cls a0 (rawInt L) dx h1 h' → E (.ref e) { s with heap := h' }) : cameBackBy M A env E (.ref e) s := by
  unfold cameBackBy
  obtain ⟨oe, vs, T, oT, ts, he, _, hd, h1', _⟩ := N.1.2.2.1
  refine wpAny_bind (wpAny_field he hd h1' ?_)
  rw [if_neg (by intro z; cases z)]
  rw [hf]
  exact flight_own N h
end PySem
namespace L2
open PySem PySem.Spec PyProof.Rows
/-- a refusal that is in flight, as its trace tells (x: where) -/
structure FlyN (h0 : Heap) (H : Hp) (x : Value) (a T : Addr) (C : Value) (dx : Option Addr) (h : Heap) : Prop where
  na : h0.get? a = none
  fa : H a = none
  nT : h0.get? T = none
  fT : H T = none
  ob : ∃ oe vs a0 oT ts, h.get? a = some oe ∧ oe.cls = C ∧ oe.dict = dx ∧ oe.data = .fields vs ∧ vs[0]? = some a0 ∧ vs[1]? = some (.ref T) ∧ T ≠ a ∧ h.get? T = some oT ∧ oT.data = .fields ts ∧ ts[3]? = some x
/-- as XED, or behind a loop of this frame -/
def XEF (X : Cx) (E : XK) : Value → Shared → Prop := fun e s' => ∃ (a : Addr) (C : Value) (dx : Option Addr) (H' : Hp) (σ : St), e = .ref a ∧ Inv X [] σ H' s' ∧ (FlyE X.s₀.heap H' a C dx s'.heap ∨ (∃ T, FlyD X.s₀.heap H' a T C dx s'.heap) ∨ ∃ T x, FlyN X.s₀.heap H' x a T C dx s'.heap) ∧ E C dx H'
theorem xef_of {X : Cx} {E : XK} {e : Value} {s : Shared} (h : XED X E e s) : XEF X E e s := by
  obtain ⟨a, C, dx, H', σ, e1, I, fl, q⟩ := h
  refine ⟨a, C, dx, H', σ, e1, I, ?_, q⟩
  rcases fl with fl | fl
  · exact .inl fl
  · exact .inr (.inl fl)
theorem PS.up {X : Cx} {E1 E2 : Value → Shared → Prop} {st : Stmt} {t : TS} (h : PS (X.wish E1) st t) (m : ∀ e s, E1 e s → E2 e s) : PS (X.wish E2) st t := fun pins s σ H D I hw =>
  wpAny_mono (h pins s σ H D (I.unwish.wish _) hw) (fun f s' q => by
    cases f with
    | next => obtain ⟨σ', H', I, q⟩ := q; exact ⟨σ', H', I.unwish.wish _, q⟩
    | brk => obtain ⟨σ', H', I, q⟩ := q; exact ⟨σ', H', I.unwish.wish _, q⟩
    | cont => obtain ⟨σ', H', I, q⟩ := q; exact ⟨σ', H', I.unwish.wish _, q⟩
    | ret u => obtain ⟨v, σ', H', I, r, q⟩ := q; exact ⟨v, σ', H', I.unwish.wish _, r, q⟩) m
theorem QS.upF {X : Cx} {E : XK} {st : Stmt} {t : TS} (h : QS (X.wish (XED X E)) st t) : QS (X.wish (XEF X E)) st t := ⟨h.h.up fun _ _ z => xef_of z⟩
section
variable {X : Cx} {pins : List (Addr × Obj)} {σ : St} {H H' : Hp} {s s' : Shared} {E : XK}
/-- a noted refusal flies here -/
theorem noted_fly {ts : List Addr} {h' : Heap} {a : Addr} {C a0 : Value} {dx : Option Addr} (I : Inv X pins σ H s) (hex : X.ex = []) (hts : ∀ b ∈ ts, X.s₀.heap.get? b = none ∧ H b = none) (ha : a ∈ ts) {fl : Value}
    (N : NotedD (PySem.W.hideAll s.heap (ts ++ frs X.stack)) X.stack a C a0 fl dx s.heap h') : ∃ T, X.s₀.heap.get? T = none ∧ H T = none ∧ ∃ oe vs oT tv, h'.get? a = some oe ∧ oe.cls = C ∧ oe.dict = dx ∧ oe.data = .fields vs ∧ vs[0]? = some a0 ∧ vs[1]? = some (.ref T) ∧ T ≠ a ∧ h'.get? T = some oT ∧ oT.data = .fields tv ∧ tv[3]? = some fl := by
  obtain ⟨⟨k1, hf, ⟨oe, vs, T, oT, tv, he, ⟨hc, h0⟩, hd, h1, hnT, hTe, hT, hdT, h3⟩, k4⟩, oe2, he2, hdx⟩ := N
  rw [he] at he2
  cases he2
  have key : X.s₀.heap.get? T = none ∧ H T = none := by
    by_cases z : T ∈ ts
    · exact hts T z
    · have nf : T ∉ frs X.stack := fun q => by
        obtain ⟨_, o, ho, nf⟩ := hf.mem q
        rw [hT] at ho; cases ho
        exact nf _ hdT
      have nn : s.heap.get? T = none := by
        cases q : s.heap.get? T with
        | none => rfl
        | some o =>
          rw [PySem.W.hideAll_get _ q fun y => (List.mem_append.mp y).elim z nf] at hnT
          cases hnT
      exact ⟨I.new0 hex nn, I.newH nn⟩
  exact ⟨T, key.1, key.2, oe, vs, oT, tv, he, hc, hdx, hd, h0, h1, hTe, hT, hdT, h3⟩
/-- the three ways in which it lies -/
theorem fl_as {a : Addr} {C : Value} {dx : Option Addr} {L : Addr} (hf : X.env.frame = some L) {h : Heap} (fl : FlyE X.s₀.heap H a C dx h ∨ (∃ T, FlyD X.s₀.heap H a T C dx h) ∨ ∃ T x, FlyN X.s₀.heap H x a T C dx h) :
    ∃ ts : List Addr, (∀ b ∈ ts, X.s₀.heap.get? b = none ∧ H b = none) ∧ a ∈ ts ∧ ∃ oe vs a0, h.get? a = some oe ∧ oe.cls = C ∧ oe.dict = dx ∧ oe.data = .fields vs ∧ vs[0]? = some a0 ∧ FliesAs (PySem.W.hideAll h (ts ++ frs X.stack)) h L a vs := by
  rcases fl with fl | ⟨T, fl⟩ | ⟨T, x, fl⟩
  · obtain ⟨oe, vs, a0, he, hc, hdx, hd, h0, h1⟩ := fl.ob
    exact ⟨[a], fun b hb => by cases (List.mem_singleton.mp hb); exact ⟨fl.na, fl.fa⟩, by simp, oe, vs, a0, he, hc, hdx, hd, h0, .new h1⟩
  · obtain ⟨oe, vs, a0, oT, tv, he, hc, hdx, hd, h0, h1, hTe, hT, hdT, h3⟩ := fl.ob
    refine ⟨[a, T], fun b hb => ?_, by simp, oe, vs, a0, he, hc, hdx, hd, h0, .next h1 (PySem.W.hideAll_none _ (List.mem_append_left _ (by simp))) hTe hT hdT h3 (by unfold rawInt; intro z; cases z)⟩
    rcases List.mem_cons.mp hb with z | z
    · subst z; exact ⟨fl.na, fl.fa⟩
    · cases (List.mem_singleton.mp z); exact ⟨fl.nT, fl.fT⟩
  · obtain ⟨oe, vs, a0, oT, tv, he, hc, hdx, hd, h0, h1, hTe, hT, hdT, h3⟩ := fl.ob
    refine ⟨[a, T], fun b hb => ?_, by simp, oe, vs, a0, he, hc, hdx, hd, h0, ?_⟩
    · rcases List.mem_cons.mp hb with z | z
      · subst z; exact ⟨fl.na, fl.fa⟩
      · cases (List.mem_singleton.mp z); exact ⟨fl.nT, fl.fT⟩
    · by_cases hx : x = rawInt L
      · rw [hx] at h3
        exact .here h1 (PySem.W.hideAll_none _ (List.mem_append_left _ (by simp))) hTe hT hdT h3
      · exact .next h1 (PySem.W.hideAll_none _ (List.mem_append_left _ (by simp))) hTe hT hdT h3 hx
theorem passesF {M : Model} (hst : X.stack = X.env :: X.outer) (hfr : ∃ L, X.env.frame = some L) (hex : X.ex = []) (hpn : X.pn = []) : PassesOwn M X.A X.env (XEF X E) := by
  obtain ⟨L, hf⟩ := hfr
  rintro e s' ⟨a, C, dx, H', σ, rfl, J, fl, q⟩
  obtain ⟨ts, hts, ha, oe, vs, a0, he, hc, hdx, hd, h0, fa⟩ := fl_as hf fl
  have hfrs : X.A.frames = some (X.env :: X.outer) := by rw [J.ok.frames, hst]
  have hts' : ∀ b ∈ ts, X.s₀.heap.get? b = none ∧ H' b = none ∧ ∀ p ∈ X.pn ++ [], p.1 ≠ b := fun b hb => ⟨(hts b hb).1, (hts b hb).2, fun p hp => by rw [hpn] at hp; cases hp⟩
  refine note_own (base := PySem.W.hideAll s'.heap (ts ++ frs X.stack)) hfrs (by rw [← hst]; exact fun_hide J ts) hf he (hide_stays _ _) (PySem.W.hideAll_none _ (List.mem_append_left _ ha)) hd h0 hdx fa fun h1 N1 => ?_
  refine back_own (s := { s' with heap := h1 }) hf N1 fun h2 N2 => ?_
  rw [← hst, hc] at N2
  have S : Shift X ts s'.heap h2 := ⟨N2.1.1, N2.1.2.2.2⟩
  have J2 : Inv X [] σ H' { s' with heap := h2 } := S.inv (tk := s'.toks) J hts'
  obtain ⟨T, nT, fT, oe2, vs2, oT, tv, g1, g2, g3, g4, g5, g6, g7, g8, g9, g10⟩ := noted_fly J hex hts ha N2
  exact ⟨a, C, dx, H', σ, rfl, J2, .inr (.inr ⟨T, _, (hts a ha).1, (hts a ha).2, nT, fT, oe2, vs2, a0, oT, tv, g1, g2, g3, g4, g5, g6, g7, g8, g9, g10⟩), q⟩
end
section
variable {P : Program} {w : World} {K : PySem.W.Frag} {mg : Str → Option Value} {base : Heap} {N : List Str} {qual : Str} {scope : Scope} {f : Addr} {cd : Value} {A : Around} {outer : List Env} {s : Shared} {H : Hp} {E : XK}
theorem xe_ofF {e : Value} {s' : Shared} (h : XEF (cxOf (CXD P w) P w K mg base N qual scope f cd A outer s H E) E e s') : (cxOf (CXD P w) P w K mg base N qual scope f cd A outer s H E).xe e s' := by
  obtain ⟨a, C, dx, H', σ, rfl, I, fl, q⟩ := h
  obtain ⟨ts, hts, ha, oe, vs, a0, he, hc, hdx, hd, h0, fa⟩ := fl_as (X := cxOf (CXD P w) P w K mg base N qual scope f cd A outer s H E) rfl fl
  have hfr : (A.deeper (envOfC qual scope s.heap.objs.size f cd)).frames = some (envOfC qual scope s.heap.objs.size f cd :: outer) := I.ok.frames
  refine wpAny_bind (note_own (base := PySem.W.hideAll s'.heap (ts ++ frs (envOfC qual scope s.heap.objs.size f cd :: outer))) hfr (fun_hide I ts) rfl he (hide_stays _ _) (PySem.W.hideAll_none _ (List.mem_append_left _ ha)) hd h0 hdx fa fun h1 N1 => ?_)
  refine flight_own (s := { s' with heap := h1 }) N1 fun h2 N2 => ?_
  rw [hc] at N2
  have S : Shift (cxOf (CXD P w) P w K mg base N qual scope f cd A outer s H E) ts s'.heap h2 := ⟨N2.1.1, N2.1.2.2.2⟩
  obtain ⟨T, nT, fT, oe2, vs2, oT, tv, g1, g2, g3, g4, g5, g6, g7, g8, g9, g10⟩ := noted_fly I rfl hts ha N2
  exact ⟨a, T, C, dx, H', rfl, I.os, I.bare, S.un I fun b z => (hts b z).1, S.hok I fun b z => (hts b z).2, ⟨(hts a ha).1, (hts a ha).2, nT, fT, oe2, vs2, a0, oT, tv, g1, g2, g3, g4, g5, g6, g7, g8, g9, g10⟩, q⟩
end
/-- a def that may refuse so, also within its loops -/
theorem Fun.okXFQ {P : Program} {w : World} {K : PySem.W.Frag} {mg : Str → Option Value} {base : Heap} {x qual : Str} {st : Stmt} {f : Addr} {fd : FuncData} {N ps : List Str} {k : Nat} {sp : Sp} (F : Fun K x qual st f fd) (S : FnScope N ps (defScope st))
    (len : ∀ vs H Q E, sp vs H Q E → vs.length = ps.length)
    (hbody : ∀ (cdv : Value) (A : Around) (outer : List Env) (s : Shared) (H : Hp) (vs : List V) (Q : VK) (E : XK), Room k (A.deeper (envOfC qual (defScope st) s.heap.objs.size f cdv)) → sp vs H Q E →
      ∃ t, QSs ((cxOf (CXD P w) P w K mg base N qual (defScope st) f cdv A outer s H E).wish (XEF (cxOf (CXD P w) P w K mg base N qual (defScope st) f cdv A outer s H E) E)) (defBody st) t ∧ t { nx := fun _ H' => Q .non H', rt := Q } (start N vs) H) :
    FnOk P w K mg base (CXD P w) (k + 1) f fd ps sp := by
  obtain ⟨oc, od, kV, doc, pm, an, cdv, ct, osl, rfl, lk, hcd⟩ := F.ex
  refine fn_of lk hcd S len fun A outer s H vs Q E hr hsp => ?_
  obtain ⟨t, h, q⟩ := hbody cdv A outer s H vs Q E hr hsp
  refine ⟨t, fun pins s1 σ H1 D I hw => ?_, q⟩
  exact wpAny_mono (h.h pins s1 σ H1 D (I.wish _) hw) (fun _ _ z => z.unwish) fun e s2 z => xe_ofF z
end L2
/-! EvTk: a try in the frame of which the variables stay: its body is one call that may refuse (with a field). Behind EvXq and EvCls. -/
namespace L2
open PySem PySem.Spec PyProof.Rows
/-- as XTD, the variables known -/
def XTK (X : Cx) (σ : St) (E : XK) : Value → Shared → Prop := fun e s' => ∃ (a T : Addr) (C : Value) (dx : Option Addr) (H' : Hp), e = .ref a ∧ Inv X [] σ H' s' ∧ FlyD X.s₀.heap H' a T C dx s'.heap ∧ (∀ p ∈ X.pn, p.1 ≠ a ∧ p.1 ≠ T) ∧ E C dx H'
/-- a refusal of a call goes on, where the call is made with these variables -/
def PassK (CX : CXT) (X : Cx) (σ : St) (E : XK) : Prop := ∀ pins H s e s', Inv X pins σ H s → CX X.stack H s E e s' → X.xe e s'
theorem passTK {X : Cx} {σ : St} {E : XK} (hex : X.ex = []) : PassK (CXD X.prog X.w) (X.wish (XTK X σ E)) σ E := fun pins H s e s' I q => by
  obtain ⟨a, T, C, dx, H', rfl, os, bare, un, hok, fl, qE⟩ := q
  have I0 : Inv X pins σ H s := I.unwish
  refine ⟨a, T, C, dx, H', rfl, (I0.call' os un hok bare (fun b z => absurd z (by simp))).nopins, ⟨I0.new0 hex fl.na, fl.fa, I0.new0 hex fl.nT, fl.fT, fl.ob⟩, fun p hp => ?_, qE⟩
  have e := (I0.pin p (List.mem_append_left _ hp)).1
  exact ⟨fun z => (by rw [z, fl.na] at e; cases e), fun z => (by rw [z, fl.nT] at e; cases e)⟩
section
variable {X : Cx} {CX : CXT} {k : Nat} {f C : Addr} {fd : FuncData} {ps : List Str} {sp : Sp} {E : XK} {x : Str} {p pos : Pos} {e : Expr} {es : List Expr} {t : TA} {σ0 : St}
end
def EHK (K : PySem.W.Frag) (M : Addr) (i : Nat) (th : TS) (D : Ends) (σ : St) : XK := fun C dx H => ∃ c, C = .ref c ∧ PySem.W.mroIn K c (.ref M) = some true ∧ ∀ a, H a = none → th (D.gone i) (σ.set i (some (.ref a))) (upd H a (XD a c dx))
def tTryK (K : PySem.W.Frag) (M : Addr) (i : Nat) (tb : XK → St → TS) (th : TS) : TS := fun D σ H => tb (EHK K M i th D σ) σ D σ H
theorem ps_tryK {X : Cx} {body : List Stmt} {tb : XK → St → TS} {th : TS} {x n : Str} {M : Addr} {i : Nat} {b0 : Stmt} {suite : List Stmt} {np hpos pos : Pos} (hex : X.ex = []) (hst : X.stack = X.env :: X.outer) (hfr : X.env.frame = some X.env.locals)
    (hb : ∀ (pn : List (Addr × Obj)) (E : XK) (σ0 : St), PSs ((X.pinned pn).wish (XTK (X.pinned pn) σ0 E)) body (tb E σ0)) (hg : Gl X x) (hm : X.mg x = some (.ref M)) (TM : PySem.W.ExcK X.K M) (hN : X.N.Nodup) (hi : X.N[i]? = some n) (hl : X.env.scope.names.lookup n = some .local)
    (hh : ∀ a, PSs (X.inH a) (b0 :: suite) th) (hdb : (x == ("__debug__" : Str)) = false := by decide) :
    PS X (.Try body [.ExceptHandler (some (.Name x np)) (some n) (b0 :: suite) hpos] [] [] pos) (tTryK X.K M i tb th) := by
  intro pins s σ H D I h
  have okX := I.ok
  refine wpAny_Try_except (wpAny_mono (hb (X.pn ++ pins) (EHK X.K M i th D σ) σ [] s σ H D (I.toPn.wish _) h) (fun f s1 q => ?_) fun e s1 q => ?_)
  · have back : ∀ {σ' : St} {H' : Hp}, Inv ((X.pinned (X.pn ++ pins)).wish (XTK (X.pinned (X.pn ++ pins)) σ (EHK X.K M i th D σ))) [] σ' H' s1 → Inv X pins σ' H' s1 := fun J => Inv.ofPn okX J.unwish
    cases f with
    | next =>
      obtain ⟨σ', H', J, z⟩ := q
      exact wpAny_execs_nil ⟨σ', H', back J, z⟩
    | brk =>
      obtain ⟨σ', H', J, z⟩ := q
      exact ⟨σ', H', back J, z⟩
    | cont =>
      obtain ⟨σ', H', J, z⟩ := q
      exact ⟨σ', H', back J, z⟩
    | ret u =>
      obtain ⟨v, σ', H', J, r, z⟩ := q
      exact ⟨v, σ', H', back J, r, z⟩
  · obtain ⟨a, T, C, dx, H1, rfl, J0, fl, hpn, c, rfl, hmro, hth⟩ := q
    have J : Inv X pins σ H1 s1 := Inv.ofPn okX J0
    have hpn' : ∀ p ∈ X.pn ++ pins, p.1 ≠ a ∧ p.1 ≠ T := hpn
    have hfrs : X.A.frames = some (X.env :: X.outer) := by rw [okX.frames, hst]
    have ne1 : ∀ p ∈ X.pn ++ pins, p.1 ∉ frs X.stack := fun p hp z => by
      obtain ⟨_, _, ne, nf, _⟩ := J.pin p hp
      exact (List.mem_cons.mp (J.stkSub p.1 z)).elim ne nf
    obtain ⟨oe, vs, a0, oT, tv, he, hc, hdx, hd, h0, h1, hTe, hT, hdT, h3⟩ := fl.ob
    have hts : ∀ b ∈ [a, T], X.s₀.heap.get? b = none ∧ H1 b = none ∧ ∀ p ∈ X.pn ++ pins, p.1 ≠ b := fun b hb => by
      rcases List.mem_cons.mp hb with z | z
      · subst z; exact ⟨fl.na, fl.fa, fun p hp => (hpn' p hp).1⟩
      · cases (List.mem_singleton.mp z); exact ⟨fl.nT, fl.fT, fun p hp => (hpn' p hp).2⟩
    refine note_next (base := PySem.W.hideAll s1.heap ([a, T] ++ frs X.stack)) hfrs (by rw [← hst]; exact fun_hide J [a, T]) hfr he (hide_stays _ _) (PySem.W.hideAll_none _ (List.mem_append_left _ (by simp))) hd h1 h0 hdx (PySem.W.hideAll_none _ (List.mem_append_left _ (by simp))) hTe hT hdT h3 fun h5 ⟨⟨k1, k2, k3, k4⟩, oe5, ge5, gd5⟩ => ?_
    have fly5 : Heap.FlyingW (PySem.W.hideAll s1.heap ([a, T] ++ frs X.stack)) (X.env :: X.outer) a (.ref c) a0 h5 := ⟨k1, PySem.W.hideAll_none _ (List.mem_append_left _ (by simp)), k2, by rw [← hc]; exact k3⟩
    have S5 : Shift X [a, T] s1.heap h5 := ⟨fly5.1, k4⟩
    have J5 : Inv X pins σ H1 { s1 with heap := h5 } := S5.inv (tk := s1.toks) J hts
    obtain ⟨o5, g5, c5⟩ := fly5.there
    refine wpAny_handleBy_cons (codeAny_handlers_test (ld_glob (X := X.inH a) (J5.inH a) hg hm ?_ hdb)) (by intro z; cases z)
    refine PySem.W.exc_matches J5.kIn g5 c5 TM hmro (codeAny_handlers_suite_as ?_)
    refine land_again fly5 ge5 gd5 fun h6 fly6 up6 ge6 => ?_
    have S6 : Shift X [a, T] s1.heap h6 := ⟨fly6.1, up_trans k4 up6⟩
    have J6 : Inv X pins σ H1 { s1 with heap := h6 } := S6.inv (tk := s1.toks) J hts
    obtain ⟨o6, v6, g6, c6, d6, _⟩ := fly6.first
    have nL : a ≠ X.env.locals := fun z => by
      obtain ⟨m, ⟨oL, es, ep, eL, dL, _⟩, _⟩ := J6.loc
      rw [← z, g6] at eL; cases eL
      rw [d6] at dL; cases dL
    have nC : ∀ x c, X.env.cells.lookup x = some c → c ≠ a := fun x c' e z => by
      obtain ⟨v, oc, ec, dc⟩ := J6.cell x c' e
      rw [z, g6] at ec; cases ec
      rw [d6] at dc; cases dc
    have J7 : Inv X pins σ (upd H1 a (XD a c dx)) { s1 with heap := h6 } := (J6.track (o := XD a c dx) fl.fa fl.na nL nC (fun p hp => (hpn' p hp).1)
      (show ObjOk X.prog X.w (upd H1 a (XD a c dx)) h6 a (XD a c dx) from ⟨⟨o6, v6, g6, c6, by rw [ge6] at g6; cases g6; exact gd5, d6⟩, ⟨o6, g6⟩, fun g1 g2 ⟨o, vs', z1, z2⟩ st => ⟨o, vs', st o z1, z2⟩⟩))
    refine store_ok (X := X.inH a) (J7.inH a) hN hi (.inl hl) (v := .ref a) rfl (fun s8 J8 => ?_) (.inr hl)
    refine wpAny_mono (hh a pins s8 _ _ (D.gone i) J8 (hth a fl.fa)) (fun f s9 z => ?_) fun _ _ z => z.elim
    have back : ∀ {σ' : St} {H' : Hp}, Inv (X.inH a) pins σ' H' s9 → Inv X pins σ' H' s9 := fun J => Inv.ofH okX J
    cases f with
    | next =>
      obtain ⟨σ', H', J9, z⟩ := z
      exact name_goneK (back J9) hN hi hl fun s' J' => ⟨_, H', J', z⟩
    | brk =>
      obtain ⟨σ', H', J9, z⟩ := z
      exact name_goneK (back J9) hN hi hl fun s' J' => ⟨_, H', J', z⟩
    | cont =>
      obtain ⟨σ', H', J9, z⟩ := z
      exact name_goneK (back J9) hN hi hl fun s' J' => ⟨_, H', J', z⟩
    | ret u =>
      obtain ⟨v, σ', H', J9, r, z⟩ := z
      exact name_goneK (back J9) hN hi hl fun s' J' => ⟨v, _, H', J', r, z⟩

theorem qs_tryK {X : Cx} {body : List Stmt} {tb : XK → St → TS} {th : TS} {x n : Str} {M : Addr} {i : Nat} {b0 : Stmt} {suite : List Stmt} {np hpos pos : Pos} (hex : X.ex = []) (hst : X.stack = X.env :: X.outer) (hfr : X.env.frame = some X.env.locals)
    (hb : ∀ (pn : List (Addr × Obj)) (E : XK) (σ0 : St), QSs ((X.pinned pn).wish (XTK (X.pinned pn) σ0 E)) body (tb E σ0)) (hg : Gl X x) (hm : X.mg x = some (.ref M)) (TM : PySem.W.ExcK X.K M) (hN : X.N.Nodup) (hi : X.N[i]? = some n) (hl : X.env.scope.names.lookup n = some .local)
    (hh : ∀ a, QSs (X.inH a) (b0 :: suite) th) (hdb : (x == ("__debug__" : Str)) = false := by decide) :
    QS X (.Try body [.ExceptHandler (some (.Name x np)) (some n) (b0 :: suite) hpos] [] [] pos) (tTryK X.K M i tb th) := ⟨ps_tryK hex hst hfr (fun pn E σ0 => (hb pn E σ0).h) hg hm TM hN hi hl (fun a => (hh a).h) hdb⟩
end L2
/-! EvXc: refusals that leave a comprehension; refusals of plain classes where others have fields; a call that may refuse within a try whose variables stay. Behind EvXl and EvTk. -/
namespace PySem
theorem noteFrame_congr {x : Value} {env env' : Env} (h : env.frame = env'.frame) : noteFrame x env = noteFrame x env' := by
  unfold noteFrame frameOf
  rw [h]
end PySem
namespace L2
open PySem PySem.Spec PyProof.Rows
section
variable {X : Cx} {pins : List (Addr × Obj)} {σ : St} {H H' : Hp} {s s' : Shared} {E : XK}
theorem Shift.unE {ts : List Addr} {h' : Heap} (S : Shift X ts s.heap h') (I : Inv X pins σ H s) (hts : ∀ b ∈ ts, X.s₀.heap.get? b = none ∨ b ∈ X.ex) : Un X.fs X.ex X.H₀ H X.s₀.heap h' := by
  have nts : ∀ b o, X.s₀.heap.get? b = some o → b ∉ X.ex → b ∉ ts := fun b o e hx z => by
    rcases hts b z with y | y
    · rw [y] at e; cases e
    · exact hx y
  have nL : ∀ b o, X.s₀.heap.get? b = some o → b ≠ X.env.locals := fun b o e => Nat.ne_of_lt (Nat.lt_of_lt_of_le (Heap.lt_size e) I.ok.above)
  have nst : ∀ b o, X.s₀.heap.get? b = some o → b ∉ X.fs → b ∉ frs X.stack := fun b o e hb z => (List.mem_cons.mp (I.stkSub b z)).elim (nL b o e) hb
  refine ⟨fun b o e n hb hx => S.get (I.base.keep b o e n hb hx) (nts b o e hx) (nst b o e hb), fun b o e n hb hx => ?_, fun b o e n hx => I.base.free b o e n hx, fun b o e hx => ?_, I.base.tups, I.base.frzs, I.base.tbls⟩
  · obtain ⟨sl, e1⟩ := I.base.slot b o e n hb hx
    obtain ⟨_, o', e', nf⟩ := I.funs.mem hb
    rw [e1] at e'; cases e'
    obtain ⟨sl2, e2⟩ := S.up b _ e1 nf
    exact ⟨sl2, e2⟩
  · obtain ⟨o', e1⟩ := I.base.there b o e hx
    by_cases z : b ∈ frs X.stack
    · obtain ⟨sl, e2⟩ := S.frame I z e1
      exact ⟨_, e2⟩
    · exact ⟨o', S.get e1 (nts b o e hx) z⟩
theorem Shift.invE {ts : List Addr} {h' : Heap} {tk : Nat} (S : Shift X ts s.heap h') (I : Inv X pins σ H s) (hts : ∀ b ∈ ts, (X.s₀.heap.get? b = none ∨ b ∈ X.ex) ∧ H b = none ∧ ∀ p ∈ X.pn ++ pins, p.1 ≠ b) : Inv X pins σ H { s with heap := h', toks := tk } := by
  have cellK : ∀ c v, s.heap.IsCell c v → h'.IsCell c v := fun c v ⟨o, ho, hd⟩ => by
    obtain ⟨sl, e⟩ := S.up c o ho (fun vs q => by rw [hd] at q; cases q)
    exact ⟨_, e, hd⟩
  refine ⟨I.ok, I.os, I.bare, S.unE I fun b z => (hts b z).1, ?_, fun x c e => ?_, I.free, I.freeC, fun p hp => ?_, S.hok I fun b z => (hts b z).2.1, I.len⟩
  · obtain ⟨m, hn, hl⟩ := I.loc
    refine ⟨m, S.up.ns hn, fun i x v e1 e2 e3 => ?_⟩
    obtain ⟨u, r, l⟩ := hl i x v e1 e2 e3
    refine ⟨u, r, ?_⟩
    rcases l with l | ⟨k, c, e, z⟩
    · exact .inl l
    · exact .inr ⟨k, c, e, cellK c _ z⟩
  · obtain ⟨v, z⟩ := I.cell x c e
    exact ⟨v, cellK c v z⟩
  · obtain ⟨e, n, ne, nf, d⟩ := I.pin p hp
    exact ⟨S.get e (fun z => (hts p.1 z).2.2 p hp rfl) fun z => (List.mem_cons.mp (I.stkSub p.1 z)).elim ne nf, n, ne, nf, d⟩
/-- how a callee's refusal lies within a comprehension of the frame X -/
def XCF (X : Cx) (E : XK) (Y : Cx) : Value → Shared → Prop := fun e s' => ∃ (a T : Addr) (C : Value) (dx : Option Addr) (H' : Hp) (σ' : St), e = .ref a ∧ Inv Y [] σ' H' s' ∧ FlyD X.s₀.heap H' a T C dx s'.heap ∧ (∀ b ∈ [a, T], Y.s₀.heap.get? b = none ∨ b ∈ Y.ex) ∧ E C dx H'
theorem passC {Y : Cx} (hex : X.ex = []) (hpn : Y.pn = []) (hP : Y.prog = X.prog) (hW : Y.w = X.w) (old : X.ex = [] → ∀ b o, X.s₀.heap.get? b = some o → b ∉ Y.ex ∧ ∃ o', Y.s₀.heap.get? b = some o') : Passes (CXD X.prog X.w) (Y.wish (XCF X E Y)) E := fun pins σ H s e s' I q => by
  obtain ⟨a, T, C, dx, H', rfl, os, bare, un, hok, fl, qE⟩ := q
  have I0 : Inv Y pins σ H s := I.unwish
  have nY : ∀ b, s.heap.get? b = none → Y.s₀.heap.get? b = none ∨ b ∈ Y.ex := fun b n => by
    by_cases hb : b ∈ Y.ex
    · exact .inr hb
    · cases q : Y.s₀.heap.get? b with
      | none => exact .inl rfl
      | some o =>
        obtain ⟨o', e'⟩ := I0.base.there b o q hb
        rw [n] at e'
        cases e'
  have nX : ∀ b, s.heap.get? b = none → X.s₀.heap.get? b = none := fun b n => by
    cases q : X.s₀.heap.get? b with
    | none => rfl
    | some o =>
      obtain ⟨nf, o', e'⟩ := old hex b o q
      obtain ⟨o2, e2⟩ := I0.base.there b o' e' nf
      rw [n] at e2
      cases e2
  rw [← hP, ← hW] at hok
  refine ⟨a, T, C, dx, H', σ, rfl, (I0.call' os un hok bare (fun b z => absurd z (by simp))).nopins, ⟨nX a fl.na, fl.fa, nX T fl.nT, fl.fT, fl.ob⟩, fun b hb => ?_, qE⟩
  rcases List.mem_cons.mp hb with z | z
  · subst z; exact nY _ fl.na
  · cases (List.mem_singleton.mp z); exact nY _ fl.nT
end
/-- what becomes of it -/
theorem comp_bad {X : Cx} {E : XK} {pins : List (Addr × Obj)} {σ : St} {scope : Scope} {N : List Str} {use : Option (Value → Sem Unit)} {Post : Value → Shared → Prop} (hex : X.ex = []) (hpn : X.pn = []) (hst : X.stack = X.env :: X.outer) (hfr : ∃ L, X.env.frame = some L) (s2 : Shared) (H2 : Hp) (cl : List (Str × Addr)) (C : Addr) (fp : List Addr) (acc e : Value) (s' : Shared)
    (key : ∀ σ' H' s', Inv (cxC (X.wish (XEF X E)) s2 H2 scope cl C N fp) [] σ' H' s' → ∀ h', Heap.SameBut C s'.heap h' → Inv (X.wish (XEF X E)) pins σ H' { s' with heap := h' })
    (old : (X.wish (XEF X E)).ex = [] → ∀ b o, (X.wish (XEF X E)).s₀.heap.get? b = some o → b ∉ fp ∧ ∃ o', s2.heap.get? b = some o') (h : XCF X E (cxC (X.wish (XEF X E)) s2 H2 scope cl C N fp) e s') :
    notedBy (model X.prog X.w) X.A (compEnvC scope cl C X.env) (fun x s'' => compPost (model X.prog X.w) X.A (XEF X E) use Post acc C (.error x) s'') e s' := by
  obtain ⟨a, T, Cc, dx, H', σ', rfl, J, fl, hY, q⟩ := h
  obtain ⟨L, hf⟩ := hfr
  unfold notedBy
  rw [noteFrame_congr (env := compEnvC scope cl C X.env) (env' := X.env) rfl]
  obtain ⟨oe, vs, a0, oT, tv, he, hc, hdx, hd, h0, h1, hTe, hT, hdT, h3⟩ := fl.ob
  have hfrs : X.A.frames = some (X.env :: X.outer) := by
    rw [← hst]
    exact J.ok.frames
  have hfh : s'.heap.FunFrames (PySem.W.hideAll s'.heap ([a, T] ++ frs X.stack)) (X.env :: X.outer) := by
    rw [← hst]
    exact fun_hide J [a, T]
  refine note_own (base := PySem.W.hideAll s'.heap ([a, T] ++ frs X.stack)) hfrs hfh hf he (hide_stays _ _) (PySem.W.hideAll_none _ (List.mem_append_left _ (by simp))) hd h0 hdx (.next h1 (PySem.W.hideAll_none _ (List.mem_append_left _ (by simp))) hTe hT hdT h3 (by unfold rawInt; intro z; cases z)) fun h5 N5 => ?_
  have S5 : Shift (cxC (X.wish (XEF X E)) s2 H2 scope cl C N fp) [a, T] s'.heap h5 := ⟨N5.1.1, N5.1.2.2.2⟩
  have htsY : ∀ b ∈ [a, T], ((cxC (X.wish (XEF X E)) s2 H2 scope cl C N fp).s₀.heap.get? b = none ∨ b ∈ (cxC (X.wish (XEF X E)) s2 H2 scope cl C N fp).ex) ∧ H' b = none ∧ ∀ p ∈ (cxC (X.wish (XEF X E)) s2 H2 scope cl C N fp).pn ++ [], p.1 ≠ b := fun b hb => by
    refine ⟨hY b hb, ?_, fun p hp => by cases hp⟩
    rcases List.mem_cons.mp hb with z | z
    · subst z; exact fl.fa
    · cases (List.mem_singleton.mp z); exact fl.fT
  have J5 : Inv (cxC (X.wish (XEF X E)) s2 H2 scope cl C N fp) [] σ' H' { s' with heap := h5 } := S5.invE (tk := s'.toks) J htsY
  obtain ⟨⟨k1, k2, ⟨oe5, vs5, T5, oT5, ts5, he5, ⟨hc5, h05⟩, hd5, h15, hnT5, hTe5, hT5, hdT5, h35⟩, k4⟩, oe6, he6, hdx6⟩ := N5
  rw [he5] at he6
  cases he6
  -- the trace is new
  have newT : X.s₀.heap.get? T5 = none ∧ H' T5 = none := by
    by_cases z : T5 ∈ [a, T]
    · rcases List.mem_cons.mp z with z | z
      · subst z; exact ⟨fl.na, fl.fa⟩
      · cases (List.mem_singleton.mp z); exact ⟨fl.nT, fl.fT⟩
    · have nf : T5 ∉ frs X.stack := fun y => by
        have y' : T5 ∈ List.filterMap (fun x => x.frame) (X.env :: X.outer) := by rw [← hst]; exact y
        obtain ⟨_, o, ho, nf⟩ := k2.mem y'
        rw [hT5] at ho; cases ho
        exact nf _ hdT5
      have nn : s'.heap.get? T5 = none := by
        cases y : s'.heap.get? T5 with
        | none => rfl
        | some o =>
          rw [PySem.W.hideAll_get _ y fun y' => (List.mem_append.mp y').elim z nf] at hnT5
          cases hnT5
      refine ⟨?_, J.newH nn⟩
      cases y : X.s₀.heap.get? T5 with
      | none => rfl
      | some o =>
        obtain ⟨nfp, o', e'⟩ := old hex T5 o y
        obtain ⟨o2, e2⟩ := J.base.there T5 o' e' nfp
        rw [nn] at e2
        cases e2
  obtain ⟨m, hn, _⟩ := J5.loc
  refine ⟨m, hn, fun h' hsb cenv _ => ?_⟩
  have K := key _ _ _ J5 h' hsb
  have K0 : Inv X [] σ H' { s' with heap := h' } := K.unwish.nopins
  obtain ⟨oC, es, ep, eC, dC, _⟩ := hn
  have naC : a ≠ C := fun z => by
    have : h5.get? a = some oC := by rw [z]; exact eC
    rw [he5] at this
    cases this
    rw [hd5] at dC
    cases dC
  have nTC : T5 ≠ C := fun z => by
    have : h5.get? T5 = some oC := by rw [z]; exact eC
    rw [hT5] at this
    cases this
    rw [hdT5] at dC
    cases dC
  have he' : h'.get? a = some oe5 := (hsb.2 a naC).trans he5
  have hT' : h'.get? T5 = some oT5 := (hsb.2 T5 nTC).trans hT5
  have N' : NotedD (PySem.W.hideAll h' ([a, T5] ++ frs X.stack)) (X.env :: X.outer) a Cc a0 (rawInt L) dx h' h' := by
    refine ⟨⟨hide_stays _ _, ?_, ⟨oe5, vs5, T5, oT5, ts5, he', ⟨hc5.trans hc, h05⟩, hd5, h15, PySem.W.hideAll_none _ (List.mem_append_left _ (by simp)), hTe5, hT', hdT5, h35⟩, fun b o ho _ => ⟨o.slots, ho⟩⟩, oe5, he', hdx6⟩
    rw [← hst]
    exact fun_hide (s := { s' with heap := h' }) K0 [a, T5]
  unfold PySem.passOn
  refine wpAny_bind (wpAny_field (s := { s' with heap := h' }) he' hd5 h15 ?_)
  rw [if_neg (by intro z; cases z)]
  refine wpAny_bind (flight_own (s := { s' with heap := h' }) N' fun h6 N6 => ?_)
  refine wpAny_throw ?_
  have S6 : Shift X [a, T5] h' h6 := ⟨N6.1.1, N6.1.2.2.2⟩
  have htsX : ∀ b ∈ [a, T5], X.s₀.heap.get? b = none ∧ H' b = none ∧ ∀ p ∈ X.pn ++ [], p.1 ≠ b := fun b hb => by
    refine ⟨?_, ?_, fun p hp => by rw [hpn] at hp; cases hp⟩
    · rcases List.mem_cons.mp hb with z | z
      · subst z; exact fl.na
      · cases (List.mem_singleton.mp z); exact newT.1
    · rcases List.mem_cons.mp hb with z | z
      · subst z; exact fl.fa
      · cases (List.mem_singleton.mp z); exact newT.2
  have J6 : Inv X [] σ H' { s' with heap := h6 } := S6.inv (s := { s' with heap := h' }) (tk := s'.toks) K0 htsX
  have hts2 : ∀ b ∈ [a, T5], X.s₀.heap.get? b = none ∧ H' b = none := fun b hb => ⟨(htsX b hb).1, (htsX b hb).2.1⟩
  rw [← hst] at N6
  obtain ⟨T6, nT, fT, oe7, vs7, oT7, tv7, g1, g2, g3, g4, g5, g6, g7, g8, g9, g10⟩ := noted_fly (s := { s' with heap := h' }) K0 hex hts2 (by simp) N6
  exact ⟨a, Cc, dx, H', σ, rfl, J6, .inr (.inr ⟨T6, _, fl.na, fl.fa, nT, fT, oe7, vs7, a0, oT7, tv7, g1, g2, g3, g4, g5, g6, g7, g8, g9, g10⟩), q⟩
/-! ### the rules -/
section
variable {X : Cx} {E : XK} {elt tg iter : Expr} {ifs : List Expr} {scope : Scope} {pos spos pos' : Pos} {x : Str} {i : Nat} {N : List Str} {src : List (Option Nat)} {wi : TI} {g : TG} {tc : TT} {te : TE}
/-- a comprehension whose element may refuse -/
theorem qe_compX (hex : X.ex = []) (hpn : X.pn = []) (hst : X.stack = X.env :: X.outer) (hfr : ∃ L, X.env.frame = some L) (hc : X.calm = true) (S : CompScope (X.wish (XEF X E)) scope N src) (hi : QI (X.wish (XEF X E)) tg iter wi)
    (hg : ∀ s H cl C fp, QG (cxC (X.wish (XEF X E)) s H scope cl C N fp) tg g) (hf : ∀ s H cl C fp, QIf (cxC (X.wish (XEF X E)) s H scope cl C N fp) ifs tc)
    (he : ∀ s H cl C fp, Passes (CXD X.prog X.w) ((cxC (X.wish (XEF X E)) s H scope cl C N fp).wish (XCF X E (cxC (X.wish (XEF X E)) s H scope cl C N fp))) E → QE ((cxC (X.wish (XEF X E)) s H scope cl C N fp).wish (XCF X E (cxC (X.wish (XEF X E)) s H scope cl C N fp))) elt te)
    (hs : ∀ x, foldedSetIterable iter X.env x = pure x := by intro _; rfl) : QE (X.wish (XEF X E)) (.ListComp elt [⟨tg, iter, ifs, 0⟩] scope pos) (tComp src wi g tc te) := by
  refine ⟨fun pins s σ H Q I h => ?_⟩
  rw [eval_ListComp]
  exact comp_coreX (use := none) hc S hi.h (fun s H cl C fp => (hg s H cl C fp).h) (fun s H cl C fp => (hf s H cl C fp).h) (fun Y => XCF X E Y) (fun s H cl C fp old => (he s H cl C fp (passC hex rfl rfl rfl old)).h) hs I h (fun C a H1 s' key _ ⟨m, hn⟩ q => ⟨m, hn, fun h' sb => ⟨.ref a, H1, key h' sb, rfl, q⟩⟩)
    fun s2 H2 cl C fp acc e s' key old z => comp_bad (use := none) hex hpn hst hfr s2 H2 cl C fp acc e s' key old z
end
/-- a raise of a plain class, where refusals may have fields -/
def tRaiseF (C : Addr) (E : XK) (t : TA) : TS := fun _ σ H => t σ H fun vs H1 => vs.length ≤ sizeLine ∧ ∀ dx, E (.ref C) dx H1
theorem ps_raiseF {X : Cx} {E : XK} {x : Str} {C : Addr} {np cpos pos : Pos} {e : Expr} {es : List Expr} {t : TA} (hx : PySem.W.excIn X.K C bmVE newVE = true) (hg : Gl X x) (hm : X.mg x = some (.ref C)) (hc : X.calm = true) (hex : X.ex = [])
    (ha : PA (X.wish (XEF X E)) (e :: es) t) (hdb : (x == ("__debug__" : Str)) = false := by decide) (he : starEach (e :: es) X.env = (false, eval e X.env) :: starEach es X.env := by rfl) (hpl : (backTo cpos (starEach es X.env)).any (·.1) = false := by rfl) :
    PS (X.wish (XEF X E)) (.Raise (some (.Call (.Name x np) (e :: es) [] cpos)) none pos) (tRaiseF C E t) := by
  intro pins s σ H D I h
  have FB := PySem.F.excBase_ValueError
  obtain ⟨tl, N, nm, q, bs, hdct, sn, sub, ab, col, dd, k0, k1, k2, k3, k5, mN, hC, hN, hni, T⟩ := exc_cls_of I.mod.kin hx
  have he' : starEach (e :: es) (X.wish (XEF X E)).env = (false, eval e (X.wish (XEF X E)).env) :: starEach es (X.wish (XEF X E)).env := he
  refine wpAny_Raise_call_subT (C := C) (nm := nm) (q := q) (N := N) (bs := bs) (bm := tl) (hdct := hdct) (sn := sn) (sub := sub) (ab := ab) (col := col) (dd := dd) (k0 := k0) (k1 := k1) (k2 := k2) (k3 := k3) (k5 := k5)
    FB (mN := mN) (T.hasType FB.hasBase) (I.ok.hd hc) (by rw [he']; show (false || (backTo cpos (starEach es X.env)).any (·.1)) = false; rw [hpl]; rfl) hni (ld_glob I hg hm ⟨rfl, ?_⟩ hdb)
  have hA := ha cpos pins s σ H _ I h
  rw [he'] at hA ⊢
  refine Calls.evalArgs_plain (wpAny_mono hA (fun us s2 h2 => ?_) fun _ _ y => y)
  obtain ⟨vs, H1, I1, r, hz, qE⟩ := h2
  refine ⟨rfl, by show us.length ≤ sizeLine; rw [← r.length]; exact hz, I1.bk _ _ hC, hN.keeps I1.bk, T.keeps I1.bk, fun h' a hm' => ?_⟩
  obtain ⟨t0, hta, _, _⟩ := hm'.there
  have I0 : Inv X pins σ H1 s2 := I1.unwish
  exact ⟨a, .ref C, _, H1, σ, rfl, (I0.kept (t' := s2.toks) hm'.keeps).nopins, .inl ⟨I0.new0 hex hm'.new, I0.newH hm'.new, _, _, .ref t0, hta, rfl, rfl, rfl, rfl, rfl⟩, qE _⟩
theorem qs_raiseF {X : Cx} {E : XK} {x : Str} {C : Addr} {np cpos pos : Pos} {e : Expr} {es : List Expr} {t : TA} (hx : PySem.W.excIn X.K C bmVE newVE = true) (hg : Gl X x) (hm : X.mg x = some (.ref C)) (hc : X.calm = true) (hex : X.ex = [])
    (ha : QA (X.wish (XEF X E)) (e :: es) t) (hdb : (x == ("__debug__" : Str)) = false := by decide) (he : starEach (e :: es) X.env = (false, eval e X.env) :: starEach es X.env := by rfl) (hpl : (backTo cpos (starEach es X.env)).any (·.1) = false := by rfl) :
    QS (X.wish (XEF X E)) (.Raise (some (.Call (.Name x np) (e :: es) [] cpos)) none pos) (tRaiseF C E t) := ⟨ps_raiseF hx hg hm hc hex ha.h hdb he hpl⟩
/-- a callee's refusal, in a frame that may refuse within its loops -/
theorem passF {X : Cx} {E : XK} (hex : X.ex = []) : Passes (CXD X.prog X.w) (X.wish (XEF X E)) E := fun pins σ H s e s' I q => xef_of (passED hex pins σ H s e s' (I.unwish.wish _) q)
section
variable {X : Cx} {CX : CXT} {k : Nat} {ps : List Str} {sp : Sp} {E : XK} {x : Str} {p pos : Pos} {e : Expr} {es : List Expr} {t : TA} {σ0 : St}
/-- a call that may refuse, the variables being these -/
def tCallR0 (σ0 : St) (sp : Sp) (E : XK) (t : TA) : TE := fun σ H Q => σ = σ0 ∧ tCall sp [] E t σ H Q
theorem qe_callR0 (h : Pm X.prog X.w X.K X.mg X.base CX k x ps sp) (hr : Room k X.A) (hg : Gl X x) (hx : PassK CX X σ0 E) (ha : QA X (e :: es) t) (hdb : (x == ("__debug__" : Str)) = false := by decide)
    (he : starEach (e :: es) X.env = (false, eval e X.env) :: starEach es X.env := by rfl) (hpl : (backTo pos (starEach es X.env)).any (·.1) = false := by rfl) : QE X (.Call (.Name x p) (e :: es) [] pos) (tCallR0 σ0 sp E t) := by
  obtain ⟨f, fd, hm, hk, hb, F⟩ := h
  refine ⟨fun pins s σ H Q I h => ?_⟩
  obtain ⟨rfl, h⟩ := h
  refine wpAny_Call_Name_kw (ld_glob I hg hm ?_ hdb)
  refine PySem.W.callWith_K (h₀ := X.base) I.ok.mod.kin hk (thn (ha.h pos pins s σ H _ I h) fun us s1 ⟨vs, H1, I1, r, q⟩ => ⟨I1.kIn, ?_⟩) he hpl
  have r2 : Vals (vs ++ []) (us ++ []) := r.append .nil
  have hl : (us ++ []).length = ps.length := by rw [← r2.length]; exact F.len _ _ _ _ q
  refine wpAny_call (codeAny_mono (F.run X.A X.stack s1 H1 ⟨us, []⟩ (us ++ []) (vs ++ []) Q E hr I1.env0 (hb s1 us I1.kIn hl) r2 q) fun r s' hq => ?_)
  cases r with
  | error e => exact hx pins H1 s1 e s' I1 hq
  | ok fl =>
    cases fl with
    | ret u => exact I1.after hq
    | next => exact False.elim hq
    | brk => exact False.elim hq
    | cont => exact False.elim hq
end
/-- isinstance of a refusal of a plain class -/
def rIsDP (K : PySem.W.Frag) : List V → Hp → VK → Prop := fun xs H Q => ∃ a C dx c b, xs = [.ref a, c] ∧ H a = some (XD a C dx) ∧ PySem.W.ExcK K C ∧ (∀ u, RelV c u → PySem.W.kitOne K (.ref C) u = some b) ∧ Q (.bl b) H
theorem call_isinstDP {X : Cx} (G : PySem.W.ClsK X.K) : CallR X (.builtin "isinstance") (rIsDP X.K) := by
  intro pins s σ H xs us Q I r h
  obtain ⟨a, C, dx, c, b, rfl, e, T, k, q⟩ := h
  obtain ⟨u, w', rfl, r1, r2⟩ := vals2 r
  cases (show u = Value.ref a from r1)
  obtain ⟨o, _, z1, z2, _⟩ := XD.at I.hok e
  exact PySem.W.kia_one (PySem.W.kitx_exc T G) I.kIn ⟨o, z1, z2⟩ (k _ r2) (fun z => nomatch z) fun tk => ⟨.bl b, H, I.tok tk, rfl, q⟩
end L2
/-! EvText: texts: join, split, partition, startswith, text[i:], a text walked, int(text). Behind EvLay. -/
namespace L2
open PySem PySem.Spec PyProof.Rows
open Builtin Builtin.Str
section
variable {X : Cx}
theorem strs_vals : ∀ {ts : List Str} {us : List Value}, Vals (ts.map V.str) us → ∃ l : List (Str × Tok), us = strValues l ∧ l.map (·.1) = ts
  | [], _, r => by
    cases r
    exact ⟨[], rfl, rfl⟩
  | t :: ts, _, r => by
    cases r with
    | cons h r =>
      obtain ⟨k, rfl⟩ := h
      obtain ⟨l, rfl, e⟩ := strs_vals r
      exact ⟨(t, k) :: l, rfl, by rw [List.map_cons, e]⟩
theorem vals_strs : ∀ l : List (Str × Tok), Vals ((l.map (·.1)).map V.str) (strValues l)
  | [] => .nil
  | p :: l => .cons ⟨p.2, rfl⟩ (vals_strs l)
theorem joinOk_fold (sep : Str) {a : Nat} : ∀ (ts : List Str) (n : Nat), (∀ t ∈ ts, t.length ≤ a) → ts.foldl (· + ·.length + sep.length) n ≤ n + ts.length * (a + sep.length)
  | [], n, _ => by simp
  | t :: ts, n, h => by
    have h1 := h t (List.mem_cons_self ..)
    have h2 := joinOk_fold sep ts (n + t.length + sep.length) fun x hx => h x (List.mem_cons_of_mem _ hx)
    rw [List.foldl_cons, List.length_cons, Nat.add_mul]
    omega
theorem joinOk_of {sep : Str} {ts : List Str} {a n : Nat} (h : ∀ t ∈ ts, t.length ≤ a) (hl : ts.length ≤ n) (hn : n * (a + sep.length) ≤ 16777216) : JoinOk sep ts = true := by
  have h1 := joinOk_fold sep ts 0 h
  have h2 := Nat.mul_le_mul_right (a + sep.length) hl
  unfold JoinOk tooLong
  rw [List.foldl_toArray]
  have h3 : ¬ (ts.foldl (· + ·.length + sep.length) 0 > sizeLine) := by
    rw [sizeLine_eq]
    omega
  rw [decide_eq_false h3]
  rfl
/-- sep.join(list of texts) -/
def rJoin (K : PySem.W.Frag) : V → List V → Hp → VK → Prop := fun x xs H Q => ∃ (sep : Str) (a : Addr) (ts : List Str), x = .str sep ∧ xs = [.ref a] ∧ SqL K H a (ts.map V.str) ∧ JoinOk sep ts = true ∧ Q (.str (Str.join sep ts)) H
theorem mt_join : MtR X "str.join" (rJoin X.K) := by
  intro pins s σ H x xs v us Q I rx rs h
  obtain ⟨sep, a, ts, rfl, rfl, hq, hj, q⟩ := h
  obtain ⟨t, rfl⟩ := rx
  obtain ⟨u, rfl, ru⟩ := vals1 rs
  cases ru
  obtain ⟨its, rv, p, hz⟩ := I.list hq
  obtain ⟨l, rfl, e⟩ := strs_vals rv
  refine SC.join p.isList e hj fun t' k => ⟨.str (Str.join sep ts), H, I.tok _, ⟨t', ?_⟩, q⟩
  show Value.str (glued sep ts) t' = _
  rw [StrLaws.glued_eq_join]
/-- text.split(sep) -/
def rSplit : V → List V → Hp → VK → Prop := fun x xs H Q => ∃ z y : Str, x = .str z ∧ xs = [.str y] ∧ (y.length == 0) = false ∧ z.length ≤ sizeLine ∧ (Txt.split z y).length ≤ sizeLine ∧ ∀ p, H p = none → Q (.ref p) (upd H p (.lst ((Txt.split z y).map V.str)))
theorem mt_split : MtR X "str.split" rSplit := by
  intro pins s σ H x xs v us Q I rx rs h
  obtain ⟨z, y, rfl, rfl, hy, hz, hn, q⟩ := h
  obtain ⟨t, rfl⟩ := rx
  obtain ⟨u, rfl, t', rfl⟩ := vals1 rs
  have fin : ∀ (l : List (Str × Tok)) (k : Nat), l.map (·.1) = Txt.split z y → EP X pins σ Q (.ref s.heap.objs.size) { s with heap := s.heap.push { cls := .type "list", data := .seq (strValues l).toArray }, toks := k } := fun l k e => by
    refine ⟨.ref s.heap.objs.size, _, I.laid (o := .lst ((Txt.split z y).map V.str)) (fun b o e => Heap.get?_push_of_some _ e) (Nat.le_refl _) ?_, rfl, q _ (I.hok.fresh (Nat.le_refl _))⟩
    exact ⟨by rw [List.length_map]; exact hn, strValues l, 0, by rw [← e]; exact vals_strs l, Heap.get?_push_size _ rfl⟩
  cases h1 : (decide (z.length < y.length) || decide (strKind z < strKind y))
  · cases hf : (occurrences z y 0 z.length (z.length + 1)).isEmpty
    · have es : Txt.split z y = partsBetween z (occurrences z y 0 z.length (z.length + 1)) y.length := (if_neg (ne_true_of_eq_false h1)).trans (if_neg (ne_true_of_eq_false hf))
      refine call_meets F.slot_str_split (typeIs_str _ _ _) F.entry_str_split (F.args_str_split_2 _ _) (meets_str_split_sep z y t t' h1 hy hf hz (es ▸ hn)) ?_
      show EP X pins σ Q _ { s with toks := _, heap := s.heap.push { cls := .type "list", data := .seq (strsFrom s.toks (partsBetween z (occurrences z y 0 z.length (z.length + 1)) y.length)).toArray } }
      rw [strsFrom_eq]
      exact fin (numbered s.toks _) _ ((numbered_texts _ _).trans es.symm)
    · exact call_meets F.slot_str_split (typeIs_str _ _ _) F.entry_str_split (F.args_str_split_2 _ _) (meets_str_split_not_found z y t t' h1 hy hf)
        (fin [(z, t)] s.toks ((if_neg (ne_true_of_eq_false h1)).trans (if_pos hf)).symm)
  · exact call_meets F.slot_str_split (typeIs_str _ _ _) F.entry_str_split (F.args_str_split_2 _ _) (meets_str_split_cannot_occur z y t t' h1)
      (fin [(z, t)] s.toks (if_pos h1).symm)
/-- text.partition(sep) -/
def rParted : V → List V → Hp → VK → Prop := fun x xs H Q => ∃ z y : Str, x = .str z ∧ xs = [.str y] ∧ (y.length == 0) = false ∧ z.length ≤ sizeLine ∧ ∀ p, H p = none → Q (.ref p) (upd H p (.tup [.str (Txt.partition z y).1, .str (Txt.partition z y).2.1, .str (Txt.partition z y).2.2]))
theorem mt_parted : MtR X "str.partition" rParted := by
  intro pins s σ H x xs v us Q I rx rs h
  obtain ⟨z, y, rfl, rfl, hy, hz, q⟩ := h
  obtain ⟨t, rfl⟩ := rx
  obtain ⟨u, rfl, t', rfl⟩ := vals1 rs
  have fin : ∀ (ta tb tc : Tok) (k : Nat), EP X pins σ Q (.ref s.heap.objs.size) { s with heap := s.heap.push { cls := .type "tuple", data := .seq [.str (Txt.partition z y).1 ta, .str (Txt.partition z y).2.1 tb, .str (Txt.partition z y).2.2 tc].toArray }, toks := k } := fun ta tb tc k => by
    refine ⟨.ref s.heap.objs.size, _, I.laid (o := .tup [.str (Txt.partition z y).1, .str (Txt.partition z y).2.1, .str (Txt.partition z y).2.2]) (fun b o e => Heap.get?_push_of_some _ e) (Nat.le_refl _) ?_, rfl, q _ (I.hok.fresh (Nat.le_refl _))⟩
    exact ⟨by show 3 ≤ sizeLine; decide, _, .cons ⟨ta, rfl⟩ (.cons ⟨tb, rfl⟩ (.cons ⟨tc, rfl⟩ .nil)), IsTup.new _ _⟩
  refine call_meets F.slot_str_partition (typeIs_str _ _ _) F.entry_str_partition (F.args_str_partition_2 _ _) (meets_str_partition z y t t' hy hz) ?_
  unfold Txt.partition at fin
  revert fin
  cases occurrences z y 0 z.length 1 with
  | nil => exact fun fin => fin t s.toks s.toks _
  | cons i r => exact fun fin => fin s.toks t' (s.toks + 1) _
/-- text.startswith(text) -/
def rStarts : V → List V → Hp → VK → Prop := fun x xs H Q => ∃ z y : Str, x = .str z ∧ xs = [.str y] ∧ Q (.bl (Txt.startswith z y)) H
theorem mt_starts : MtR X "str.startswith" rStarts := by
  intro pins s σ H x xs v us Q I rx rs h
  obtain ⟨z, y, rfl, rfl, q⟩ := h
  obtain ⟨t, rfl⟩ := rx
  obtain ⟨u, rfl, t', rfl⟩ := vals1 rs
  exact SC.startswith ⟨.bl _, H, I, rfl, q⟩
/-- int(text of a number) -/
theorem call_int_num : CallR X (.type "int") (fun xs H Q => ∃ n : Int, xs = [.str (Str.ofString (toString n))] ∧ 0 ≤ n ∧ n < 10 ^ 10 ∧ Q (.int n) H) := by
  intro pins s σ H xs us Q I r h
  obtain ⟨n, rfl, h0, h1, q⟩ := h
  obtain ⟨u, rfl, t, rfl⟩ := vals1 r
  exact PySem.W.KIN.call_num h0 h1 ⟨.int n, H, I.tok _, ⟨_, rfl⟩, q⟩
/-- the signs of a text -/
def Isg (z : Str) : It := ⟨fun i _ => i < z.length, fun i H x H' => H' = H ∧ ∃ c, z.cps[i]? = some c ∧ x = .str ⟨#[c]⟩, fun i _ => z.length ≤ i⟩
theorem turn_str {P : Program} {w : World} {K : PySem.W.Frag} {tg : Expr} (z : Str) (t : Tok) (it : Addr) : Turn P w K tg (Isg z) [it] it (fun i h => h.IsStrIter it "str_ascii_iterator" z t i) where
  mem := by simp
  obj := fun i h st b hb => by
    have e : b = it := by simpa using hb
    subst e
    obtain ⟨o, e, c, d⟩ := st
    exact ⟨o, e, fun v z => by rw [d] at z; cases z⟩
  keep := fun i h h' st k => by
    obtain ⟨o, e, r⟩ := st
    exact ⟨o, k it (by simp) o e, r⟩
  item := by
    intro X hP hw hK hc i pins s σ H E I hf st hg
    subst hP hw hK
    obtain ⟨f0, f1, f2, f3, f4, f5⟩ := hf it (by simp)
    have hx : z.cps[i]? = some (z.cps[i]'hg) := Array.getElem?_eq_getElem hg
    refine wpAny_pyNext_ascii_item st hx fun h' st' sb => ?_
    have I1 : Inv X pins σ H { s with heap := h', toks := s.toks + 1 } := I.turned (fun b o hb e => (sb.2 b hb).trans e) f0 f1 f3 f4 f5
    obtain ⟨o, e, c, d⟩ := id st'
    exact ⟨_, rfl, go_of (s := { s with heap := h', toks := s.toks + 1 }) e c d (by decide) ⟨.str ⟨#[z.cps[i]'hg]⟩, H, I1, ⟨_, rfl⟩, ⟨rfl, _, hx, rfl⟩, st', fun b hb => (hf b hb).1⟩⟩
  done := by
    intro X hP hw hK hc i pins s σ H E I hf st hg
    subst hP hw hK
    obtain ⟨f0, f1, f2, f3, f4, f5⟩ := hf it (by simp)
    have hx : z.cps[i]? = none := Array.getElem?_eq_none hg
    exact wpAny_pyNext_ascii_end (I.ok.hd hc) st hx fun h' eb => ⟨rfl, I.turned (t' := s.toks) (fun b o hb e => eb b o hb e) f0 f1 f3 f4 f5⟩
  self := fun _ _ _ _ _ st h => wpAny_pyIter_striter_ascii st h
def iStr (tl : TE) : TI := fun σ H R => tl σ H fun x H1 => ∃ z, x = .str z ∧ z.cps.all (· < 128) = true ∧ R (Isg z) H1
theorem pi_str {tg l : Expr} {tl : TE} (hl : PE X l tl) : PI X tg l (iStr tl) := by
  intro pins s σ H R I h
  refine thn (hl pins s σ H _ I h) fun v s1 ⟨x, H1, I1, r1, q1⟩ => ?_
  obtain ⟨z, e, ha, q⟩ := q1
  subst e
  obtain ⟨t, rfl⟩ := r1
  refine wpAny_pyIter_ascii ha ?_
  refine ⟨s1.heap.objs.size, [s1.heap.objs.size], _, _, H1, rfl, I1.kept (t' := s1.toks) fun b o e => Heap.get?_push_of_some _ e, turn_str z t _, ⟨_, Heap.get?_push_size _ rfl, rfl, rfl⟩, fun b hb => ?_, q⟩
  have e : b = s1.heap.objs.size := by simpa using hb
  subst e
  exact I1.fpOk (Nat.le_refl _) (I1.hok.fresh (Nat.le_refl _))
theorem qi_str {tg l : Expr} {tl : TE} (hl : QE X l tl) : QI X tg l (iStr tl) := ⟨pi_str hl.h⟩
end
/-- a comprehension over the signs of a text -/
theorem comp_str {z : Str} {g : TG} {tc : TT} {te : TE} {σ' : St} {H : Hp} {G : Addr → Hp → List V → Prop} (Pv : Nat → List V → Hp → Prop) (h0 : Pv 0 [] H)
    (hs : ∀ i c ys H (N : List V → Hp → Prop), z.cps[i]? = some c → Pv i ys H → (∀ ys' H', Pv (i + 1) ys' H' → N ys' H') → g (.str ⟨#[c]⟩) σ' H fun σ2 H4 => Weak σ' σ2 ∧ tc σ2 H4 fun b H5 => if b = true then te σ2 H5 fun y H6 => ys.length < sizeLine ∧ N (ys ++ [y]) H6 else N ys H5)
    (hd : ∀ ys H, Pv z.length ys H → ys.length ≤ sizeLine ∧ ∀ p, H p = none → G p H ys) :
    ∃ W : Nat → Nat → List V → Hp → Prop, (∃ m, W 0 m [] H) ∧ ∀ i m ys H2, W i m ys H2 →
      ((Isg z).stop i H2 ∧ ys.length ≤ sizeLine ∧ ∀ p, H2 p = none → G p H2 ys) ∨
      ((Isg z).go i H2 ∧ ∀ x H3, (Isg z).yld i H2 x H3 → g x σ' H3 fun σ2 H4 => Weak σ' σ2 ∧ tc σ2 H4 fun b H5 =>
        if b = true then te σ2 H5 fun y H6 => ys.length < sizeLine ∧ ∃ m', m' < m ∧ W (i + 1) m' (ys ++ [y]) H6 else ∃ m', m' < m ∧ W (i + 1) m' ys H5) := by
  refine ⟨fun i m ys H => m = z.length - i ∧ i ≤ z.length ∧ Pv i ys H, ⟨z.length, rfl, Nat.zero_le _, h0⟩, ?_⟩
  rintro i m ys H2 ⟨rfl, hi, p⟩
  by_cases hlt : i < z.length
  · refine .inr ⟨hlt, fun x H' y => ?_⟩
    obtain ⟨e, c, hc, rfl⟩ := y
    subst e
    exact hs i c ys _ (fun ys' H'' => ∃ m', m' < z.length - i ∧ m' = z.length - (i + 1) ∧ i + 1 ≤ z.length ∧ Pv (i + 1) ys' H'') hc p (fun ys' H'' p' => ⟨_, by omega, rfl, hlt, p'⟩)
  · have e : i = z.length := by omega
    subst e
    exact .inl ⟨Nat.le_refl _, hd ys H2 p⟩
end L2
/-! EvTxm: what split, partition and slices make of texts that were joined; numbers written. Behind EvText. -/
namespace L2
open PySem PySem.Spec PyProof.Rows
open Builtin Builtin.Str
/-- signs, joined by one sign -/
def jl (c : Nat) : List (List Nat) → List Nat
  | [] => []
  | [x] => x
  | x :: y :: r => x ++ c :: jl c (y :: r)
theorem join_jl (c : Nat) : ∀ ws : List Str, (Str.join ⟨#[c]⟩ ws).cps.toList = jl c (ws.map (·.cps.toList))
  | [] => rfl
  | [x] => rfl
  | x :: y :: r => by
    show ((x ++ (⟨#[c]⟩ : Str)) ++ Str.join ⟨#[c]⟩ (y :: r)).cps.toList = _
    rw [Str.cps_append, Str.cps_append, Array.toList_append, Array.toList_append, join_jl c (y :: r)]
    simp [jl]
theorem cut_uniq {c : Nat} : ∀ {x y r q : List Nat}, c ∉ x → c ∉ y → x ++ c :: r = y ++ c :: q → x = y ∧ r = q
  | [], [], r, q, _, _, e => by simpa using e
  | [], b :: y, r, q, _, hy, e => by
    rw [List.nil_append, List.cons_append] at e
    injection e with e1 e2
    exact absurd (by rw [e1]; exact List.mem_cons_self ..) hy
  | a :: x, [], r, q, hx, _, e => by
    rw [List.nil_append, List.cons_append] at e
    injection e with e1 e2
    exact absurd (by rw [e1]; exact List.mem_cons_self ..) hx
  | a :: x, b :: y, r, q, hx, hy, e => by
    rw [List.cons_append, List.cons_append] at e
    injection e with e1 e2
    obtain ⟨e3, e4⟩ := cut_uniq (fun z => hx (List.mem_cons_of_mem _ z)) (fun z => hy (List.mem_cons_of_mem _ z)) e2
    exact ⟨by rw [e1, e3], e4⟩
theorem jl_uniq {c : Nat} : ∀ {xs ys : List (List Nat)}, xs ≠ [] → ys ≠ [] → (∀ x ∈ xs, c ∉ x) → (∀ y ∈ ys, c ∉ y) → jl c xs = jl c ys → xs = ys
  | [], _, h, _, _, _, _ => absurd rfl h
  | _ :: _, [], _, h, _, _, _ => absurd rfl h
  | [x], [y], _, _, _, _, e => by rw [show x = y from e]
  | [x], y :: z :: r, _, _, hx, _, e => by
    have e' : x = y ++ c :: jl c (z :: r) := e
    exact absurd (by rw [e']; simp) (hx x (List.mem_singleton.mpr rfl))
  | x :: z :: r, [y], _, _, _, hy, e => by
    have e' : x ++ c :: jl c (z :: r) = y := e
    exact absurd (by rw [← e']; simp) (hy y (List.mem_singleton.mpr rfl))
  | x :: u :: r, y :: v :: q, _, _, hx, hy, e => by
    obtain ⟨e1, e2⟩ := cut_uniq (hx x (List.mem_cons_self ..)) (hy y (List.mem_cons_self ..)) (show x ++ c :: jl c (u :: r) = y ++ c :: jl c (v :: q) from e)
    rw [e1, jl_uniq (by simp) (by simp) (fun z hz => hx z (List.mem_cons_of_mem _ hz)) (fun z hz => hy z (List.mem_cons_of_mem _ hz)) e2]
theorem occ_run (z : Str) (c : Nat) : ∀ (n a : Nat) (st : Array Nat × Nat), st.fst.size ≤ a → st.snd ≤ a → a + n ≤ z.length + 1 → (forIn (List.range' a n) st (StrLaws.occBody z ⟨#[c]⟩ z.length (z.length + 1))).run.fst.toList = st.fst.toList ++ (List.range' a n).filter (fun i => z.cps.toList[i]? == some c)
  | 0, a, st, _, _, _ => by
    rw [List.range'_zero, List.filter_nil, List.append_nil]
    rfl
  | n + 1, a, st, h1, h2, h3 => by
    rw [List.range'_succ, List.forIn_cons, List.filter_cons]
    by_cases hc : z.cps.toList[a]? = some c
    · have hA := (StrLaws.subAt_one z c a).mpr hc
      have hb : StrLaws.occBody z ⟨#[c]⟩ z.length (z.length + 1) a st = pure (ForInStep.yield (st.fst.push a, a + (⟨#[c]⟩ : Str).length)) := by
        unfold StrLaws.occBody
        exact if_pos ⟨⟨⟨by omega, h2⟩, hA.1⟩, hA.2⟩
      rw [hb, if_pos (by simp [hc])]
      have ih := occ_run z c n (a + 1) (st.fst.push a, a + (⟨#[c]⟩ : Str).length) (by rw [Array.size_push]; omega) (by show a + 1 ≤ a + 1; omega) (by omega)
      show (forIn (List.range' (a + 1) n) (st.fst.push a, a + (⟨#[c]⟩ : Str).length) (StrLaws.occBody z ⟨#[c]⟩ z.length (z.length + 1))).run.fst.toList = _
      rw [ih, Array.toList_push, List.append_assoc]
      rfl
    · have hb : StrLaws.occBody z ⟨#[c]⟩ z.length (z.length + 1) a st = pure (ForInStep.yield (st.fst, st.snd)) := by
        unfold StrLaws.occBody
        exact if_neg fun q => hc ((StrLaws.subAt_one z c a).mp ⟨q.1.2, q.2⟩)
      rw [hb, if_neg (fun q => hc (eq_of_beq q))]
      exact occ_run z c n (a + 1) (st.fst, st.snd) (by show st.fst.size ≤ a + 1; omega) (by show st.snd ≤ a + 1; omega) (by omega)
theorem occ_all (z : Str) (c : Nat) : occurrences z ⟨#[c]⟩ 0 z.length (z.length + 1) = (List.range' 0 (z.length + 1)).filter (fun i => z.cps.toList[i]? == some c) := by
  rw [StrLaws.occ_eq]
  exact occ_run z c (z.length + 1) 0 (#[], 0) (Nat.le_refl _) (Nat.le_refl _) (by omega)
theorem sub_free {z : Str} {c a b : Nat} (h : ∀ k, a ≤ k → k < b → z.cps.toList[k]? ≠ some c) : c ∉ (strSub z a b).cps.toList := by
  rw [StrLaws.strSub_toList]
  intro hm
  obtain ⟨k, hk⟩ := List.mem_iff_getElem?.mp hm
  rw [List.getElem?_take] at hk
  split at hk
  · rw [List.getElem?_drop] at hk
    exact h (a + k) (by omega) (by omega) hk
  · cases hk
theorem parts_free (z : Str) (c : Nat) : ∀ (n a b : Nat), a ≤ b → b + n = z.length + 1 → (∀ k, a ≤ k → k < b → z.cps.toList[k]? ≠ some c) → ∀ p ∈ StrLaws.partsFrom z 1 a ((List.range' b n).filter (fun i => z.cps.toList[i]? == some c)), c ∉ p.cps.toList
  | 0, a, b, _, h2, h3, p, hp => by
    rw [List.range'_zero, List.filter_nil] at hp
    cases List.mem_singleton.mp hp
    exact sub_free fun k k1 k2 => h3 k k1 (by omega)
  | n + 1, a, b, h1, h2, h3, p, hp => by
    rw [List.range'_succ, List.filter_cons] at hp
    by_cases hc : z.cps.toList[b]? = some c
    · rw [if_pos (by simp [hc])] at hp
      rcases List.mem_cons.mp hp with e | hp
      · rw [e]
        exact sub_free h3
      · exact parts_free z c n (b + 1) (b + 1) (Nat.le_refl _) (by omega) (fun k k1 k2 => absurd k1 (by omega)) p hp
    · rw [if_neg (fun q => hc (eq_of_beq q))] at hp
      exact parts_free z c n a (b + 1) (by omega) (by omega) (fun k k1 k2 => if e : k = b then e ▸ hc else h3 k k1 (by omega)) p hp
theorem split_free (z : Str) (c : Nat) : ∀ p ∈ Txt.split z ⟨#[c]⟩, c ∉ p.cps.toList := by
  intro p hp
  unfold Txt.split at hp
  split at hp
  · rename_i h
    cases List.mem_singleton.mp hp
    intro hm
    obtain ⟨i, hi⟩ := List.mem_iff_getElem?.mp hm
    have hA := (StrLaws.subAt_one z c i).mpr hi
    have hk := PySem.W.kind_le z ⟨#[c]⟩ hA.2
    have h1 : i + 1 ≤ z.length := hA.1
    rcases Bool.or_eq_true_iff.mp h with h | h
    · have : z.length < 1 := of_decide_eq_true h
      omega
    · have := of_decide_eq_true h
      omega
  · split at hp
    · rename_i h
      cases List.mem_singleton.mp hp
      rw [occ_all] at h
      intro hm
      obtain ⟨i, hi⟩ := List.mem_iff_getElem?.mp hm
      have hA := (StrLaws.subAt_one z c i).mpr hi
      have h1 : i + 1 ≤ z.length := hA.1
      have : i ∈ (List.range' 0 (z.length + 1)).filter (fun i => z.cps.toList[i]? == some c) := List.mem_filter.mpr ⟨by rw [List.mem_range'_1]; omega, by simp [hi]⟩
      rw [List.isEmpty_iff.mp h] at this
      cases this
    · rw [StrLaws.partsBetween_eq, occ_all] at hp
      exact parts_free z c (z.length + 1) 0 0 (Nat.le_refl _) (by omega) (fun k _ k2 => absurd k2 (by omega)) p hp
theorem split_ne (z y : Str) : Txt.split z y ≠ [] := by
  unfold Txt.split
  split
  · simp
  · split
    · simp
    · rw [StrLaws.partsBetween_eq]
      obtain ⟨p, r, e⟩ := StrLaws.partsFrom_ne z y.length 0 (occurrences z y 0 z.length (z.length + 1))
      rw [e]
      simp
theorem signs_inj {a b : Str} (h : a.cps.toList = b.cps.toList) : a = b := Str.ext' (Array.toList_inj.mp h)
theorem split_join {c : Nat} {ws : List Str} (h0 : ws ≠ []) (hf : ∀ w ∈ ws, c ∉ w.cps.toList) : Txt.split (Str.join ⟨#[c]⟩ ws) ⟨#[c]⟩ = ws := by
  have e := StrLaws.join_split (Str.join ⟨#[c]⟩ ws) ⟨#[c]⟩
  have e2 : jl c ((Txt.split (Str.join ⟨#[c]⟩ ws) ⟨#[c]⟩).map (·.cps.toList)) = jl c (ws.map (·.cps.toList)) := by rw [← join_jl, ← join_jl, e]
  have e3 := jl_uniq (by simpa using split_ne _ _) (by simpa using h0) (fun x hx => by
    obtain ⟨p, hp, rfl⟩ := List.mem_map.mp hx
    exact split_free _ c p hp) (fun x hx => by
    obtain ⟨p, hp, rfl⟩ := List.mem_map.mp hx
    exact hf p hp) e2
  exact (List.map_inj_right fun _ _ h => signs_inj h).mp e3
theorem part_at {c : Nat} {a r : Str} (ha : c ∉ a.cps.toList) : Txt.partition (a ++ ⟨#[c]⟩ ++ r) ⟨#[c]⟩ = (a, ⟨#[c]⟩, r) := by
  have hl : (a ++ ⟨#[c]⟩ ++ r).cps.toList = a.cps.toList ++ c :: r.cps.toList := by
    rw [Str.cps_append, Str.cps_append, Array.toList_append, Array.toList_append]
    simp
  have hal : a.cps.toList.length = a.length := by simp [Str.length]
  have hn : (a ++ ⟨#[c]⟩ ++ r).length = a.length + (r.length + 1) := by
    rw [Str.length_append, Str.length_append]
    show a.length + 1 + r.length = _
    omega
  have hat : (a ++ ⟨#[c]⟩ ++ r).cps.toList[a.length]? = some c := by
    rw [hl, List.getElem?_append_right (by omega), hal, Nat.sub_self]
    rfl
  rcases StrLaws.occ_head (a ++ ⟨#[c]⟩ ++ r) ⟨#[c]⟩ 1 (Nat.le_refl _) with ⟨_, hnn⟩ | ⟨i, q, e, hA, hb⟩
  · exact absurd ((StrLaws.subAt_one _ c _).mpr hat) (hnn a.length)
  · have hi := (StrLaws.subAt_one _ c _).mp hA
    have e1 : i = a.length := by
      rcases Nat.lt_trichotomy i a.length with z | z | z
      · rw [hl, List.getElem?_append_left (by omega)] at hi
        exact absurd (List.mem_of_getElem? hi) ha
      · exact z
      · exact absurd ((StrLaws.subAt_one _ c _).mpr hat) (hb a.length z)
    subst e1
    unfold Txt.partition
    rw [e]
    show (strSub _ 0 a.length, (⟨#[c]⟩ : Str), strSub _ (a.length + 1) _) = _
    have p1 : strSub (a ++ ⟨#[c]⟩ ++ r) 0 a.length = a := signs_inj (by
      rw [StrLaws.strSub_toList, hl, List.drop_zero, Nat.sub_zero, ← hal, List.take_left])
    have p2 : strSub (a ++ ⟨#[c]⟩ ++ r) (a.length + 1) (a ++ ⟨#[c]⟩ ++ r).length = r := signs_inj (by
      rw [StrLaws.strSub_toList, hl, hn, show a.length + 1 = a.cps.toList.length + 1 by omega, ← List.drop_drop, List.drop_left, List.drop_one, List.tail_cons, List.take_of_length_le]
      simp [Str.length]
      omega)
    rw [p1, p2]
theorem slice_one {c : Nat} {r : Str} : Txt.slice (⟨#[c]⟩ ++ r) (some 1) none = r := by
  have hn : ((⟨#[c]⟩ : Str) ++ r).length = r.length + 1 := by
    rw [Str.length_append]
    show 1 + r.length = _
    omega
  have e : strSliceIndices (some 1) none 1 (r.length + 1) = strSliceIndices (some ((1 : Nat) : Int)) (some ((r.length + 1 : Nat) : Int)) 1 (r.length + 1) := by
    unfold strSliceIndices
    have h1 : ¬ (((r.length + 1 : Nat) : Int) < 0) := by omega
    have h2 : max (0 : Int) (min ((r.length + 1 : Nat) : Int) ((r.length + 1 : Nat) : Int)) = ((r.length + 1 : Nat) : Int) := by omega
    simp only [h1, if_false, h2, show ((1 : Int) > 0) = True by simp, if_true]
    rfl
  have e2 := StrLaws.sliced_plain ((⟨#[c]⟩ : Str) ++ r) (a := 1) (b := r.length + 1) (by omega) (by omega)
  have e3 : (strSliceIndices (some 1) none 1 (r.length + 1)).length = r.length := by
    rw [e, StrLaws.strSliceIndices_plain (by omega) (Nat.le_refl _), List.length_map, List.length_range]
    omega
  rw [hn] at e2
  unfold Txt.slice
  rw [hn, if_neg (by simp [e3]), e]
  apply signs_inj
  show (List.toArray _).toList = _
  rw [e2, Str.cps_append, Array.toList_append]
  simp [Str.length]
  exact List.take_of_length_le (by simp)
theorem starts_one {c : Nat} {r : Str} : Txt.startswith (⟨#[c]⟩ ++ r) ⟨#[c]⟩ = true := by
  have h : ((⟨#[c]⟩ : Str) ++ r).cps.toList[0]? = some c := by
    rw [Str.cps_append, Array.toList_append]
    rfl
  have hA := (StrLaws.subAt_one _ c 0).mpr h
  unfold Txt.startswith
  rw [hA.2, decide_eq_true hA.1]
  rfl
/-- a number, written -/
def dec (n : Nat) : Str := Str.ofString (toString ((n : Nat) : Int))
theorem dec_signs (n : Nat) : (dec n).cps.toList = (Nat.toDigits 10 n).map Char.toNat := PySem.W.KIN.signs_num n
theorem dec_len' (n : Nat) : (dec n).length = ((Nat.toDigits 10 n).map Char.toNat).length := by
  rw [← dec_signs]
  simp [Str.length]
theorem dec_facts : ∀ n, n < 61 → ((Nat.toDigits 10 n).map Char.toNat).all (fun c => decide (48 ≤ c) && decide (c ≤ 57)) = true ∧ 1 ≤ ((Nat.toDigits 10 n).map Char.toNat).length ∧ ((Nat.toDigits 10 n).map Char.toNat).length ≤ 2 ∧ (((Nat.toDigits 10 n).map Char.toNat) = [48] ∨ ((Nat.toDigits 10 n).map Char.toNat).head? ≠ some 48) := by decide +kernel
theorem dec_fig {n : Nat} (h : n ≤ 60) : ∀ c ∈ (dec n).cps.toList, 48 ≤ c ∧ c ≤ 57 := by
  intro c hc
  rw [dec_signs] at hc
  have := List.all_eq_true.mp (dec_facts n (by omega)).1 c hc
  simpa using this
theorem dec_len {n : Nat} (h : n ≤ 60) : 1 ≤ (dec n).length ∧ (dec n).length ≤ 2 := by
  rw [dec_len']
  exact ⟨(dec_facts n (by omega)).2.1, (dec_facts n (by omega)).2.2.1⟩
/-! ### the texts of layouts -/
theorem sp_eq : Str.ofString " " = ⟨#[32]⟩ := by decide +kernel
theorem dot_eq : Str.ofString "." = ⟨#[46]⟩ := by decide +kernel
theorem colon_eq : Str.ofString ":" = ⟨#[58]⟩ := by decide +kernel
theorem dash_eq : Str.ofString "-" = ⟨#[45]⟩ := by decide +kernel
theorem nil_eq : Str.ofString "" = Str.empty := by decide +kernel
theorem zero_eq : Str.ofString "0" = ⟨#[48]⟩ := by decide +kernel
theorem figs_eq : (Str.ofString "0123456789").cps.toList = [48, 49, 50, 51, 52, 53, 54, 55, 56, 57] := by decide +kernel
/-- a block's word -/
def wd (b : List Nat) : Str := if b = [] then Str.ofString "-" else Str.join (Str.ofString ".") (b.map dec)
/-- a layout's text -/
def tx (p : Nat) (bs : List (List Nat)) : Str := Str.join (Str.ofString " ") ((dec p ++ Str.ofString ":") :: bs.map wd)
theorem jl_mem {c x : Nat} : ∀ {xs : List (List Nat)}, x ∈ jl c xs → x = c ∨ ∃ l ∈ xs, x ∈ l
  | [], h => nomatch h
  | [l], h => .inr ⟨l, List.mem_singleton.mpr rfl, h⟩
  | l :: k :: r, h => by
    rcases List.mem_append.mp (show x ∈ l ++ c :: jl c (k :: r) from h) with h | h
    · exact .inr ⟨l, List.mem_cons_self .., h⟩
    · rcases List.mem_cons.mp h with h | h
      · exact .inl h
      · rcases jl_mem h with h | ⟨q, hq, h⟩
        · exact .inl h
        · exact .inr ⟨q, List.mem_cons_of_mem _ hq, h⟩
theorem decs_signs {b : List Nat} (h : ∀ x ∈ b, x ≤ 60) : ∀ c ∈ (Str.join (Str.ofString ".") (b.map dec)).cps.toList, c = 46 ∨ (48 ≤ c ∧ c ≤ 57) := by
  intro c hc
  rw [dot_eq, join_jl] at hc
  rcases jl_mem hc with e | ⟨l, hl, hc⟩
  · exact .inl e
  · rw [List.map_map] at hl
    obtain ⟨x, hx, rfl⟩ := List.mem_map.mp hl
    exact .inr (dec_fig (h x hx) c hc)
theorem wd_signs {b : List Nat} (h : ∀ x ∈ b, x ≤ 60) : ∀ c ∈ (wd b).cps.toList, c = 45 ∨ c = 46 ∨ (48 ≤ c ∧ c ≤ 57) := by
  intro c hc
  unfold wd at hc
  split at hc
  · rw [dash_eq] at hc
    exact .inl (by simpa using hc)
  · exact .inr (decs_signs h c hc)
theorem join_len {c a : Nat} : ∀ {ws : List Str}, (∀ w ∈ ws, w.length ≤ a) → (Str.join ⟨#[c]⟩ ws).length ≤ ws.length * (a + 1)
  | [], _ => Nat.zero_le _
  | [w], h => by
    have := h w (List.mem_singleton.mpr rfl)
    show w.length ≤ 1 * (a + 1)
    omega
  | w :: v :: r, h => by
    have h1 := h w (List.mem_cons_self ..)
    have h2 := join_len (c := c) (ws := v :: r) fun z hz => h z (List.mem_cons_of_mem _ hz)
    show (w ++ ⟨#[c]⟩ ++ Str.join ⟨#[c]⟩ (v :: r)).length ≤ _
    rw [Str.length_append, Str.length_append, List.length_cons, Nat.add_mul]
    show w.length + 1 + _ ≤ _
    omega
theorem wd_len {b : List Nat} (h : ∀ x ∈ b, x ≤ 60) (hl : b.length ≤ 60) : (wd b).length ≤ 180 := by
  unfold wd
  split
  · rw [dash_eq]
    decide
  · rw [dot_eq]
    have := join_len (c := 46) (a := 2) (ws := b.map dec) fun w hw => by
      obtain ⟨x, hx, rfl⟩ := List.mem_map.mp hw
      exact (dec_len (h x hx)).2
    rw [List.length_map] at this
    omega
section
variable {bs : List (List Nat)} (h : ∀ b ∈ bs, ∀ x ∈ b, x ≤ 60) (hl : ∀ b ∈ bs, b.length ≤ 60) (hn : bs.length ≤ 200)
include h hl hn
end
end L2
/-! EvTx2: more of texts: any slice; isinstance of a refusal with its own making or without. Behind EvXc, EvTxm. -/
namespace L2
open PySem PySem.Spec PyProof.Rows
section
variable {X : Cx}
/-- text[i:j] -/
def rSlG : V → Option Int → Option Int → Hp → VK → Prop := fun x lo hi H Q => ∃ z : Str, x = .str z ∧ z.length ≤ sizeLine ∧ Q (.str (Txt.slice z lo hi)) H
theorem sl_strG : SlR X rSlG := by
  intro pins s σ H x v vl vu lo hi sl Q I rx hs pl pu h
  obtain ⟨z, rfl, hz, q⟩ := h
  obtain ⟨t, rfl⟩ := rx
  cases pl with
  | int i ti =>
    cases pu with
    | int j tj => exact ⟨"str", _, F.slot_str_getitem.lookup, typeIs_str _ _ _, wpAny_getItem_str_slice (l := some (_, ti)) (u := some (_, tj)) (st := none) hs rfl (post_val_or_str ⟨Nat.le_trans (Txt.slice_le z _ _) hz, fun t' k => ⟨.str _, H, I.tok _, ⟨t', rfl⟩, q⟩⟩)⟩
    | none => exact ⟨"str", _, F.slot_str_getitem.lookup, typeIs_str _ _ _, wpAny_getItem_str_slice (l := some (_, ti)) (u := none) (st := none) hs rfl (post_val_or_str ⟨Nat.le_trans (Txt.slice_le z _ _) hz, fun t' k => ⟨.str _, H, I.tok _, ⟨t', rfl⟩, q⟩⟩)⟩
  | none =>
    cases pu with
    | int j tj => exact ⟨"str", _, F.slot_str_getitem.lookup, typeIs_str _ _ _, wpAny_getItem_str_slice (l := none) (u := some (_, tj)) (st := none) hs rfl (post_val_or_str ⟨Nat.le_trans (Txt.slice_le z _ _) hz, fun t' k => ⟨.str _, H, I.tok _, ⟨t', rfl⟩, q⟩⟩)⟩
    | none => exact ⟨"str", _, F.slot_str_getitem.lookup, typeIs_str _ _ _, wpAny_getItem_str_slice (l := none) (u := none) (st := none) hs rfl (post_val_or_str ⟨Nat.le_trans (Txt.slice_le z _ _) hz, fun t' k => ⟨.str _, H, I.tok _, ⟨t', rfl⟩, q⟩⟩)⟩
/-- isinstance(a refusal, a class) -/
def rIsU (K : PySem.W.Frag) : List V → Hp → VK → Prop := fun xs H Q => ∃ a C dx c b, xs = [.ref a, c] ∧ H a = some (XD a C dx) ∧ (PySem.W.ExcD K C ∨ PySem.W.ExcK K C) ∧ (∀ u, RelV c u → PySem.W.kitOne K (.ref C) u = some b) ∧ Q (.bl b) H
theorem call_isinstU (G : PySem.W.ClsK X.K) : CallR X (.builtin "isinstance") (rIsU X.K) := by
  intro pins s σ H xs us Q I r h
  obtain ⟨a, C, dx, c, b, e, ha, T, k, q⟩ := h
  rcases T with T | T
  · exact call_isinstD G pins s σ H xs us Q I r ⟨a, C, dx, c, b, e, ha, T, k, q⟩
  · exact call_isinstDP G pins s σ H xs us Q I r ⟨a, C, dx, c, b, e, ha, T, k, q⟩
/-- isinstance(a refusal, classes) -/
def rIsUT (K : PySem.W.Frag) : List V → Hp → VK → Prop := fun xs H Q => ∃ a C dx p ys b, xs = [.ref a, .ref p] ∧ H a = some (XD a C dx) ∧ (PySem.W.ExcD K C ∨ PySem.W.ExcK K C) ∧ H p = some (.tup ys) ∧ (∀ us, Vals ys us → PySem.W.kitAny K (.ref C) us = some b) ∧ Q (.bl b) H
theorem call_isinstUT (G : PySem.W.ClsK X.K) : CallR X (.builtin "isinstance") (rIsUT X.K) := by
  intro pins s σ H xs us Q I r h
  obtain ⟨a, C, dx, p, ys, b, e, ha, T, hp, k, q⟩ := h
  rcases T with T | T
  · exact call_isinstDT G pins s σ H xs us Q I r ⟨a, C, dx, p, ys, b, e, ha, T, hp, k, q⟩
  · subst e
    obtain ⟨u, w', rfl, r1, r2⟩ := vals2 r
    cases (show u = Value.ref a from r1)
    cases (show w' = Value.ref p from r2)
    obtain ⟨_, its, rv, o, ho, hc, n, hd⟩ := (show ObjOk X.prog X.w H s.heap p (.tup ys) from I.hok p _ hp)
    obtain ⟨oc, od, oda, osl⟩ := o
    dsimp only at hc hd
    subst hc hd
    obtain ⟨oe, _, z1, z2, _⟩ := XD.at I.hok ha
    exact PySem.W.kia_tup (PySem.W.kitx_exc T G) I.kIn ⟨oe, z1, z2⟩ ho (k _ rv) (fun z => nomatch z) fun tk => ⟨.bl b, H, I.tok tk, rfl, q⟩
/-- set(list of numbers), up to 4000 -/
def rSetI4 (K : PySem.W.Frag) : List V → Hp → VK → Prop := fun xs H Q => ∃ (a : Addr) (ns : List Int), xs = [.ref a] ∧ SqL K H a (ns.map V.int) ∧ ns.length ≤ 4000 ∧ ∀ (l : Addr) (S : Int → Bool) (n : Nat), H l = none → (n = ns.length ↔ ns.Nodup) → n ≤ ns.length → Q (.ref l) (upd H l (.set S n))
theorem call_setI4 {X : Cx} (hc : X.calm = true) : CallR X (.type "set") (rSetI4 X.K) := by
  intro pins s σ H xs us Q I r h
  obtain ⟨a, ns, rfl, hq, h64, q⟩ := h
  obtain ⟨u, rfl, rx⟩ := vals1 r
  cases rx
  obtain ⟨its, r', pl, hz⟩ := I.list hq
  have hlen := r'.length
  rw [List.length_map] at hlen
  refine call_set_list (ns := ns) (I.ok.hd hc) pl.isList (by simpa using ints_of_vals r') (by rw [List.size_toArray, ← hlen]; exact Nat.lt_of_le_of_lt (Nat.succ_le_succ h64) (by decide)) fun h' tk hS kp => ?_
  refine ⟨.ref s.heap.objs.size, _, I.laid (t' := tk) (fun b o e => kp b o (Heap.lt_size e) e) (Nat.le_refl _) (show ObjOk X.prog X.w _ h' _ (.set _ _) from hS), rfl, q _ _ _ (I.hok.fresh (Nat.le_refl _)) ?_ ?_⟩
  · rw [List.size_toArray, ← hlen]
    exact firstMet_len_iff
  · rw [List.size_toArray, ← hlen]
    exact firstMet_length_le _ _
end
end L2
/-! EvTok: text.replace(a, b), which asks whether both are one thing: so their tokens matter. What a row of texts makes keeps the count of tokens above nought. Behind EvTx2. -/
namespace L2
open PySem PySem.Spec PyProof.Rows PySem.Builtin PySem.Builtin.Str
section
variable {X : Cx} {pins : List (Addr × Obj)} {σ : St} {H : Hp} {s : Shared} {E : Value → Shared → Prop}
theorem ld_var {i : Nat} {x : Str} {v : V} {pos : Pos} {Q : Value → Shared → Prop} (I : Inv X pins σ H s) (hN : X.N[i]? = some x) (hv : Vis X.env.scope x) (hd : (x == ("__debug__" : Str)) = false) (hcd : (x == ("__classdict__" : Str)) = false)
    (e : σ[i]? = some (some v)) (h : ∀ u, RelV v u → Q u s) : wpAny (model X.prog X.w) X.A (eval (.Name x pos) X.env) Q E s := by
  obtain ⟨m, hn, hl⟩ := I.loc
  obtain ⟨u, r, l⟩ := hl i x v hN e hv
  have fin := h u r
  rcases l with ⟨hk, hm⟩ | ⟨hk, c, hc, hcell⟩
  · exact wpAny_Name (wpAny_loadName_local I.ok.kind hk hn hm fin) hd
  · rcases hk with hk | hk
    · exact wpAny_Name (wpAny_loadName_cell I.ok.kind hk hc hcell fin) hd
    · exact wpAny_Name (wpAny_loadName_free I.ok.kind hk hc hcell fin hcd) hd
end
section
variable {X : Cx}
/-- an expression that keeps the count of tokens above nought -/
def PEr (X : Cx) (e : Expr) (t : TE) : Prop :=
  ∀ (pins : List (Addr × Obj)) (s : Shared) (σ : St) (H : Hp) (Q : VK), Inv X pins σ H s → 0 < s.toks → t σ H Q → wpAny (model X.prog X.w) X.A (eval e X.env) (fun u s' => EP X pins σ Q u s' ∧ 0 < s'.toks) X.xe s
/-- an expression that brings the count of tokens above nought -/
def PEq (X : Cx) (e : Expr) (t : TE) : Prop :=
  ∀ (pins : List (Addr × Obj)) (s : Shared) (σ : St) (H : Hp) (Q : VK), Inv X pins σ H s → t σ H Q → wpAny (model X.prog X.w) X.A (eval e X.env) (fun u s' => EP X pins σ Q u s' ∧ 0 < s'.toks) X.xe s
theorem PEq.r {e : Expr} {t : TE} (h : PEq X e t) : PEr X e t := fun pins s σ H Q I _ q => h pins s σ H Q I q
def PAr (X : Cx) (es : List Expr) (t : TA) : Prop :=
  ∀ (pos : Pos) (pins : List (Addr × Obj)) (s : Shared) (σ : St) (H : Hp) (Q : List V → Hp → Prop), Inv X pins σ H s → 0 < s.toks → t σ H Q → wpAny (model X.prog X.w) X.A (spliced (backTo pos (starEach es X.env))) (AP X pins σ Q) X.xe s
theorem par_nil : PAr X [] tNil := fun _ _ _ _ H Q I _ h => Calls.spliced_nil ⟨[], H, I, .nil, h⟩
theorem par_cons {e : Expr} {es : List Expr} {te : TE} {t : TA} (ha : PEr X e te) (hr : PAr X es t) (hs : starEach (e :: es) X.env = (false, eval e X.env) :: starEach es X.env := by rfl) : PAr X (e :: es) (tCons te t) := by
  intro pos pins s σ H Q I ht h
  rw [hs]
  show wpAny _ _ (spliced ((false, eval e X.env) :: backTo pos (starEach es X.env))) _ _ s
  refine Calls.spliced_cons (thn (ha pins s σ H _ I ht h) fun u s1 ⟨⟨x, H1, I1, r1, q1⟩, ht1⟩ => ?_)
  exact thn (hr pos pins s1 σ H1 _ I1 ht1 q1) fun us s2 ⟨xs, H2, I2, r2, q2⟩ => ⟨x :: xs, H2, I2, .cons r1 r2, q2⟩
theorem qa_start {e : Expr} {es : List Expr} {te : TE} {t : TA} (ha : PEq X e te) (hr : PAr X es t) (hs : starEach (e :: es) X.env = (false, eval e X.env) :: starEach es X.env := by rfl) : QA X (e :: es) (tCons te t) := ⟨by
  intro pos pins s σ H Q I h
  rw [hs]
  show wpAny _ _ (spliced ((false, eval e X.env) :: backTo pos (starEach es X.env))) _ _ s
  refine Calls.spliced_cons (thn (ha pins s σ H _ I h) fun u s1 ⟨⟨x, H1, I1, r1, q1⟩, ht1⟩ => ?_)
  exact thn (hr pos pins s1 σ H1 _ I1 ht1 q1) fun us s2 ⟨xs, H2, I2, r2, q2⟩ => ⟨x :: xs, H2, I2, .cons r1 r2, q2⟩⟩
theorem post_add {x y : Str} {t u : Tok} {Q : Value → Shared → Prop} {s : Shared} (hz : x.length + y.length ≤ sizeLine) (ht : 0 < s.toks) (h : ∀ t' k, 0 < k → Q (.str (x ++ y) t') { s with toks := k }) :
    (if x.length == 0 then Made.val (.str y u) else if y.length == 0 then Made.val (.str x t) else Made.str (x ++ y)).post Q s := by
  by_cases h1 : (x.length == 0) = true
  · rw [if_pos h1]
    have e : x ++ y = y := by
      have : x = Str.empty := Str.ext' (Array.size_eq_zero_iff.mp (by simpa [Str.length] using h1))
      subst this
      apply Str.ext'
      rw [Str.cps_append]
      show #[] ++ y.cps = y.cps
      simp
    have := h u s.toks ht
    rw [e] at this
    exact this
  · rw [if_neg h1]
    by_cases h2 : (y.length == 0) = true
    · rw [if_pos h2]
      have e : x ++ y = x := by
        have : y = Str.empty := Str.ext' (Array.size_eq_zero_iff.mp (by simpa [Str.length] using h2))
        subst this
        apply Str.ext'
        rw [Str.cps_append]
        show x.cps ++ #[] = x.cps
        simp
      have := h t s.toks ht
      rw [e] at this
      exact this
    · rw [if_neg h2]
      exact ⟨by rw [Str.length_append]; exact hz, h s.toks (s.toks + 1) (Nat.succ_pos _)⟩
def rCatS : R2 := fun x y H Q => ∃ i j, x = .str i ∧ y = .str j ∧ i.length + j.length ≤ sizeLine ∧ Q (.str (i ++ j)) H
variable {i : Nat} {x a b : Str} {pos p1 p2 p3 apos : Pos} {k k2 : Nat}
/-- 'a' + name -/
theorem peq_catL (hN : X.N[i]? = some x := by rfl) (hv : Vis X.env.scope x := by first | exact Or.inl rfl | exact Or.inr (Or.inl rfl) | exact Or.inr (Or.inr rfl)) (hd : (x == ("__debug__" : Str)) = false := by decide) (hcd : (x == ("__classdict__" : Str)) = false := by decide) :
    PEq X (.BinOp (.Constant (.str a) k p1) .Add (.Name x p2) pos) (tOp rCatS (tC (.str a)) (tVar i)) := by
  intro pins s σ H Q I h
  obtain ⟨v, e, z, j, rfl', rfl'', hz, q⟩ := h
  subst rfl''
  cases rfl'
  refine wpAny_BinOp (Calls.Constant_str ?_)
  have I1 : Inv X pins σ H { s with toks := s.toks + 1 } := I.tok _
  refine ld_var I1 hN hv hd hcd e fun u ru => ?_
  obtain ⟨t', rfl⟩ := ru
  exact PySem.P.add_str (post_add hz (Nat.succ_pos _) fun t' k hk => ⟨⟨.str _, H, I.tok _, ⟨t', rfl⟩, q⟩, hk⟩)
/-- name + 'a' -/
theorem peq_catR (hN : X.N[i]? = some x := by rfl) (hv : Vis X.env.scope x := by first | exact Or.inl rfl | exact Or.inr (Or.inl rfl) | exact Or.inr (Or.inr rfl)) (hd : (x == ("__debug__" : Str)) = false := by decide) (hcd : (x == ("__classdict__" : Str)) = false := by decide) :
    PEq X (.BinOp (.Name x p2) .Add (.Constant (.str a) k p1) pos) (tOp rCatS (tVar i) (tC (.str a))) := by
  intro pins s σ H Q I h
  obtain ⟨v, e, z, j, rfl', rfl'', hz, q⟩ := h
  subst rfl'
  cases rfl''
  refine wpAny_BinOp (ld_var I hN hv hd hcd e fun u ru => ?_)
  obtain ⟨t', rfl⟩ := ru
  refine Calls.Constant_str ?_
  exact PySem.P.add_str (post_add hz (Nat.succ_pos _) fun t' k hk => ⟨⟨.str _, H, I.tok _, ⟨t', rfl⟩, q⟩, hk⟩)
/-- name.replace('a', 'b') -/
def tRepl (i : Nat) (a b : Str) : TE := fun σ H Q => ∃ z : Str, σ[i]? = some (some (.str z)) ∧ z.length + (z.length + 1) * b.length ≤ 16777216 ∧ Q (.str (Txt.replace z a b)) H
theorem per_repl (hab : (a == b) = false) (hN : X.N[i]? = some x := by rfl) (hv : Vis X.env.scope x := by first | exact Or.inl rfl | exact Or.inr (Or.inl rfl) | exact Or.inr (Or.inr rfl)) (hd : (x == ("__debug__" : Str)) = false := by decide) (hcd : (x == ("__classdict__" : Str)) = false := by decide)
    (hfew : ((backTo pos (starEach [.Constant (.str a) k p1, .Constant (.str b) k2 p2] X.env)).all (fun x => !x.1) && (backToKw pos (keywordEach [] X.env)).all (fun x => x.1.isSome) && decide (([.Constant (.str a) k p1, .Constant (.str b) k2 p2] : List Expr).length + ([] : List Keyword).length + (if ([] : List Keyword).isEmpty then 0 else 1) < 30)) = true := by rfl)
    (hline : (apos.endLine == pos.line) = true := by rfl) (hbase : attributeBase (.Name x p3) "replace" X.env (eval (.Name x p3) X.env) = eval (.Name x p3) X.env := by rfl) :
    PEr X (.Call (.Attribute (.Name x p3) "replace" apos) [.Constant (.str a) k p1, .Constant (.str b) k2 p2] [] pos) (tRepl i a b) := by
  intro pins s σ H Q I ht h
  obtain ⟨z, e, hz, q⟩ := h
  refine wpAny_Call_method_late hbase hfew hline rfl (ld_var I hN hv hd hcd e fun u ru => ?_)
  obtain ⟨t', rfl⟩ := ru
  refine ⟨"str", "str.replace", F.plainAttrs_str, F.slot_str_replace, F.type_str_replace, typeIs_str s z t', ⟨(fun a e => by cases e), ?_⟩⟩
  refine Calls.callWith_builtin (by rfl) (Calls.evalArgs_plain ?_)
  refine Calls.spliced_cons (Calls.Constant_str (k := k) (pos := p1) ?_)
  refine Calls.spliced_cons (Calls.Constant_str (k := k2) (pos := p2) (Calls.spliced_nil ?_))
  have hl : tooLong (z.length + (Builtin.Str.occurrences z a 0 z.length (z.length + 1)).length * b.length) = false := by
    have h1 := StrLaws.occ_length_le z a 0 z.length (z.length + 1)
    have h2 : (Builtin.Str.occurrences z a 0 z.length (z.length + 1)).length * b.length ≤ (z.length + 1) * b.length := Nat.mul_le_mul_right _ h1
    unfold tooLong sizeLine
    exact decide_eq_false (by omega)
  refine call_gives F.slot_str_replace (typeIs_str _ _ _) F.entry_str_replace (F.args_str_replace_3 _ _ _) (gives_str_replace z a b _ _ _ fun _ => ⟨Bool.or_eq_false_iff.mpr ⟨beq_eq_false_iff_ne.mpr (by show s.toks ≠ 0; omega), beq_eq_false_iff_ne.mpr (by show s.toks + 1 ≠ 0; omega)⟩, beq_eq_false_iff_ne.mpr (by show s.toks ≠ s.toks + 1; omega), hab, hl⟩) ?_
  have q' := q
  unfold Txt.replace at q'
  cases hc : ((Builtin.Str.occurrences z a 0 z.length (z.length + 1)).isEmpty || (a.length == 0 && b.length == 0))
  · rw [hc] at q'
    simp only [Bool.false_eq_true, if_false] at q' ⊢
    exact ⟨fits_replaced a hz, ⟨.str _, H, I.tok _, ⟨_, rfl⟩, q'⟩, Nat.succ_pos _⟩
  · rw [hc] at q'
    simp only [if_true] at q' ⊢
    exact ⟨⟨.str _, H, I.tok _, ⟨_, rfl⟩, q'⟩, Nat.succ_pos _⟩
theorem post_slice {s : Shared} {c : Prop} [Decidable c] {y z : Str} {t : Tok} {Q : Value → Shared → Prop} (ht : 0 < s.toks) (h : (if c then y else z).length ≤ sizeLine ∧ ∀ t' k, 0 < k → Q (.str (if c then y else z) t') { s with toks := k }) :
    (if c then Made.val (.str y t) else Made.str z).post Q s := by
  by_cases hc : c
  · rw [if_pos hc]; have h' := h.2 t s.toks ht; rw [if_pos hc] at h'; exact h'
  · rw [if_neg hc]; have h' := h.2 s.toks (s.toks + 1) (Nat.succ_pos _); have h1 := h.1; rw [if_neg hc] at h' h1; exact ⟨h1, h'⟩
def tSlN (i : Nat) (lo hi : Option Int) : TE := fun σ H Q => ∃ z : Str, σ[i]? = some (some (.str z)) ∧ z.length ≤ sizeLine ∧ Q (.str (Txt.slice z lo hi)) H
/-- name[1:] -/
theorem peq_from {n : Int} (hN : X.N[i]? = some x := by rfl) (hv : Vis X.env.scope x := by first | exact Or.inl rfl | exact Or.inr (Or.inl rfl) | exact Or.inr (Or.inr rfl)) (hd : (x == ("__debug__" : Str)) = false := by decide) (hcd : (x == ("__classdict__" : Str)) = false := by decide) :
    PEq X (.Subscript (.Name x p1) (.Slice (some (.Constant (.int n) k p2)) none none p3) pos) (tSlN i (some n) none) := by
  intro pins s σ H Q I h
  obtain ⟨z, e, hz, q⟩ := h
  refine Subscript_ (ld_var I hN hv hd hcd e fun u ru => ?_)
  obtain ⟨t', rfl⟩ := ru
  refine wpAny_Slice ?_
  rw [evalPart_some]
  refine wpAny_Constant_int ?_
  rw [evalPart_none]
  refine wpAny_pure (wpAny_pure ?_)
  have hs := Heap.IsSliceOf.new s.heap (.int n s.toks) Value.none Value.none
  refine tail_any (typeIs_str _ _ _) F.slot_str_getitem.lookup (ops := [.ref s.heap.objs.size, .str z t']) ?_ (by with_unfolding_all rfl)
  exact wpAny_getItem_str_slice (l := some (n, s.toks)) (u := none) (st := none) hs rfl (post_slice (Nat.succ_pos _) ⟨Nat.le_trans (Txt.slice_le z _ _) hz, fun t' k hk => ⟨⟨.str _, H, I.kept (t' := k) (fun b ob q => Heap.get?_push_of_some _ q), ⟨t', rfl⟩, q⟩, hk⟩⟩)
/-- name[:-n] -/
theorem peq_to {n : Int} {p4 : Pos} (hN : X.N[i]? = some x := by rfl) (hv : Vis X.env.scope x := by first | exact Or.inl rfl | exact Or.inr (Or.inl rfl) | exact Or.inr (Or.inr rfl)) (hd : (x == ("__debug__" : Str)) = false := by decide) (hcd : (x == ("__classdict__" : Str)) = false := by decide) :
    PEq X (.Subscript (.Name x p1) (.Slice none (some (.UnaryOp .USub (.Constant (.int n) k p2) p4)) none p3) pos) (tSlN i none (some (-n))) := by
  intro pins s σ H Q I h
  obtain ⟨z, e, hz, q⟩ := h
  refine Subscript_ (ld_var I hN hv hd hcd e fun u ru => ?_)
  obtain ⟨t', rfl⟩ := ru
  refine wpAny_Slice ?_
  rw [evalPart_none]
  refine wpAny_pure ?_
  rw [evalPart_some]
  refine UnaryOp_ (wpAny_Constant_int (neg_int (wpAny_pure ?_)))
  have hs := Heap.IsSliceOf.new s.heap Value.none (.int (-n) (s.toks + 1)) Value.none
  refine tail_any (typeIs_str _ _ _) F.slot_str_getitem.lookup (ops := [.ref s.heap.objs.size, .str z t']) ?_ (by with_unfolding_all rfl)
  exact wpAny_getItem_str_slice (l := none) (u := some (-n, s.toks + 1)) (st := none) hs rfl (post_slice (Nat.succ_pos _) ⟨Nat.le_trans (Txt.slice_le z _ _) hz, fun t' k hk => ⟨⟨.str _, H, I.kept (t' := k) (fun b ob q => Heap.get?_push_of_some _ q), ⟨t', rfl⟩, q⟩, hk⟩⟩)
/-- an expression that wants the count of tokens above nought -/
def PEw (X : Cx) (e : Expr) (t : TE) : Prop :=
  ∀ (pins : List (Addr × Obj)) (s : Shared) (σ : St) (H : Hp) (Q : VK), Inv X pins σ H s → 0 < s.toks → t σ H Q → wpAny (model X.prog X.w) X.A (eval e X.env) (EP X pins σ Q) X.xe s
/-- if name == n: .., and behind it a row that wants the count of tokens above nought -/
def tIfT (i : Nat) (n : Int) (t : TS) (te : TE) : TS := fun D σ H => ∃ m : Int, σ[i]? = some (some (.int m)) ∧ ((m = n → t { D with nx := fun _ _ => False } σ H) ∧ (m ≠ n → te σ H D.rt))
theorem qss_ifT {n : Int} {e : Expr} {te : TE} {t : TS} {body : List Stmt} {pc pr : Pos} (hN : X.N[i]? = some x) (hv : Vis X.env.scope x) (hd : (x == ("__debug__" : Str)) = false) (hcd : (x == ("__classdict__" : Str)) = false) (hb : QSs X body t) (he : PEw X e te) :
    QSs X [.If (.Compare (.Name x p1) [.Eq] [.Constant (.int n) k p2] pc) body [] p3, .Return (some e) pr] (tIfT i n t te) := ⟨by
  intro pins s σ H D I h
  obtain ⟨m, em, h1, h2⟩ := h
  refine wpAny_execs_cons (wpAny_If ?_)
  refine wpAny_isTrue_Compare1 (ld_var I hN hv hd hcd em fun u ru => ?_) (by first | exact nobehind _ (by decide) (by decide) | rfl)
  obtain ⟨t', rfl⟩ := ru
  refine wpAny_Constant_int (eq_int (wpAny_truthy_bool ?_))
  have I1 : Inv X pins σ H { s with toks := s.toks + 1 } := I.tok _
  by_cases hm : m = n
  · rw [if_pos (by simpa using hm)]
    refine thn (hb.h pins _ σ H _ I1 (h1 hm)) fun f s1 q => ?_
    cases f with
    | next =>
      obtain ⟨_, _, _, q⟩ := q
      exact q.elim
    | ret v => exact q
    | brk => exact q
    | cont => exact q
  · rw [if_neg (by simpa using hm)]
    refine wpAny_execs_nil (wpAny_execs_cons ?_)
    refine wpAny_Return_some (thn (he pins _ σ H _ I1 (Nat.succ_pos _) (h2 hm)) fun v s1 ⟨x, H1, I1, r1, q1⟩ => ?_)
    exact ⟨x, σ, H1, I1, r1, q1⟩⟩
/-- a list whose items want the count of tokens above nought, and one of them -/
theorem pew_ixL {es : List Expr} {t : TA} {j : Expr} {tj : TE} (h : PAr X es t) (hj : QE X j tj) (hs : PlainIx j) : PEw X (.Subscript (.List es p1) j pos) (tOp (rIxL X.K) (tLst t) tj) := by
  intro pins s σ H Q I ht hq
  refine Subscript_ ?_
  refine wpAny_List_spliced (thn (h p1 pins s σ H _ I ht hq) fun us s1 ⟨xs, H1, I1, r, z, q⟩ => ⟨by rw [← r.length]; exact z, ?_⟩)
  have hf : H1 s1.heap.objs.size = none := I1.hok.fresh (Nat.le_refl _)
  have I2 : Inv X pins σ (upd H1 s1.heap.objs.size (.lst xs)) { s1 with heap := s1.heap.push { cls := .type "list", data := .seq us.toArray } } := I1.laid (t' := s1.toks) (fun b u e => Heap.get?_push_of_some _ e) (Nat.le_refl _) ⟨z, us, 0, r, Heap.get?_push_size _ rfl⟩
  exact thn (hj.h pins _ σ _ _ I2 (q _ hf)) fun u s3 ⟨y, H3, I3, ry, q3⟩ => ix_list _ _ pins s3 σ H3 (.ref s1.heap.objs.size) y _ u Q I3 rfl ry q3 (hs _ _)
end
end L2
namespace E1
open PySem L2
abbrev pw : Program := PySem.Challenge.pw_evenmeet_k13_texts_refused
def top (i : Nat) : Stmt := pw.main.body.getD i (.Pass ⟨0, 0, 0, 0⟩)
abbrev sWhole : Stmt := top 17
abbrev sIsBelow : Stmt := top 18
abbrev sLayoutOf : Stmt := top 22
abbrev sIsPointsNumber : Stmt := top 23
abbrev sInOrder : Stmt := top 24
abbrev sAreUnlikePoints : Stmt := top 25
abbrev sReadLayout : Stmt := top 30
abbrev sBlocksRead : Stmt := top 31
abbrev sBlockRead : Stmt := top 32
abbrev sNumberRead : Stmt := top 33
abbrev sIsNumber : Stmt := top 34
abbrev sCell : Stmt := top 36
abbrev sLNumbers : Stmt := top 37
abbrev sLBits : Stmt := top 38
abbrev sLTurned : Stmt := top 39
abbrev sLDrawn : Stmt := top 40
abbrev sLText : Stmt := top 41
abbrev sLFigures : Stmt := top 42
abbrev sLReading : Stmt := top 43
abbrev sLTold : Stmt := top 44
abbrev sLSpoilt : Stmt := top 45
abbrev sLaw : Stmt := top 46
abbrev sXInit : Stmt := inClass (top 3) 0
section
variable {P : Program} {w : World} {K : PySem.W.Frag} {mg : Str → Option Value} {base : Heap} {M C : Addr}
structure RefsX (K : PySem.W.Frag) (M C fI o1 o2 o3 o4 o5 o6 o7 o8 o9 o10 o11 o12 o13 : Addr) (fd : FuncData) : Prop where
  nM : PySem.W.nsIn K mainGlobals "MeetError" = some (some (.ref M))
  nC : PySem.W.nsIn K mainGlobals "NoLayout" = some (some (.ref C))
  n1 : PySem.W.nsIn K mainGlobals "NoArc" = some (some (.ref o1))
  n2 : PySem.W.nsIn K mainGlobals "NoBases" = some (some (.ref o2))
  n3 : PySem.W.nsIn K mainGlobals "NoDeskRow" = some (some (.ref o3))
  n4 : PySem.W.nsIn K mainGlobals "NoDual" = some (some (.ref o4))
  n5 : PySem.W.nsIn K mainGlobals "NoField" = some (some (.ref o5))
  n6 : PySem.W.nsIn K mainGlobals "NoMeeting" = some (some (.ref o6))
  n7 : PySem.W.nsIn K mainGlobals "NoName" = some (some (.ref o7))
  n8 : PySem.W.nsIn K mainGlobals "NoNet" = some (some (.ref o8))
  n9 : PySem.W.nsIn K mainGlobals "NoNumber" = some (some (.ref o9))
  n10 : PySem.W.nsIn K mainGlobals "NoPart" = some (some (.ref o10))
  n11 : PySem.W.nsIn K mainGlobals "NoRow" = some (some (.ref o11))
  n12 : PySem.W.nsIn K mainGlobals "NoText" = some (some (.ref o12))
  n13 : PySem.W.nsIn K mainGlobals "NoWish" = some (some (.ref o13))
  nV : PySem.W.nsIn K mainGlobals "ValueError" = some none
  O : OwnX K C fI "place"
  B : BaseX K M
  F : FunD K "__init__" "NoLayout.__init__" sXInit fI fd
  eM : PySem.W.ExcK K M
  eC : PySem.W.ExcD K C
  cl : PySem.W.ClsK K
  sub : PySem.W.mroIn K C (.ref M) = some true
  kC : PySem.W.kitOne K (.ref C) (.ref C) = some true
  kV : PySem.W.kitOne K (.ref C) (.type "ValueError") = some true
  q1 : PySem.W.kitOne K (.ref C) (.ref o1) = some false
  q2 : PySem.W.kitOne K (.ref C) (.ref o2) = some false
  q3 : PySem.W.kitOne K (.ref C) (.ref o3) = some false
  q4 : PySem.W.kitOne K (.ref C) (.ref o4) = some false
  q5 : PySem.W.kitOne K (.ref C) (.ref o5) = some false
  q6 : PySem.W.kitOne K (.ref C) (.ref o6) = some false
  q7 : PySem.W.kitOne K (.ref C) (.ref o7) = some false
  q8 : PySem.W.kitOne K (.ref C) (.ref o8) = some false
  q9 : PySem.W.kitOne K (.ref C) (.ref o9) = some false
  q10 : PySem.W.kitOne K (.ref C) (.ref o10) = some false
  q11 : PySem.W.kitOne K (.ref C) (.ref o11) = some false
  q12 : PySem.W.kitOne K (.ref C) (.ref o12) = some false
  q13 : PySem.W.kitOne K (.ref C) (.ref o13) = some false
  eT : PySem.W.ExcK K o12
  subT : PySem.W.mroIn K o12 (.ref M) = some true
  tT : PySem.W.kitOne K (.ref o12) (.ref o12) = some true
  tV : PySem.W.kitOne K (.ref o12) (.type "ValueError") = some true
  tC : PySem.W.kitOne K (.ref o12) (.ref C) = some false
  t1 : PySem.W.kitOne K (.ref o12) (.ref o1) = some false
  t2 : PySem.W.kitOne K (.ref o12) (.ref o2) = some false
  t3 : PySem.W.kitOne K (.ref o12) (.ref o3) = some false
  t4 : PySem.W.kitOne K (.ref o12) (.ref o4) = some false
  t5 : PySem.W.kitOne K (.ref o12) (.ref o5) = some false
  t6 : PySem.W.kitOne K (.ref o12) (.ref o6) = some false
  t7 : PySem.W.kitOne K (.ref o12) (.ref o7) = some false
  t8 : PySem.W.kitOne K (.ref o12) (.ref o8) = some false
  t9 : PySem.W.kitOne K (.ref o12) (.ref o9) = some false
  t10 : PySem.W.kitOne K (.ref o12) (.ref o10) = some false
  t11 : PySem.W.kitOne K (.ref o12) (.ref o11) = some false
  t13 : PySem.W.kitOne K (.ref o12) (.ref o13) = some false
theorem refsX_mk {K : PySem.W.Frag} {M C fI o1 o2 o3 o4 o5 o6 o7 o8 o9 o10 o11 o12 o13 N : Addr} {nm q : Str} {bs : List Value} {bm : List Value} {cd : ClassData} {oc tc kw doc pm cdv ct : Value} {dT : Addr} {tn : Nat} {tsl : Array (Option Value)} {td od an : Option Addr} {osl : Array (Option Value)} {hdct sn sub' ab col dd k0 k1 k2 k3 k5}
    (nM : PySem.W.nsIn K mainGlobals "MeetError" = some (some (.ref M)))
    (nC : PySem.W.nsIn K mainGlobals "NoLayout" = some (some (.ref C)))
    (nV : PySem.W.nsIn K mainGlobals "ValueError" = some none)
    (n1 : PySem.W.nsIn K mainGlobals "NoArc" = some (some (.ref o1)))
    (n2 : PySem.W.nsIn K mainGlobals "NoBases" = some (some (.ref o2)))
    (n3 : PySem.W.nsIn K mainGlobals "NoDeskRow" = some (some (.ref o3)))
    (n4 : PySem.W.nsIn K mainGlobals "NoDual" = some (some (.ref o4)))
    (n5 : PySem.W.nsIn K mainGlobals "NoField" = some (some (.ref o5)))
    (n6 : PySem.W.nsIn K mainGlobals "NoMeeting" = some (some (.ref o6)))
    (n7 : PySem.W.nsIn K mainGlobals "NoName" = some (some (.ref o7)))
    (n8 : PySem.W.nsIn K mainGlobals "NoNet" = some (some (.ref o8)))
    (n9 : PySem.W.nsIn K mainGlobals "NoNumber" = some (some (.ref o9)))
    (n10 : PySem.W.nsIn K mainGlobals "NoPart" = some (some (.ref o10)))
    (n11 : PySem.W.nsIn K mainGlobals "NoRow" = some (some (.ref o11)))
    (n12 : PySem.W.nsIn K mainGlobals "NoText" = some (some (.ref o12)))
    (n13 : PySem.W.nsIn K mainGlobals "NoWish" = some (some (.ref o13)))
    (lk : K.lookup C = some (excClassObj nm q C N bs bm hdct sn sub' ab col dd k0 k1 k2 k3 k5 newVE))
    (tl : PySem.W.tailIn K bmVE bm = true)
    (nk : PySem.W.nsOkIn K N = true)
    (ik : PySem.W.nsIn K N "__init__" = some (some (.ref fI)))
    (fn : PySem.W.isFn K (.ref fI) = true)
    (cls : PySem.W.clsIn K C = some cd)
    (ok : cd.mro.all okEntry = true)
    (obj : cd.mro.contains (.type "object") = true)
    (bex : cd.mro.contains (.type "BaseException") = true)
    (dct : cd.hasDict = true)
    (sa : PySem.W.findIn K (.ref C) (Str.ofString "__setattr__") = some (some (.builtin "object.__setattr__")))
    (fdl : PySem.W.findIn K (.ref C) "place" = some none)
    (kp : PySem.W.keepIn K (.ref C) = true)
    (sp : PySem.W.specialIn K (.ref M) (Str.ofString "__getattribute__") = some (some (.builtin "type.__getattribute__")))
    (rdM : PySem.W.readsIn K M (.type "type") = true)
    (fcM : PySem.W.findCls K (.ref M) (.type "type") (Str.ofString "__init__") = some (.val (.builtin "ValueError.__init__")))
    (lf : K.lookup fI = some ⟨oc, od, .func (PySem.W.fnOf "__init__" "NoLayout.__init__" (defArgs sXInit) (defBody sXInit) (defScope sXInit) (.ref dT) kw doc pm an cdv ct), osl⟩)
    (lT : K.lookup dT = some ⟨tc, td, .seq #[.none] tn, tsl⟩)
    (cf : PySem.W.codeIn K cdv "NoLayout.__init__" = true)
    (exM : PySem.W.excIn K M [.type "ValueError", .type "Exception", .type "BaseException", .type "object"] "ValueError.__new__" = true)
    (gaM : PySem.W.findIn K (.ref M) "__getattribute__" = some (some (.builtin "BaseException.__getattribute__")))
    (noM : PySem.W.findIn K (.ref M) "__getattr__" = some none)
    (clM : PySem.W.findIn K (.ref M) "__class__" = some (some (.builtin "object.__class__")))
    (obM : PySem.W.mroIn K M (.type "object") = some true)
    (beM : PySem.W.mroIn K M (.type "BaseException") = some true)
    (gaC : PySem.W.findIn K (.ref C) "__getattribute__" = some (some (.builtin "BaseException.__getattribute__")))
    (noC : PySem.W.findIn K (.ref C) "__getattr__" = some none)
    (clC : PySem.W.findIn K (.ref C) "__class__" = some (some (.builtin "object.__class__")))
    (obC : PySem.W.mroIn K C (.type "object") = some true)
    (beC : PySem.W.mroIn K C (.type "BaseException") = some true)
    (gt : PySem.W.specialIn K (.builtin "object.__class__") "__get__" = some (some (.builtin "getset_descriptor.__get__")))
    (tk : PySem.W.takesIn K (.builtin "object.__class__") = some true)
    (sub : PySem.W.mroIn K C (.ref M) = some true)
    (kC : PySem.W.kitOne K (.ref C) (.ref C) = some true)
    (kV : PySem.W.kitOne K (.ref C) (.type "ValueError") = some true)
    (q1 : PySem.W.kitOne K (.ref C) (.ref o1) = some false)
    (q2 : PySem.W.kitOne K (.ref C) (.ref o2) = some false)
    (q3 : PySem.W.kitOne K (.ref C) (.ref o3) = some false)
    (q4 : PySem.W.kitOne K (.ref C) (.ref o4) = some false)
    (q5 : PySem.W.kitOne K (.ref C) (.ref o5) = some false)
    (q6 : PySem.W.kitOne K (.ref C) (.ref o6) = some false)
    (q7 : PySem.W.kitOne K (.ref C) (.ref o7) = some false)
    (q8 : PySem.W.kitOne K (.ref C) (.ref o8) = some false)
    (q9 : PySem.W.kitOne K (.ref C) (.ref o9) = some false)
    (q10 : PySem.W.kitOne K (.ref C) (.ref o10) = some false)
    (q11 : PySem.W.kitOne K (.ref C) (.ref o11) = some false)
    (q12 : PySem.W.kitOne K (.ref C) (.ref o12) = some false)
    (q13 : PySem.W.kitOne K (.ref C) (.ref o13) = some false)
    (exT : PySem.W.excIn K o12 [.type "ValueError", .type "Exception", .type "BaseException", .type "object"] "ValueError.__new__" = true)
    (gaT : PySem.W.findIn K (.ref o12) "__getattribute__" = some (some (.builtin "BaseException.__getattribute__")))
    (noT : PySem.W.findIn K (.ref o12) "__getattr__" = some none)
    (clT : PySem.W.findIn K (.ref o12) "__class__" = some (some (.builtin "object.__class__")))
    (obT : PySem.W.mroIn K o12 (.type "object") = some true)
    (beT : PySem.W.mroIn K o12 (.type "BaseException") = some true)
    (subT : PySem.W.mroIn K o12 (.ref M) = some true)
    (tT : PySem.W.kitOne K (.ref o12) (.ref o12) = some true)
    (tV : PySem.W.kitOne K (.ref o12) (.type "ValueError") = some true)
    (tC : PySem.W.kitOne K (.ref o12) (.ref C) = some false)
    (t1 : PySem.W.kitOne K (.ref o12) (.ref o1) = some false)
    (t2 : PySem.W.kitOne K (.ref o12) (.ref o2) = some false)
    (t3 : PySem.W.kitOne K (.ref o12) (.ref o3) = some false)
    (t4 : PySem.W.kitOne K (.ref o12) (.ref o4) = some false)
    (t5 : PySem.W.kitOne K (.ref o12) (.ref o5) = some false)
    (t6 : PySem.W.kitOne K (.ref o12) (.ref o6) = some false)
    (t7 : PySem.W.kitOne K (.ref o12) (.ref o7) = some false)
    (t8 : PySem.W.kitOne K (.ref o12) (.ref o8) = some false)
    (t9 : PySem.W.kitOne K (.ref o12) (.ref o9) = some false)
    (t10 : PySem.W.kitOne K (.ref o12) (.ref o10) = some false)
    (t11 : PySem.W.kitOne K (.ref o12) (.ref o11) = some false)
    (t13 : PySem.W.kitOne K (.ref o12) (.ref o13) = some false)
    : ∃ (M C fI o1 o2 o3 o4 o5 o6 o7 o8 o9 o10 o11 o12 o13 : Addr) (fd : FuncData), RefsX K M C fI o1 o2 o3 o4 o5 o6 o7 o8 o9 o10 o11 o12 o13 fd :=
  ⟨M, C, fI, o1, o2, o3, o4, o5, o6, o7, o8, o9, o10, o11, o12, o13, _, nM, nC, n1, n2, n3, n4, n5, n6, n7, n8, n9, n10, n11, n12, n13, nV, ⟨⟨nm, q, N, bs, bm, hdct, sn, sub', ab, col, dd, k0, k1, k2, k3, k5, lk, tl, nk, ik⟩, fn, ⟨cd, cls, ok, obj, bex, dct, gaC, noC, sa⟩, fdl, kp⟩, ⟨sp, rdM, fcM⟩, ⟨⟨oc, od, dT, _, tn, kw, doc, pm, an, cdv, ct, osl, lT, rfl, rfl, lf, cf⟩⟩, ⟨exM, gaM, noM, clM, obM, beM⟩, ⟨⟨nm, q, N, bs, bm, hdct, sn, sub', ab, col, dd, k0, k1, k2, k3, k5, _, lk⟩, gaC, noC, clC, obC, beC⟩, ⟨gt, tk⟩, sub, kC, kV, q1, q2, q3, q4, q5, q6, q7, q8, q9, q10, q11, q12, q13, ⟨exT, gaT, noT, clT, obT, beT⟩, subT, tT, tV, tC, t1, t2, t3, t4, t5, t6, t7, t8, t9, t10, t11, t13⟩
structure MarksX (K : PySem.W.Frag) (mg : Str → Option Value) (M C fI o1 o2 o3 o4 o5 o6 o7 o8 o9 o10 o11 o12 o13 : Addr) (fd : FuncData) : Prop where
  R : RefsX K M C fI o1 o2 o3 o4 o5 o6 o7 o8 o9 o10 o11 o12 o13 fd
  mM : mg "MeetError" = some (.ref M)
  mC : mg "NoLayout" = some (.ref C)
  m1 : mg "NoArc" = some (.ref o1)
  m2 : mg "NoBases" = some (.ref o2)
  m3 : mg "NoDeskRow" = some (.ref o3)
  m4 : mg "NoDual" = some (.ref o4)
  m5 : mg "NoField" = some (.ref o5)
  m6 : mg "NoMeeting" = some (.ref o6)
  m7 : mg "NoName" = some (.ref o7)
  m8 : mg "NoNet" = some (.ref o8)
  m9 : mg "NoNumber" = some (.ref o9)
  m10 : mg "NoPart" = some (.ref o10)
  m11 : mg "NoRow" = some (.ref o11)
  m12 : mg "NoText" = some (.ref o12)
  m13 : mg "NoWish" = some (.ref o13)
  mV : mg "ValueError" = none
theorem marksX_of {K : PySem.W.Frag} {h : Heap} {mg : Str → Option Value} {M C fI o1 o2 o3 o4 o5 o6 o7 o8 o9 o10 o11 o12 o13 : Addr} {fd : FuncData} (X : K.In h) (G : h.Ns mainGlobals mg) (R : RefsX K M C fI o1 o2 o3 o4 o5 o6 o7 o8 o9 o10 o11 o12 o13 fd) : MarksX K mg M C fI o1 o2 o3 o4 o5 o6 o7 o8 o9 o10 o11 o12 o13 fd :=
  ⟨R, PySem.W.mg_of X G R.nM, PySem.W.mg_of X G R.nC, PySem.W.mg_of X G R.n1, PySem.W.mg_of X G R.n2, PySem.W.mg_of X G R.n3, PySem.W.mg_of X G R.n4, PySem.W.mg_of X G R.n5, PySem.W.mg_of X G R.n6, PySem.W.mg_of X G R.n7, PySem.W.mg_of X G R.n8, PySem.W.mg_of X G R.n9, PySem.W.mg_of X G R.n10, PySem.W.mg_of X G R.n11, PySem.W.mg_of X G R.n12, PySem.W.mg_of X G R.n13, PySem.W.mg_none_of X G R.nV⟩
theorem scWhole : FnScope ["thing"] ["thing"] (defScope sWhole) := ⟨rfl, rfl, rfl, by decide +kernel, rfl, by decide +kernel, by decide +kernel⟩
theorem ok_whole {f : Addr} {fd : FuncData} (F : Fun K "is_whole" "is_whole" sWhole f fd) (T : TxtB mg) : FnOk P w K mg base CX0 1 f fd ["thing"] (spWhole K) := by
  refine F.okQ scWhole (fun vs H Q E h => ?_) (fun cdv A outer s H vs Q E hr h => ?_)
  · obtain ⟨v, b, rfl, _⟩ := h
    rfl
  · obtain ⟨v, b, rfl, hw, k⟩ := h
    refine ⟨_, qss_one (qs_ret (qe_and (qe_callB call_isinst (by rfl) T.isi PyProof.Rows.boot_isinstance (qac (qv 0) (qac (qe_bltn (v := .ty "int") rfl T.int PyProof.Rows.boot_int rfl) qa_nil)))
      (qe_one (qe_not (qe_callB call_isinst (by rfl) T.isi PyProof.Rows.boot_isinstance (qac (qv 0) (qac (qe_bltn (v := .ty "bool") rfl T.bool PyProof.Rows.boot_bool rfl) qa_nil))))))), ?_⟩
    cases hw with
    | int i =>
      refine ⟨_, rfl, _, _, _, _, rfl, .int i, rel_ty (kit_int_int K), true, rfl, iteT ?_⟩
      exact ⟨_, rfl, _, _, _, _, rfl, .int i, rel_ty (kit_int_bool K), false, rfl, k⟩
    | bl x =>
      refine ⟨_, rfl, _, _, _, _, rfl, .bl x, rel_ty (kit_bool_int K), true, rfl, iteT ?_⟩
      exact ⟨_, rfl, _, _, _, _, rfl, .bl x, rel_ty (kit_bool_bool K), true, rfl, k⟩
    | odd ty kk =>
      exact ⟨_, rfl, _, _, _, _, rfl, ty, rel_ty kk, false, rfl, iteF k⟩
def spCell2 (K : PySem.W.Frag) : Sp := fun vs H Q _ => ∃ (a : Addr) (ns : List Int) (k : Nat), vs = [.ref a, .int (k : Int)] ∧ SqL K H a (ns.map V.int) ∧ k ≤ 1000 ∧ ∀ (z : Int) (H' : Hp), Same H H' → Q (.int z) H'
theorem scCell : FnScope ["_law_script", "_law_k", "_law_state", "_law_cell_here"] ["_law_script", "_law_k"] (defScope sCell) := ⟨rfl, rfl, rfl, by decide +kernel, rfl, by decide +kernel, by decide +kernel⟩
theorem ok_cell2 {f : Addr} {fd : FuncData} (F : Fun K "_law_cell" "_law_cell" sCell f fd) (T : TxtB mg) : FnOk P w K mg base CX0 1 f fd ["_law_script", "_law_k"] (spCell2 K) := by
  refine F.okQ scCell (fun vs H Q E h => ?_) (fun cdv A outer s H vs Q E hr h => ?_)
  · obtain ⟨a, ns, k, rfl, _⟩ := h
    rfl
  · obtain ⟨a, ns, k, rfl, hS, hk, q⟩ := h
    refine ⟨_, (qss_cons (qs_if (qt_cmpR op_lt (qv 1) (qe_callB call_len_seq (by rfl) T.len PySem.boot_len (qac (qv 0) qa_nil)) (nomark _)) (qss_one (qs_ret (qe_ix ix_list (qv 0) (qv 1) (fun _ _ => rfl)))) qss_nil)
      (qss_cons (qs_set (i := 2) scCell.nd rfl (Or.inl rfl) (qe_op op_mod (qe_op op_mul qe_int (qe_op op_add (qe_op op_add (qe_op op_mul (qv 1) (qv 1)) (qe_op op_mul qe_int (qv 1))) qe_int)) qe_int))
      (qss_cons (qs_for PassesOwn.never rfl (qi_list (qe_slice sl_list (qv 0) qo_none (qo_some qe_int))) (qg_name (i := 3) scCell.nd rfl (Or.inl rfl))
        (qss_one (qs_set (i := 2) scCell.nd rfl (Or.inl rfl) (qe_op op_mod (qe_op op_add (qe_op op_mul (qv 2) qe_int) (qv 3)) qe_int))))
      (qss_one (qs_ret (qv 2)))))), ?_⟩
    refine ⟨_, rfl, _, rfl, a, _, rfl, .inl hS, _, _, rfl, rfl, _, rfl, ?_⟩
    refine ite2 (fun hc => ?_) (fun hc => ?_)
    · have hlt : k < ns.length := by
        have := of_decide_eq_true hc
        rw [List.length_map] at this
        omega
      refine ⟨_, rfl, _, rfl, a, _, _, V.int ns[k], rfl, rfl, hS, atI_nat (by rw [List.getElem?_map, List.getElem?_eq_getElem hlt]; rfl), q _ _ (Same.refl _)⟩
    · refine ⟨_, rfl, _, rfl, _, _, rfl, rfl, .inr ⟨by omega, by omega⟩, _, rfl, _, _, rfl, rfl, .inl ⟨by decide, by decide⟩, _, _, rfl, rfl, _, _, rfl, rfl, _, _, rfl, rfl, .inl ⟨by decide, by decide⟩, _, _, rfl, rfl, by show (0 : Int) < 2147483647; decide, ?_⟩
      refine ⟨_, rfl, _, rfl, a, _, rfl, hS, fun l hl => ?_⟩
      refine ⟨l, rfl, ⟨_, SqL.of upd_same⟩, for_list (K := K) (a := l) (xs := cutV (ns.map V.int) none (some 3)) (fun i σ H2 => H2 = upd H l (.lst (cutV (ns.map V.int) none (some 3))) ∧ ∃ (z : Int) (x3 : Option V), σ = [some (.ref a), some (.int k), some (.int z), x3]) ⟨rfl, _, _, rfl⟩ (fun i σ H2 _ ⟨e, _⟩ => SqL.of (e ▸ upd_same)) ?_ ?_⟩
      · rintro i v σ H2 hi ⟨rfl, z, x3, rfl⟩
        obtain ⟨c, rfl⟩ := cut_ints v (List.mem_of_getElem? hi)
        exact ⟨_, rfl, _, _, rfl, rfl, .inr ⟨by decide, by decide⟩, _, rfl, _, _, rfl, rfl, _, _, rfl, rfl, by show (0 : Int) < 2147483647; decide, rfl, _, _, rfl⟩
      · rintro σ H2 ⟨rfl, z, x3, rfl⟩
        exact ⟨_, rfl, q _ _ (same_new hl)⟩
theorem pickB {x y : Int} (b : Bool) : atI [V.int x, V.int y] (if b then 1 else 0) = some (V.int (if b then y else x)) := by cases b <;> rfl
def spNums : Sp := fun vs H Q _ => ∃ (c : Int) (m : Nat), vs = [.int c, .int (m : Nat)] ∧ m ≤ 1000 ∧ ∀ (l : Addr) (ns : List Int) (H' : Hp), H l = none → Same H H' → H' l = some (.lst (ns.map V.int)) → ns.length = m → (∀ x ∈ ns, 0 ≤ x ∧ x < 2000000000) → Q (.ref l) H'
theorem scLNumbers : FnScope ["_law_cell_here", "_law_many", "_law_found", "_law_state", "_law_digits", "_law_k"] ["_law_cell_here", "_law_many"] (defScope sLNumbers) := ⟨rfl, rfl, rfl, by decide +kernel, rfl, by decide +kernel, by decide +kernel⟩
theorem ok_numbers {f : Addr} {fd : FuncData} (F : Fun K "_law_numbers" "_law_numbers" sLNumbers f fd) (T : TxtB mg) : FnOk P w K mg base CX0 1 f fd ["_law_cell_here", "_law_many"] spNums := by
  refine F.okQ scLNumbers (fun vs H Q E h => ?_) (fun cdv A outer s H vs Q E hr h => ?_)
  · obtain ⟨c, m, rfl, _⟩ := h
    rfl
  · obtain ⟨c, m, rfl, hm, q⟩ := h
    refine ⟨_, (qss_cons (qs_set (i := 2) scLNumbers.nd rfl (Or.inl rfl) (qe_lst qa_nil))
      (qss_cons (qs_set (i := 3) scLNumbers.nd rfl (Or.inl rfl) (qe_op op_mod (qe_op op_mul (qe_op op_add (qe_op op_mod (qv 0) qe_int) qe_int) qe_int) qe_int))
      (qss_cons (qs_set (i := 4) scLNumbers.nd rfl (Or.inl rfl) qe_int)
      (qss_cons (qs_if (QW.pt (qw_or (qt_cmpR op_lt (qv 0) qe_int (nomark _)) (qw_or1 (qt_cmpR op_ge (qv 0) (qe_op op_pow qe_int qe_int) (nomark _))))) (qss_one (qs_set (i := 4) scLNumbers.nd rfl (Or.inl rfl) (qe_callB call_abs (by rfl) T.abs PyProof.Rows.boot_abs (qac (qv 0) qa_nil)))) qss_nil)
      (qss_cons (qs_for PassesOwn.never rfl (qi_range1 rfl T.range (qac (qv 1) qa_nil)) (qg_name (i := 5) scLNumbers.nd rfl (Or.inl rfl))
        (qss_cons (qs_set (i := 3) scLNumbers.nd rfl (Or.inl rfl) (qe_op op_mod (qe_op op_add (qe_op op_add (qe_op op_mul (qv 3) (qe_op op_add (qe_op op_mod (qv 3) qe_int) qe_int)) (qe_op op_mul qe_int (qv 5))) qe_int) qe_int))
        (qss_cons (qs_expr (qe_bm PySem.F.plainAttrs_list PySem.F.slot_list_append PySem.F.type_list_append mt_append (qv 2) (qac (qe_ix ix_list (qe_lst (qac (qv 3) (qac (qe_op op_mod (qv 4) qe_int) qa_nil))) (qe_callTy call_int1 (by rfl) T.int PyProof.Rows.boot_int (qac (qe_cmpR op_gt (qv 4) qe_int (nomark _)) qa_nil)) (fun _ _ => rfl)) qa_nil)))
        (qss_one (qs_set (i := 4) scLNumbers.nd rfl (Or.inl rfl) (qe_op op_fdiv (qv 4) qe_int))))))
      (qss_one (qs_ret (qv 2)))))))), ?_⟩
    refine ⟨by show 0 ≤ sizeLine; decide, fun l hl => ?_⟩
    have big : (0 : Int) < 1999999973 := by decide
    have c1 := Int.emod_nonneg c (show (1999999973 : Int) ≠ 0 by decide)
    have c2 := Int.emod_lt_of_pos c big
    refine ⟨_, rfl, _, _, rfl, rfl, (by show (0 : Int) < 1999999973; decide), _, _, rfl, rfl, _, _, rfl, rfl, .inr ⟨by decide, by decide⟩, _, _, rfl, rfl, (by show (0 : Int) < 1999999973; decide), ?_⟩
    generalize hst : (c % 1999999973 + 31) * 765432101 % 1999999973 = st0
    have st1 : 0 ≤ st0 ∧ st0 < 1999999973 := by
      rw [← hst]
      exact ⟨Int.emod_nonneg _ (by decide), Int.emod_lt_of_pos _ (by decide)⟩
    refine ⟨_, rfl, _, _, rfl, rfl, _, rfl, ?_⟩
    obtain ⟨dg, hdg, hw⟩ : ∃ dg : Int, 0 ≤ dg ∧ ((c < 0 ∧ dg = (if c < 0 then -c else c)) ∨ (¬ c < 0 ∧ c ≥ 10 ^ (18 : Int).toNat ∧ dg = (if c < 0 then -c else c)) ∨ (¬ c < 0 ∧ ¬ c ≥ 10 ^ (18 : Int).toNat ∧ dg = 0)) := by
      by_cases h1 : c < 0
      · exact ⟨_, abs_nn c, .inl ⟨h1, rfl⟩⟩
      · by_cases h2 : c ≥ 10 ^ (18 : Int).toNat
        · exact ⟨_, abs_nn c, .inr (.inl ⟨h1, h2, rfl⟩)⟩
        · exact ⟨0, Int.le_refl 0, .inr (.inr ⟨h1, h2, rfl⟩)⟩
    rcases hw with ⟨h1, e⟩ | ⟨h1, h2, e⟩ | ⟨h1, h2, e⟩
    all_goals first | refine ifF h1 ⟨_, rfl, _, _, rfl, rfl, ⟨by decide, by decide, by decide⟩, _, _, rfl, rfl, _, rfl, ifT h2 ⟨_, rfl, c, rfl, ?_⟩⟩ | refine ifF h1 ⟨_, rfl, _, _, rfl, rfl, ⟨by decide, by decide, by decide⟩, _, _, rfl, rfl, _, rfl, ifF h2 ?_⟩ | refine ifT h1 ⟨_, rfl, c, rfl, ?_⟩
    all_goals
      refine ⟨_, rfl, ((m : Nat) : Int), rfl, by omega, by omega, for_range (n := m) (fun i σ H2 => Same H H2 ∧ ∃ (ns : List Int) (sd dg : Int) (x : Option V), σ = [some (.int c), some (.int (m : Nat)), some (.ref l), some (.int sd), some (.int dg), x] ∧ H2 l = some (.lst (ns.map V.int)) ∧ ns.length = i ∧ (∀ x ∈ ns, 0 ≤ x ∧ x < 2000000000) ∧ 0 ≤ sd ∧ sd < 1999999973 ∧ 0 ≤ dg)
        ⟨same_new hl, [], st0, dg, none, by rw [e, ← hst]; rfl, upd_same, rfl, by simp, st1.1, st1.2, hdg⟩ ?_ ?_⟩
      · rintro i σ H2 hi ⟨s2, ns, sd, dg, x, rfl, hl2, hlen, hns, h1, h2, h3⟩
        have a1 := Int.emod_nonneg sd (show (65521 : Int) ≠ 0 by decide)
        have a2 := Int.emod_lt_of_pos sd (show (0 : Int) < 65521 by decide)
        refine ⟨_, rfl, _, rfl, _, _, rfl, rfl, (by show (0 : Int) < 65521; decide), _, _, rfl, rfl, _, _, rfl, rfl, .inl ⟨by omega, by omega⟩, _, rfl, _, _, rfl, rfl, .inl ⟨by decide, by decide⟩, _, _, rfl, rfl, _, _, rfl, rfl, _, _, rfl, rfl, (by show (0 : Int) < 1999999973; decide), ?_⟩
        refine ⟨_, rfl, .inl ⟨rfl, _, SqL.of hl2⟩, _, rfl, _, rfl, _, _, rfl, rfl, (by show (0 : Int) < 1000000; decide), by show 2 ≤ sizeLine; decide, fun t ht => ?_⟩
        refine ⟨_, rfl, _, _, rfl, rfl, .inr ⟨_, rfl, t, _, _, _, rfl, rfl, SqL.of upd_same, pickB _, l, _, _, rfl, rfl, (same_new ht) _ _ hl2, ?_, ?_⟩⟩
        · rw [List.length_map, hlen]
          exact Nat.lt_of_lt_of_le hi (Nat.le_trans hm (by decide))
        refine ⟨_, rfl, _, _, rfl, rfl, ⟨by decide, by decide⟩, same_upd (s2.trans (same_new ht)) hl, ns ++ [if decide (0 < dg) = true then dg % 1000000 else (sd * (sd % 65521 + 40487) + 7 * (0 + (i : Int)) + 5) % 1999999973], _, _, _, rfl, ?_, ?_, ?_, ?_, ?_, ?_⟩
        · rw [List.map_append]
          exact upd_same
        · rw [List.length_append, hlen]
          rfl
        · intro y hy
          rcases List.mem_append.mp hy with z | z
          · exact hns y z
          · rw [List.mem_singleton.mp z]
            split
            · exact ⟨Int.emod_nonneg _ (by decide), Int.lt_trans (Int.emod_lt_of_pos _ (by decide)) (by decide)⟩
            · exact ⟨Int.emod_nonneg _ (by decide), Int.lt_trans (Int.emod_lt_of_pos _ (by decide)) (by decide)⟩
        · exact Int.emod_nonneg _ (by decide)
        · exact Int.emod_lt_of_pos _ (by decide)
        · exact Int.ediv_nonneg h3 (by decide)
      · rintro σ H2 ⟨s2, ns, sd, dg, x, rfl, hl2, hlen, hns, _⟩
        exact ⟨_, rfl, q l ns H2 hl s2 hl2 hlen hns⟩
theorem at_ok {ns : List Int} {i : Nat} (h : i < ns.length) : ∃ x : Int, atI (ns.map V.int) (i : Int) = some (.int x) ∧ x ∈ ns := ⟨ns[i], atI_nat (by rw [List.getElem?_map, List.getElem?_eq_getElem h]; rfl), List.getElem_mem h⟩
def spBits (K : PySem.W.Frag) : Sp := fun vs H Q _ => ∃ (a : Addr) (ns : List Int) (p : Nat), vs = [.ref a, .int (p : Nat)] ∧ SqL K H a (ns.map V.int) ∧ 3 ≤ ns.length ∧ p ≤ 60 ∧ ∀ (l : Addr) (b : List Nat) (H' : Hp), H l = none → Same H H' → H' l = some (.lst (nats b)) → Blk p b → Q (.ref l) H'
theorem scLBits : FnScope ["_law_xs", "_law_points", "_law_mask", "_law_found", "_law_point"] ["_law_xs", "_law_points"] (defScope sLBits) := ⟨rfl, rfl, rfl, by decide +kernel, rfl, by decide +kernel, by decide +kernel⟩
theorem ok_bits {f : Addr} {fd : FuncData} (F : Fun K "_law_bits" "_law_bits" sLBits f fd) (T : TxtB mg) : FnOk P w K mg base CX0 1 f fd ["_law_xs", "_law_points"] (spBits K) := by
  refine F.okQ scLBits (fun vs H Q E h => ?_) (fun cdv A outer s H vs Q E hr h => ?_)
  · obtain ⟨a, ns, p, rfl, _⟩ := h
    rfl
  · obtain ⟨a, ns, p, rfl, hS, h3, hp, q⟩ := h
    refine ⟨_, (qss_cons (qs_set (i := 2) scLBits.nd rfl (Or.inl rfl) (qe_op op_add (qe_op op_add (qe_op op_mod (qe_ix ix_list (qv 0) qe_int (fun _ _ => rfl)) (qe_op op_pow qe_int qe_int)) (qe_op op_mul (qe_op op_mod (qe_ix ix_list (qv 0) qe_int (fun _ _ => rfl)) (qe_op op_pow qe_int qe_int)) (qe_op op_pow qe_int qe_int))) (qe_op op_mul (qe_op op_mod (qe_ix ix_list (qv 0) qe_int (fun _ _ => rfl)) (qe_op op_pow qe_int qe_int)) (qe_op op_pow qe_int qe_int))))
      (qss_cons (qs_set (i := 3) scLBits.nd rfl (Or.inl rfl) (qe_lst qa_nil))
      (qss_cons (qs_for PassesOwn.never rfl (qi_range1 rfl T.range (qac (qv 1) qa_nil)) (qg_name (i := 4) scLBits.nd rfl (Or.inl rfl))
        (qss_cons (qs_if (qt_cmpR op_eq (qe_op op_mod (qv 2) qe_int) qe_int (nomark _)) (qss_one (qs_expr (qe_bm PySem.F.plainAttrs_list PySem.F.slot_list_append PySem.F.type_list_append mt_append (qv 3) (qac (qv 4) qa_nil)))) qss_nil)
        (qss_one (qs_set (i := 2) scLBits.nd rfl (Or.inl rfl) (qe_op op_fdiv (qv 2) qe_int)))))
      (qss_one (qs_ret (qv 3)))))), ?_⟩
    obtain ⟨y0, e0, _⟩ := at_ok (show 0 < ns.length by omega)
    obtain ⟨y1, e1, _⟩ := at_ok (show 1 < ns.length by omega)
    obtain ⟨y2, e2, _⟩ := at_ok (show 2 < ns.length by omega)
    have c20 : CPow 2 20 := ⟨by decide, by decide, by decide⟩
    have c40 : CPow 2 40 := ⟨by decide, by decide, by decide⟩
    have p20 : (0 : Int) < 2 ^ (20 : Int).toNat := by decide
    refine ⟨_, rfl, a, _, 0, .int y0, rfl, rfl, hS, e0, _, _, rfl, rfl, c20, _, _, rfl, rfl, p20, _, rfl, a, _, 1, .int y1, rfl, rfl, hS, e1, _, _, rfl, rfl, c20, _, _, rfl, rfl, p20, _, _, rfl, rfl, c20, _, _, rfl, rfl, .inr ⟨by decide, by decide⟩, _, _, rfl, rfl,
      _, rfl, a, _, 2, .int y2, rfl, rfl, hS, e2, _, _, rfl, rfl, c20, _, _, rfl, rfl, p20, _, _, rfl, rfl, c40, _, _, rfl, rfl, .inr ⟨by decide, by decide⟩, _, _, rfl, rfl, ?_⟩
    refine ⟨by show 0 ≤ sizeLine; decide, fun l hl => ?_⟩
    refine ⟨_, rfl, ((p : Nat) : Int), rfl, by omega, by omega, for_range (n := p) (fun i σ H2 => Same H H2 ∧ ∃ (b : List Nat) (m : Int) (x : Option V), σ = [some (.ref a), some (.int (p : Nat)), some (.int m), some (.ref l), x] ∧ H2 l = some (.lst (nats b)) ∧ Blk i b)
      ⟨same_new hl, [], _, none, rfl, upd_same, ⟨by simp, by simp⟩⟩ ?_ ?_⟩
    · rintro i σ H2 hi ⟨s2, b, m, x, rfl, hl2, hb⟩
      refine ⟨_, rfl, _, _, rfl, rfl, (by show (0 : Int) < 2; decide), rfl, _, rfl, ?_⟩
      refine iteV (fun σ' H' => Same H H' ∧ ∃ b' : List Nat, σ' = [some (.ref a), some (.int (p : Nat)), some (.int m), some (.ref l), some (.int (0 + (i : Int)))] ∧ H' l = some (.lst (nats b')) ∧ Blk (i + 1) b') ?_ (fun _ go => ?_) (fun _ go => ?_)
      rotate_left
      · refine ⟨_, rfl, .inl ⟨rfl, _, SqL.of hl2⟩, _, rfl, l, _, _, rfl, rfl, hl2, ?_, go _ _ ⟨same_upd s2 hl, b ++ [i], rfl, ?_, ?_, ?_⟩⟩
        · rw [nats_len]
          exact Nat.lt_of_le_of_lt hb.len (Nat.lt_of_lt_of_le hi (Nat.le_trans hp (by decide)))
        · rw [nats_snoc, Int.zero_add]
          exact upd_same
        · rw [List.nodup_append]
          exact ⟨hb.nd, by simp, fun x hx y hy e => by
            have := hb.lt x hx
            rw [List.mem_singleton.mp hy] at e
            omega⟩
        · intro x hx
          rcases List.mem_append.mp hx with z | z
          · exact Nat.lt_succ_of_lt (hb.lt x z)
          · rw [List.mem_singleton.mp z]
            exact Nat.lt_succ_self i
      · exact go _ _ ⟨s2, b, rfl, hl2, hb.nd, fun x hx => Nat.lt_succ_of_lt (hb.lt x hx)⟩
      rintro σ' H' ⟨s3, b', rfl, hl3, hb'⟩
      exact ⟨_, rfl, _, _, rfl, rfl, ⟨by decide, by decide⟩, s3, b', _, _, rfl, hl3, hb'⟩
    · rintro σ H2 ⟨s2, b, m, x, rfl, hl2, hb⟩
      exact ⟨_, rfl, q l b H2 hl s2 hl2 hb⟩
def spTurned : Sp := fun vs H Q _ => ∃ (a : Addr) (b : List Nat) (x : Int), vs = [.ref a, .int x] ∧ H a = some (.lst (nats b)) ∧ 0 ≤ x ∧ b.length ≤ 60 ∧ ∀ (l : Addr) (b' : List Nat) (H' : Hp), H l = none → Same H H' → H' l = some (.lst (nats b')) → b'.Perm b → Q (.ref l) H'
theorem scLTurned : FnScope ["_law_some", "_law_x", "_law_at", "_law_found"] ["_law_some", "_law_x"] (defScope sLTurned) := ⟨rfl, rfl, rfl, by decide +kernel, rfl, by decide +kernel, by decide +kernel⟩
theorem cut_nats (b : List Nat) (k : Nat) (hk : k ≤ b.length) : cutV (nats b) (some (k : Int)) none = nats (b.drop k) ∧ cutV (nats b) none (some (k : Int)) = nats (b.take k) := by
  rw [cut_from (by rw [nats_len]; exact hk), cut_to (by rw [nats_len]; exact hk)]
  exact ⟨by simp [nats, List.map_drop], by simp [nats, List.map_take]⟩
theorem ok_turned {f : Addr} {fd : FuncData} (F : Fun K "_law_turned" "_law_turned" sLTurned f fd) (T : TxtB mg) : FnOk P w K mg base CX0 1 f fd ["_law_some", "_law_x"] spTurned := by
  refine F.okQ scLTurned (fun vs H Q E h => ?_) (fun cdv A outer s H vs Q E hr h => ?_)
  · obtain ⟨a, b, x, rfl, _⟩ := h
    rfl
  · obtain ⟨a, b, x, rfl, ha, hx, hb, q⟩ := h
    refine ⟨_, (qss_cons (qs_set (i := 2) scLTurned.nd rfl (Or.inl rfl) qe_int)
      (qss_cons (qs_if (qt_cmpR (op_neD hr.units) (qv 0) (qe_lst qa_nil) (nomark _)) (qss_one (qs_set (i := 2) scLTurned.nd rfl (Or.inl rfl) (qe_op op_mod (qv 1) (qe_callB call_len_seq (by rfl) T.len PySem.boot_len (qac (qv 0) qa_nil))))) qss_nil)
      (qss_cons (qs_set (i := 3) scLTurned.nd rfl (Or.inl rfl) (qe_op op_cat (qe_slice sl_list (qv 0) (qo_some (qv 2)) qo_none) (qe_slice sl_list (qv 0) qo_none (qo_some (qv 2)))))
      (qss_cons (qs_if (qt_cmpR op_eq (qe_op op_mod (qe_op op_fdiv (qv 1) qe_int) qe_int) qe_int (nomark _)) (qss_one (qs_ret (qe_rev (qv 3)))) qss_nil)
      (qss_one (qs_ret (qv 3))))))), ?_⟩
    refine ⟨_, rfl, by show 0 ≤ sizeLine; decide, fun m hm => ?_⟩
    have s1 := same_new (o := .lst []) hm
    refine ⟨dBlk b, .list [], by simp only [dBlk, IsD]; exact ⟨a, _, rfl, SqL.of (s1 _ _ ha), ints_isD' b⟩, by simp only [IsD]; exact ⟨m, _, rfl, SqL.of upd_same, by simp [IsDs]⟩, shaped_blk b, rfl, _, rfl, ?_⟩
    refine iteV (fun σ' H' => Same H H' ∧ H' a = some (.lst (nats b)) ∧ ∃ k : Nat, σ' = [some (.ref a), some (.int x), some (.int (k : Nat)), none] ∧ k ≤ b.length) ?_ (fun hc go => ?_) (fun hc go => ?_)
    rotate_left
    · have hne : 0 < b.length := by
        cases b with
        | nil => exact absurd hc (by decide)
        | cons y r => exact Nat.succ_pos _
      refine ⟨_, rfl, _, rfl, a, _, rfl, .inl (SqL.of (s1 _ _ ha)), _, _, rfl, rfl, by rw [nats_len]; omega, go _ _ ⟨s1, s1 _ _ ha, (x % (nats b).length).toNat, ?_, ?_⟩⟩
      · have := Int.emod_nonneg x (show ((nats b).length : Int) ≠ 0 by rw [nats_len]; omega)
        rw [Int.toNat_of_nonneg this]
        rfl
      · have h1 := Int.emod_lt_of_pos x (show (0 : Int) < ((nats b).length : Int) by rw [nats_len]; omega)
        have h2 := Int.emod_nonneg x (show ((nats b).length : Int) ≠ 0 by rw [nats_len]; omega)
        rw [nats_len] at h1 h2 ⊢
        omega
    · exact go _ _ ⟨s1, s1 _ _ ha, 0, rfl, Nat.zero_le _⟩
    rintro σ' H' ⟨s2, ha2, k, rfl, hk⟩
    obtain ⟨c1, c2⟩ := cut_nats b k hk
    refine ⟨_, rfl, _, rfl, _, rfl, a, _, rfl, SqL.of ha2, fun u hu => ?_⟩
    rw [c1]
    have s3 := same_new (o := .lst (nats (b.drop k))) hu
    refine ⟨_, rfl, _, rfl, _, rfl, a, _, rfl, SqL.of (s3 _ _ ha2), fun v hv => ?_⟩
    rw [c2]
    have s4 := same_new (o := .lst (nats (b.take k))) hv
    refine ⟨u, v, _, _, rfl, rfl, s4 _ _ upd_same, upd_same, ?_, fun l hl => ?_⟩
    · rw [nats_len, nats_len, List.length_drop, List.length_take]
      exact Nat.le_trans (show _ ≤ 60 by omega) (by decide)
    have e1 : nats (b.drop k) ++ nats (b.take k) = nats (b.drop k ++ b.take k) := by simp [nats]
    rw [e1]
    have pm : (b.drop k ++ b.take k).Perm b := by
      have := List.perm_append_comm (l₁ := b.drop k) (l₂ := b.take k)
      rwa [List.take_append_drop] at this
    have s5 := (((s2.trans s3).trans s4).trans (same_new (o := .lst (nats (b.drop k ++ b.take k))) hl))
    refine ⟨_, rfl, _, _, rfl, rfl, ⟨by decide, by decide⟩, _, _, rfl, rfl, (by show (0 : Int) < 2; decide), rfl, _, rfl, ?_⟩
    refine ite2 (fun _ => ?_) (fun _ => ?_)
    · refine ⟨_, rfl, l, _, rfl, SqL.of upd_same, fun r hr => ?_⟩
      have e2 : (nats (b.drop k ++ b.take k)).reverse = nats (b.drop k ++ b.take k).reverse := by simp [nats]
      rw [e2]
      exact q r _ _ (s5.free hr) (s5.trans (same_new hr)) upd_same ((List.reverse_perm _).trans pm)
    · exact ⟨_, rfl, q l _ _ (((s2.trans s3).trans s4).free hl) s5 upd_same pm⟩
theorem comp_list {K : PySem.W.Frag} {a : Addr} {xs : List V} {g : TG} {tc : TT} {te : TE} {σ' : St} {H : Hp} {G : Addr → Hp → List V → Prop} (Pv : Nat → List V → Hp → Prop) (h0 : Pv 0 [] H) (hl : ∀ i ys H, i ≤ xs.length → Pv i ys H → SqL K H a xs)
    (hs : ∀ i x ys H (N : List V → Hp → Prop), xs[i]? = some x → Pv i ys H → (∀ ys' H', Pv (i + 1) ys' H' → N ys' H') → g x σ' H fun σ2 H4 => Weak σ' σ2 ∧ tc σ2 H4 fun b H5 => if b = true then te σ2 H5 fun y H6 => ys.length < sizeLine ∧ N (ys ++ [y]) H6 else N ys H5)
    (hd : ∀ ys H, Pv xs.length ys H → ys.length ≤ sizeLine ∧ ∀ p, H p = none → G p H ys) :
    ∃ W : Nat → Nat → List V → Hp → Prop, (∃ m, W 0 m [] H) ∧ ∀ i m ys H2, W i m ys H2 →
      ((Itl K a).stop i H2 ∧ ys.length ≤ sizeLine ∧ ∀ p, H2 p = none → G p H2 ys) ∨
      ((Itl K a).go i H2 ∧ ∀ x H3, (Itl K a).yld i H2 x H3 → g x σ' H3 fun σ2 H4 => Weak σ' σ2 ∧ tc σ2 H4 fun b H5 =>
        if b = true then te σ2 H5 fun y H6 => ys.length < sizeLine ∧ ∃ m', m' < m ∧ W (i + 1) m' (ys ++ [y]) H6 else ∃ m', m' < m ∧ W (i + 1) m' ys H5) := by
  refine ⟨fun i m ys H => m = xs.length - i ∧ i ≤ xs.length ∧ Pv i ys H, ⟨xs.length, rfl, Nat.zero_le _, h0⟩, ?_⟩
  rintro i m ys H2 ⟨rfl, hi, p⟩
  have q := hl i ys H2 hi p
  by_cases hlt : i < xs.length
  · refine .inr ⟨⟨xs, xs[i], q, by simp [hlt]⟩, fun x H' y => ?_⟩
    obtain ⟨e, y⟩ := y
    subst e
    exact hs i x ys _ (fun ys' H'' => ∃ m', m' < xs.length - i ∧ m' = xs.length - (i + 1) ∧ i + 1 ≤ xs.length ∧ Pv (i + 1) ys' H'') (y xs q) p (fun ys' H'' p' => ⟨_, by omega, rfl, hlt, p'⟩)
  · have e : i = xs.length := by omega
    subst e
    exact .inl ⟨⟨xs, q, Nat.le_refl _⟩, hd ys H2 p⟩
def dBls (bs : List (List Nat)) : PyData := .list (bs.map dBlk)
theorem bls_isD {K : PySem.W.Frag} {H : Hp} : ∀ {vs : List V} {bs : List (List Nat)}, BlAt H vs bs → IsDs K H (bs.map dBlk) vs
  | [], [], _ => by simp [IsDs]
  | v :: vs, b :: bs, ⟨⟨a, e, q⟩, r⟩ => by
    simp only [List.map_cons, IsDs]
    refine ⟨v, vs, rfl, ?_, bls_isD r⟩
    simp only [dBlk, IsD]
    exact ⟨a, _, e, SqL.of q, ints_isD' b⟩
theorem lay_bls : ∀ bs : List (List Nat), PyData.canLayAll0 (bs.map dBlk) = true
  | [] => by simp [PyData.canLayAll0]
  | b :: bs => by
    have h1 := lay_ints' b
    simp only [List.map_cons, PyData.canLayAll0, dBlk, PyData.canLay0, h1, lay_bls bs, Bool.and_self, Bool.true_and]
theorem depth_bls : ∀ bs : List (List Nat), PyData.depthAll (bs.map dBlk) ≤ 2
  | [] => by simp [PyData.depthAll]
  | b :: bs => by
    have h1 := depth_ints' b
    have h2 := depth_bls bs
    simp only [List.map_cons, PyData.depthAll, dBlk, PyData.depth]
    omega
theorem shaped_bls (bs : List (List Nat)) : PySem.SeqAt.shaped (dBls bs) = true := by
  unfold PySem.SeqAt.shaped dBls
  rw [Bool.and_eq_true]
  refine ⟨by simp only [PyData.canLay0]; exact lay_bls bs, decide_eq_true ?_⟩
  have := depth_bls bs
  simp only [PyData.depth]
  omega
def spDrawn (K : PySem.W.Frag) : Sp := fun vs H Q _ => ∃ c : Int, vs = [.int c] ∧ ∀ (t l : Addr) (p : Nat) (ws : List V) (bs : List (List Nat)) (H' : Hp), H l = none → Same H H' → H' t = some (.tup [.int (p : Nat), .ref l]) → H' l = some (.lst ws) → BlAt H' ws bs → 1 ≤ p → p ≤ 60 → bs.length ≤ 14 → (∀ b ∈ bs, Blk p b) → Q (.ref t) H'
theorem pickP {r : Int} (h0 : 0 ≤ r) (h1 : r < 4) : ∃ c : Int, atI [V.int 9, V.int 9, V.int 9, V.int 60] r = some (.int c) ∧ 1 ≤ c ∧ c ≤ 60 := by
  have h : r = 0 ∨ r = 1 ∨ r = 2 ∨ r = 3 := by omega
  rcases h with rfl | rfl | rfl | rfl <;> exact ⟨_, rfl, by decide, by decide⟩
theorem range_blk (p : Nat) : Blk p (List.range p) := ⟨List.nodup_range, fun x hx => List.mem_range.mp hx⟩
theorem scLDrawn : FnScope ["_law_cell_here", "_law_xs", "_law_points", "_law_blocks", "_law_k", "_law_some"] ["_law_cell_here"] (defScope sLDrawn) := ⟨rfl, rfl, rfl, by decide +kernel, rfl, by decide +kernel, by decide +kernel⟩
theorem ok_drawn {f : Addr} {fd : FuncData} (F : Fun K "_law_drawn" "_law_drawn" sLDrawn f fd) (T : TxtB mg) (pLNumbers : Pm P w K mg base CX0 1 "_law_numbers" ["_law_cell_here", "_law_many"] spNums) (pLBits : Pm P w K mg base CX0 1 "_law_bits" ["_law_xs", "_law_points"] (spBits K)) (pLTurned : Pm P w K mg base CX0 1 "_law_turned" ["_law_some", "_law_x"] spTurned) : FnOk P w K mg base CX0 2 f fd ["_law_cell_here"] (spDrawn K) := by
  refine F.okQ scLDrawn (fun vs H Q E h => ?_) (fun cdv A outer s H vs Q E hr1 h => ?_)
  · obtain ⟨c, rfl, _⟩ := h
    rfl
  · obtain ⟨c, rfl, q⟩ := h
    refine ⟨_, (qss_cons (qs_set (i := 1) scLDrawn.nd rfl (Or.inl rfl) (qe_callP pLNumbers hr1 rfl pass0 (qac (qv 0) (qac qe_int qa_nil))))
      (qss_cons (qs_set (i := 2) scLDrawn.nd rfl (Or.inl rfl) (qe_op op_add qe_int (qe_op op_mod (qe_ix ix_list (qv 1) qe_int (fun _ _ => rfl)) (qe_ix ix_list (qe_lst (qac qe_int (qac qe_int (qac qe_int (qac qe_int qa_nil))))) (qe_op op_mod (qe_ix ix_list (qv 1) qe_int (fun _ _ => rfl)) qe_int) (fun _ _ => rfl)))))
      (qss_cons (qs_set (i := 3) scLDrawn.nd rfl (Or.inl rfl) (qe_lst qa_nil))
      (qss_cons (qs_for PassesOwn.never rfl (qi_range1 rfl T.range (qac (qe_op op_mod (qe_ix ix_list (qv 1) qe_int (fun _ _ => rfl)) qe_int) qa_nil)) (qg_name (i := 4) scLDrawn.nd rfl (Or.inl rfl))
        (qss_cons (qs_set (i := 5) scLDrawn.nd rfl (Or.inl rfl) (qe_callP pLBits hr1 rfl pass0 (qac (qe_slice sl_list (qv 1) (qo_some (qe_op op_add (qe_op op_mul qe_int (qv 4)) qe_int)) qo_none) (qac (qv 2) qa_nil))))
        (qss_cons (qs_if (qt_cmpR op_eq (qe_op op_mod (qe_ix ix_list (qv 1) (qe_op op_add (qe_op op_mul qe_int (qv 4)) qe_int) (fun _ _ => rfl)) qe_int) qe_int (nomark _)) (qss_one (qs_set (i := 5) scLDrawn.nd rfl (Or.inl rfl) (qe_ix ix_list (qe_lst (qac (qe_lst qa_nil) (qac (qe_callTy (call_list_rng rfl) (by rfl) T.lst (by decide +kernel) (qac (qe_callTy call_rng1 (by rfl) T.range PyProof.Rows.boot_range (qac (qv 2) qa_nil)) qa_nil)) qa_nil))) (qe_op op_mod (qe_ix ix_list (qv 1) (qe_op op_add (qe_op op_mul qe_int (qv 4)) qe_int) (fun _ _ => rfl)) qe_int) (fun _ _ => rfl)))) qss_nil)
        (qss_cons (qs_if (QW.pt (qw_and (qt_cmpR op_eq (qe_op op_mod (qe_ix ix_list (qv 1) (qe_op op_add (qe_op op_mul qe_int (qv 4)) qe_int) (fun _ _ => rfl)) qe_int) qe_int (nomark _)) (qw_and1 (qt_cmpR (op_neD hr1.units) (qv 3) (qe_lst qa_nil) (nomark _))))) (qss_one (qs_set (i := 5) scLDrawn.nd rfl (Or.inl rfl) (qe_callTy call_list_of (by rfl) T.lst (by decide +kernel) (qac (qe_ix ix_list (qv 3) (qe_op op_mod (qe_ix ix_list (qv 1) (qe_op op_add (qe_op op_mul qe_int (qv 4)) qe_int) (fun _ _ => rfl)) (qe_callB call_len_seq (by rfl) T.len PySem.boot_len (qac (qv 3) qa_nil))) (fun _ _ => rfl)) qa_nil)))) qss_nil)
        (qss_one (qs_expr (qe_bm PySem.F.plainAttrs_list PySem.F.slot_list_append PySem.F.type_list_append mt_append (qv 3) (qac (qe_callP pLTurned hr1 rfl pass0 (qac (qv 5) (qac (qe_ix ix_list (qv 1) (qe_op op_add (qe_op op_mul qe_int (qv 4)) qe_int) (fun _ _ => rfl)) qa_nil))) qa_nil))))))))
      (qss_one (qs_ret (qe_tup (qac (qv 2) (qac (qv 3) qa_nil))))))))), ?_⟩
    refine ⟨_, rfl, c, 84, rfl, by decide, fun lx ns H1 hlx s1 hx1 hn hns => ?_⟩
    have g : ∀ j : Nat, j < 84 → ∃ x : Int, atI (ns.map V.int) (j : Int) = some (.int x) ∧ 0 ≤ x ∧ x < 2000000000 := fun j hj => by
      obtain ⟨x, e, m⟩ := at_ok (ns := ns) (i := j) (by omega)
      exact ⟨x, e, hns x m⟩
    have m0 : ∀ (u : Int) (n : Int), 0 < n → 0 ≤ u % n ∧ u % n < n := fun u n h => ⟨Int.emod_nonneg _ (by omega), Int.emod_lt_of_pos _ h⟩
    obtain ⟨y0, e0, p0, r0⟩ := g 0 (by decide)
    obtain ⟨y1, e1, p1, r1⟩ := g 1 (by decide)
    obtain ⟨y2, e2, p2, r2⟩ := g 2 (by decide)
    obtain ⟨cp, ecp, cp1, cp2⟩ := pickP (m0 y1 4 (by decide)).1 (m0 y1 4 (by decide)).2
    refine ⟨_, rfl, lx, _, 0, .int y0, rfl, rfl, SqL.of hx1, e0, by show 4 ≤ sizeLine; decide, fun d hd => ?_⟩
    have s2 := same_new (o := .lst [V.int 9, V.int 9, V.int 9, V.int 60]) hd
    have hx2 := s2 _ _ hx1
    refine ⟨_, rfl, lx, _, 1, .int y1, rfl, rfl, SqL.of hx2, e1, _, _, rfl, rfl, (by show (0 : Int) < 4; decide), d, _, _, _, rfl, rfl, SqL.of upd_same, ecp, _, _, rfl, rfl, (by show (0 : Int) < cp; omega), _, _, rfl, rfl, ?_⟩
    have hp := m0 y0 cp (by omega)
    obtain ⟨p, hpe, hp1, hp2⟩ : ∃ p : Nat, 1 + y0 % cp = (p : Int) ∧ 1 ≤ p ∧ p ≤ 60 := ⟨(1 + y0 % cp).toNat, by omega, by omega, by omega⟩
    refine ⟨by show 0 ≤ sizeLine; decide, fun lb hlb => ?_⟩
    have s3 := (s1.trans s2).trans (same_new (o := .lst []) hlb)
    have hx3 := (same_new (o := .lst []) hlb) _ _ hx2
    have nlb : lx ≠ lb := ne_of_none hx2 hlb
    have h15 := m0 y2 15 (by decide)
    refine ⟨_, rfl, lx, _, 2, .int y2, rfl, rfl, SqL.of hx3, e2, _, _, rfl, rfl, (by show (0 : Int) < 15; decide), _, rfl, by omega, by omega, for_range (lo := 0) (n := (y2 % 15).toNat)
      (fun i σ Hx => Same H Hx ∧ Hx lx = some (.lst (ns.map V.int)) ∧ ∃ (ws : List V) (bs : List (List Nat)) (x4 x5 : Option V), σ = [some (.int c), some (.ref lx), some (.int (p : Nat)), some (.ref lb), x4, x5] ∧ Hx lb = some (.lst ws) ∧ BlAt Hx ws bs ∧ bs.length = i ∧ (∀ b ∈ bs, Blk p b) ∧ ∀ a, V.ref a ∈ ws → a ≠ lb)
      ⟨s3, hx3, [], [], none, none, by rw [← hpe]; rfl, upd_same, trivial, rfl, by simp, by simp⟩ ?_ ?_⟩
    · rintro i σ Hx hi ⟨sx, hxx, ws, bs, x4, x5, rfl, hbx, hB, hlen, hbb, hnl⟩
      have hi14 : i < 15 := by omega
      obtain ⟨z9, e9, p9, r9⟩ := g (5 * i + 9) (by omega)
      obtain ⟨z10, e10, p10, r10⟩ := g (5 * i + 10) (by omega)
      have k6 : (5 * (0 + (i : Int)) + 6) = ((5 * i + 6 : Nat) : Int) := by omega
      have k9 : (5 * (0 + (i : Int)) + 9) = ((5 * i + 9 : Nat) : Int) := by omega
      have k10 : (5 * (0 + (i : Int)) + 10) = ((5 * i + 10 : Nat) : Int) := by omega
      have ez9 : atI (ns.map V.int) (5 * (0 + (i : Int)) + 9) = some (.int z9) := by rw [k9]; exact e9
      have ez10 : atI (ns.map V.int) (5 * (0 + (i : Int)) + 10) = some (.int z10) := by rw [k10]; exact e10
      have cm : CMul 5 (0 + (i : Int)) := .inl ⟨by decide, by decide⟩
      refine ⟨_, rfl, _, rfl, _, _, rfl, rfl, cm, _, _, rfl, rfl, _, rfl, lx, _, rfl, SqL.of hxx, fun u hu => ?_⟩
      have ecut : cutV (ns.map V.int) (some (5 * (0 + (i : Int)) + 6)) none = (ns.drop (5 * i + 6)).map V.int := by
        rw [k6, cut_from (by rw [List.length_map]; omega), List.map_drop]
      rw [ecut]
      have q1 := same_new (o := .lst ((ns.drop (5 * i + 6)).map V.int)) hu
      refine ⟨_, rfl, u, ns.drop (5 * i + 6), p, rfl, SqL.of upd_same, by rw [List.length_drop]; omega, hp2, fun l1 b1 Ha hl1 sa hl1a hb1 => ?_⟩
      have sA : Same Hx Ha := q1.trans sa
      have hxa := sA _ _ hxx
      -- an empty or a full one
      refine ⟨_, rfl, _, rfl, _, _, rfl, rfl, cm, _, _, rfl, rfl, lx, _, _, _, rfl, rfl, SqL.of hxa, ez9, _, _, rfl, rfl, (by show (0 : Int) < 7; decide), rfl, _, rfl, ?_⟩
      refine iteV (fun σ' H' => Same Hx H' ∧ ∃ (ls : Addr) (b : List Nat), σ' = [some (.int c), some (.ref lx), some (.int (p : Nat)), some (.ref lb), some (.int (0 + (i : Int))), some (.ref ls)] ∧ H' ls = some (.lst (nats b)) ∧ Blk p b) ?_ (fun _ go => ?_) (fun _ go => go _ _ ⟨sA, l1, b1, rfl, hl1a, hb1⟩)
      rotate_left
      · refine ⟨by show 0 ≤ sizeLine; decide, fun v1 hv1 => ?_⟩
        have w1 := same_new (o := .lst []) hv1
        refine ⟨_, rfl, ((p : Nat) : Int), rfl, fun v2 hv2 => ⟨v2, p, rfl, upd_same, Nat.le_trans hp2 (by decide), fun v3 hv3 => ?_⟩⟩
        have w2 := same_new (o := .rng 0 ((p : Nat) : Int)) hv2
        have w3 := same_new (o := .lst ((List.range p).map fun p => V.int ((p : Nat) : Int))) hv3
        refine ⟨by show 2 ≤ sizeLine; decide, fun v4 hv4 => ?_⟩
        have w4 := same_new (o := .lst [.ref v1, .ref v3]) hv4
        have w34 := w3.trans w4
        have w14 := w1.trans (w2.trans w34)
        have m2 := m0 z10 2 (by decide)
        refine ⟨_, rfl, _, rfl, _, _, rfl, rfl, cm, _, _, rfl, rfl, lx, _, _, _, rfl, rfl, SqL.of (w14 _ _ hxa), ez10, _, _, rfl, rfl, (by show (0 : Int) < 2; decide), ?_⟩
        rcases (show z10 % 2 = 0 ∨ z10 % 2 = 1 by omega) with e | e
        · exact ⟨v4, _, 0, .ref v1, rfl, congrArg V.int e, SqL.of upd_same, rfl, go _ _ ⟨sA.trans w14, v1, [], rfl, (w2.trans w34) _ _ upd_same, ⟨by simp, by simp⟩⟩⟩
        · exact ⟨v4, _, 1, .ref v3, rfl, congrArg V.int e, SqL.of upd_same, rfl, go _ _ ⟨sA.trans w14, v3, List.range p, rfl, w4 _ _ upd_same, range_blk p⟩⟩
      rintro σ' Hy ⟨sy, ls, b, rfl, hls, hb⟩
      have hxy := sy _ _ hxx
      have hby := sy _ _ hbx
      have hBy := hB.same sy
      refine ⟨_, rfl, _, rfl, _, _, rfl, rfl, cm, _, _, rfl, rfl, lx, _, _, _, rfl, rfl, SqL.of hxy, ez9, _, _, rfl, rfl, (by show (0 : Int) < 7; decide), rfl, _, rfl, ?_⟩
      have fin : ∀ (ls : Addr) (b : List Nat) (Hv : Hp), Same Hx Hv → Hv ls = some (.lst (nats b)) → Blk p b → ∀ (l2 : Addr) (b2 : List Nat) (Hz : Hp), Hv l2 = none → Same Hv Hz → Hz l2 = some (.lst (nats b2)) → b2.Perm b →
          Same H (upd Hz lb (.lst (ws ++ [.ref l2]))) ∧ upd Hz lb (.lst (ws ++ [.ref l2])) lx = some (.lst (ns.map V.int)) ∧ BlAt (upd Hz lb (.lst (ws ++ [.ref l2]))) (ws ++ [.ref l2]) (bs ++ [b2]) ∧ (bs ++ [b2]).length = i + 1 ∧ (∀ b ∈ bs ++ [b2], Blk p b) ∧ (∀ a, V.ref a ∈ ws ++ [.ref l2] → a ≠ lb) ∧ ws.length < sizeLine ∧ Hz lb = some (.lst ws) := by
        intro ls b Hv sv hls hb l2 b2 Hz hl2 sz hl2z pm
        have n2 : lb ≠ l2 := ne_of_none (sv _ _ hbx) hl2
        have sxz := sv.trans sz
        refine ⟨same_upd (sx.trans sxz) ((s1.trans s2).free hlb), by rw [upd_ne nlb]; exact sxz _ _ hxx, ?_, by rw [List.length_append, hlen]; rfl, fun b' hb' => ?_, fun a ha => ?_, ?_, sxz _ _ hbx⟩
        · refine BlAt.snoc (by rw [upd_ne n2.symm]; exact hl2z) ((hB.same sxz).imp fun a xs ha hq => ?_)
          rw [upd_ne (hnl a ha)]
          exact hq
        · rcases List.mem_append.mp hb' with z | z
          · exact hbb b' z
          · rw [List.mem_singleton.mp z]
            exact hb.perm pm
        · rcases List.mem_append.mp ha with z | z
          · exact hnl a z
          · cases List.mem_singleton.mp z
            exact n2.symm
        · rw [hB.len, hlen]
          exact Nat.lt_trans hi14 (by decide)
      by_cases hc : V.int (z9 % 7) = V.int 2
      · refine ifT hc ⟨_, rfl, by show 0 ≤ sizeLine; decide, fun m hm => ?_⟩
        have w1 := same_new (o := .lst []) hm
        refine ⟨dBls bs, .list [], by simp only [dBls, IsD]; exact ⟨lb, _, rfl, SqL.of (w1 _ _ hby), bls_isD (hBy.same w1)⟩, by simp only [IsD]; exact ⟨m, _, rfl, SqL.of upd_same, by simp [IsDs]⟩, shaped_bls bs, rfl, _, rfl, ?_⟩
        show if (!PyData.eqv (dBls bs) (.list [])) = true then _ else _
        by_cases hbe : bs = []
        · rw [show PyData.eqv (dBls bs) (.list []) = true by rw [hbe]; rfl]
          refine iteF ⟨_, rfl, .inl ⟨rfl, _, SqL.of (w1 _ _ hby)⟩, _, rfl, _, rfl, _, rfl, _, _, rfl, rfl, cm, _, _, rfl, rfl, lx, _, _, _, rfl, rfl, SqL.of (w1 _ _ hxy), ez10, ls, b, z10, rfl, w1 _ _ hls, p10, Nat.le_trans hb.len hp2, fun l2 b2 Hz hl2 sz hl2z pm => ?_⟩
          obtain ⟨f1, f2, f3, f4, f5, f6, f7, f8⟩ := fin ls b _ (sy.trans w1) (w1 _ _ hls) hb l2 b2 Hz hl2 sz hl2z pm
          exact ⟨lb, _, _, rfl, rfl, f8, f7, f1, f2, _, _, _, _, rfl, upd_same, f3, f4, f5, f6⟩
        · have hlen0 : 0 < bs.length := by
            cases bs with
            | nil => exact absurd rfl hbe
            | cons y r => exact Nat.succ_pos _
          rw [show PyData.eqv (dBls bs) (.list []) = false by
            cases bs with
            | nil => exact absurd rfl hbe
            | cons y r => simp [dBls, PyData.eqv, PyData.eqvAll]]
          have hwl : ws.length = bs.length := hB.len
          have hm2 := m0 z10 (ws.length : Int) (by omega)
          obtain ⟨j, hje, hjl⟩ : ∃ j : Nat, z10 % (ws.length : Int) = (j : Int) ∧ j < ws.length := ⟨(z10 % (ws.length : Int)).toNat, by omega, by omega⟩
          have hget : ws[j]? = some ws[j] := List.getElem?_eq_getElem hjl
          obtain ⟨ab, bb, eab, hbs, hab⟩ := (hBy.same w1).get hget
          have hbb' : Blk p bb := hbb bb (List.mem_of_getElem? hbs)
          refine iteT ⟨_, rfl, _, rfl, _, rfl, _, _, rfl, rfl, cm, _, _, rfl, rfl, lx, _, _, _, rfl, rfl, SqL.of (w1 _ _ hxy), ez10, _, rfl, lb, _, rfl, .inl (SqL.of (w1 _ _ hby)), _, _, rfl, rfl, by omega, lb, ws, _, .ref ab, rfl, rfl, SqL.of (w1 _ _ hby), by rw [hje]; exact atI_nat (hget.trans (congrArg some eab)), ab, _, rfl, .inl (SqL.of hab), fun l3 hl3 => ?_⟩
          have w2 := same_new (o := .lst (nats bb)) hl3
          have w12 := w1.trans w2
          refine ⟨_, rfl, .inl ⟨rfl, _, SqL.of (w12 _ _ hby)⟩, _, rfl, _, rfl, _, rfl, _, _, rfl, rfl, cm, _, _, rfl, rfl, lx, _, _, _, rfl, rfl, SqL.of (w12 _ _ hxy), ez10, l3, bb, z10, rfl, upd_same, p10, Nat.le_trans hbb'.len hp2, fun l2 b2 Hz hl2 sz hl2z pm => ?_⟩
          obtain ⟨f1, f2, f3, f4, f5, f6, f7, f8⟩ := fin l3 bb _ (sy.trans w12) upd_same hbb' l2 b2 Hz hl2 sz hl2z pm
          exact ⟨lb, _, _, rfl, rfl, f8, f7, f1, f2, _, _, _, _, rfl, upd_same, f3, f4, f5, f6⟩
      · refine ifF hc ⟨_, rfl, .inl ⟨rfl, _, SqL.of hby⟩, _, rfl, _, rfl, _, rfl, _, _, rfl, rfl, cm, _, _, rfl, rfl, lx, _, _, _, rfl, rfl, SqL.of hxy, ez10, ls, b, z10, rfl, hls, p10, Nat.le_trans hb.len hp2, fun l2 b2 Hz hl2 sz hl2z pm => ?_⟩
        obtain ⟨f1, f2, f3, f4, f5, f6, f7, f8⟩ := fin ls b _ sy hls hb l2 b2 Hz hl2 sz hl2z pm
        exact ⟨lb, _, _, rfl, rfl, f8, f7, f1, f2, _, _, _, _, rfl, upd_same, f3, f4, f5, f6⟩
    · rintro σ Hx ⟨sx, hxx, ws, bs, x4, x5, rfl, hbx, hB, hlen, hbb, hnl⟩
      refine ⟨_, rfl, _, rfl, by show 2 ≤ sizeLine; decide, fun t ht => ?_⟩
      have s4 := same_new (o := .tup [.int (p : Nat), .ref lb]) ht
      exact q t lb p ws bs _ ((s1.trans s2).free hlb) (sx.trans s4) upd_same (s4 _ _ hbx) (hB.same s4) hp1 hp2 (by omega) hbb
/-- no number below m -/
def Bad (K : PySem.W.Frag) (H : Hp) (v : V) (m : Int) : Prop := (∃ x, v = .int x ∧ ¬ (0 ≤ x ∧ x < m)) ∨ WholeIs K H v false
def spBelowX (K : PySem.W.Frag) : Sp := fun vs H Q _ => (∃ x m : Int, vs = [.int x, .int m] ∧ 0 ≤ x ∧ x < m ∧ Q (.bl true) H) ∨ ∃ (v : V) (m : Int), vs = [v, .int m] ∧ Bad K H v m ∧ Q (.bl false) H
theorem scIsBelow : FnScope ["thing", "many"] ["thing", "many"] (defScope sIsBelow) := ⟨rfl, rfl, rfl, by decide +kernel, rfl, by decide +kernel, by decide +kernel⟩
theorem ok_belowX {f : Addr} {fd : FuncData} (F : Fun K "is_below" "is_below" sIsBelow f fd) (pWhole : Pm P w K mg base CX0 1 "is_whole" ["thing"] (spWhole K)) : FnOk P w K mg base CX0 2 f fd ["thing", "many"] (spBelowX K) := by
  refine F.okQ scIsBelow (fun vs H Q E h => ?_) (fun cdv A outer s H vs Q E hr1 h => ?_)
  · rcases h with ⟨x, m, rfl, _⟩ | ⟨v, m, rfl, _⟩ <;> rfl
  · refine ⟨_, (qss_one (qs_ret (qe_and (qe_callP pWhole hr1 rfl pass0 (qac (qv 0) qa_nil)) (qe_one (qe_chain op_le op_lt qe_int (qv 0) (qv 1)))))), ?_⟩
    rcases h with ⟨x, m, rfl, h0, h1, q⟩ | ⟨v, m, rfl, hb, q⟩
    · refine ⟨_, rfl, .int x, true, rfl, .int x, true, rfl, iteT ?_⟩
      refine ⟨_, rfl, _, _, rfl, rfl, _, rfl, ifT h0 ?_⟩
      exact ⟨_, rfl, _, _, rfl, rfl, blT h1 q⟩
    · rcases hb with ⟨x, rfl, hx⟩ | hw
      · refine ⟨_, rfl, .int x, true, rfl, .int x, true, rfl, iteT ?_⟩
        refine ⟨_, rfl, _, _, rfl, rfl, _, rfl, ?_⟩
        by_cases h0 : 0 ≤ x
        · exact ifT h0 ⟨_, rfl, _, _, rfl, rfl, blF (by omega) q⟩
        · exact ifF h0 q
      · exact ⟨_, rfl, v, false, rfl, hw, false, rfl, iteF q⟩
theorem scAreUnlikePoints : FnScope ["things", "points"] ["things", "points"] (defScope sAreUnlikePoints) := ⟨rfl, rfl, rfl, by decide +kernel, rfl, by decide +kernel, by decide +kernel⟩
theorem nats_get {b : List Nat} {i : Nat} {v : V} (h : (nats b)[i]? = some v) : ∃ x, b[i]? = some x ∧ v = .int ((x : Nat) : Int) := by
  unfold nats at h
  rw [List.getElem?_map] at h
  cases hq : b[i]? with
  | none => rw [hq] at h; cases h
  | some p => rw [hq] at h; cases h; exact ⟨p, rfl, rfl⟩
theorem nodup_cast {b : List Nat} (h : b.Nodup) : (b.map fun p => ((p : Nat) : Int)).Nodup := by
  rw [List.nodup_iff_pairwise_ne] at h ⊢
  rw [List.pairwise_map]
  exact h.imp fun hn z => hn (by omega)
def spOrder : Sp := fun vs H Q _ => ∃ (a : Addr) (b : List Nat), vs = [.ref a] ∧ H a = some (.lst (nats b)) ∧ b.length ≤ 60 ∧ ∀ (t : Addr) (b' : List Nat) (H' : Hp), H t = none → Same H H' → H' t = some (.tup (nats b')) → b'.Perm b → b'.Pairwise (· ≤ ·) → Q (.ref t) H'
theorem scInOrder : FnScope ["block"] ["block"] (defScope sInOrder) := ⟨rfl, rfl, rfl, by decide +kernel, rfl, by decide +kernel, by decide +kernel⟩
theorem ok_order {f : Addr} {fd : FuncData} (F : Fun K "in_order" "in_order" sInOrder f fd) (T : TxtB mg) : FnOk P w K mg base CX0 1 f fd ["block"] spOrder := by
  refine F.okQ scInOrder (fun vs H Q E h => ?_) (fun cdv A outer s H vs Q E hr h => ?_)
  · obtain ⟨a, b, rfl, _⟩ := h
    rfl
  · obtain ⟨a, b, rfl, ha, hb, q⟩ := h
    refine ⟨_, (qss_one (qs_ret (qe_callTy call_tuple_of (by rfl) T.tup (by decide +kernel) (qac (qe_callB call_sortI (by rfl) T.sor (by decide +kernel) (qac (qv 0) qa_nil)) qa_nil)))), ?_⟩
    refine ⟨_, rfl, a, b.map fun p => ((p : Nat) : Int), rfl, SqL.of (by rw [← nats_ints]; exact ha), by rw [List.length_map]; omega, fun l ns hl hp hs => ?_⟩
    obtain ⟨b', e, hp', hs'⟩ := back_nats hp hs
    rw [e]
    have s1 := same_new (o := .lst (nats b')) hl
    exact ⟨l, _, rfl, .inl ⟨SqL.of upd_same, fun t ht => q t b' _ (s1.free ht) (s1.trans (same_new ht)) upd_same hp' hs'⟩⟩
theorem scIsPointsNumber : FnScope ["thing"] ["thing"] (defScope sIsPointsNumber) := ⟨rfl, rfl, rfl, by decide +kernel, rfl, by decide +kernel, by decide +kernel⟩
/-- a point of so many -/
def belowV (n : Nat) : V → Bool
  | .int x => decide (0 ≤ x ∧ x < (n : Int))
  | _ => false
/-- unlike points, of so many -/
def okB (n : Nat) (xs : List V) : Bool := xs.all (belowV n) && decide xs.Nodup
theorem below_nats {n : Nat} : ∀ {xs : List V}, xs.all (belowV n) = true → ∃ b : List Nat, xs = nats b ∧ ∀ x ∈ b, x < n
  | [], _ => ⟨[], rfl, by simp⟩
  | v :: xs, h => by
    rw [List.all_cons, Bool.and_eq_true] at h
    obtain ⟨b, rfl, hb⟩ := below_nats h.2
    match v, h.1 with
    | .int x, h1 =>
      have h1 : 0 ≤ x ∧ x < (n : Int) := of_decide_eq_true h1
      refine ⟨x.toNat :: b, by unfold nats; rw [List.map_cons, Int.toNat_of_nonneg h1.1], fun y hy => ?_⟩
      rcases List.mem_cons.mp hy with z | z
      · omega
      · exact hb y z
theorem nats_nodup {b : List Nat} : (nats b).Nodup ↔ b.Nodup := by
  unfold nats
  rw [List.nodup_iff_pairwise_ne, List.nodup_iff_pairwise_ne, List.pairwise_map]
  exact ⟨fun h => h.imp fun z e => z (by rw [e]), fun h => h.imp fun z e => z (by injection e with e; omega)⟩
theorem nats_below {n : Nat} {b : List Nat} (h : ∀ x ∈ b, x < n) : (nats b).all (belowV n) = true := by
  unfold nats
  rw [List.all_map, List.all_eq_true]
  intro x hx
  have := h x hx
  show decide (0 ≤ ((x : Nat) : Int) ∧ ((x : Nat) : Int) < (n : Int)) = true
  rw [decide_eq_true]
  omega
theorem okB_iff {n : Nat} {xs : List V} : okB n xs = true ↔ ∃ b : List Nat, xs = nats b ∧ Blk n b := by
  unfold okB
  rw [Bool.and_eq_true]
  constructor
  · rintro ⟨h1, h2⟩
    obtain ⟨b, rfl, hb⟩ := below_nats h1
    exact ⟨b, rfl, nats_nodup.mp (of_decide_eq_true h2), hb⟩
  · rintro ⟨b, rfl, hb⟩
    exact ⟨nats_below hb.lt, decide_eq_true (nats_nodup.mpr hb.nd)⟩
theorem bad_of {K : PySem.W.Frag} {H : Hp} {x : V} {b : Bool} {p : Nat} (h : WholeIs K H x b) (hf : belowV p x = false) : Bad K H x (p : Nat) := by
  cases h with
  | int i => exact .inl ⟨i, rfl, of_decide_eq_false hf⟩
  | bl y => exact .inr (.bl y)
  | odd ty k => exact .inr (.odd ty k)
theorem below_int {n : Nat} {v : V} (h : belowV n v = true) : ∃ x : Int, v = .int x ∧ 0 ≤ x ∧ x < (n : Int) := by
  match v, h with
  | .int x, h => exact ⟨x, rfl, of_decide_eq_true h⟩
def spUnlikeM (K : PySem.W.Frag) : Sp := fun vs H Q _ => ∃ (a : Addr) (xs : List V) (p : Nat), vs = [.ref a, .int (p : Nat)] ∧ H a = some (.lst xs) ∧ (∀ x ∈ xs, ∃ b, WholeIs K H x b) ∧ xs.length ≤ 4000 ∧ ∀ H' : Hp, Same H H' → Q (.bl (okB p xs)) H'
theorem ok_unlikeM {f : Addr} {fd : FuncData} (F : Fun K "are_unlike_points" "are_unlike_points" sAreUnlikePoints f fd) (T : TxtB mg) (pIsBelow : Pm P w K mg base CX0 2 "is_below" ["thing", "many"] (spBelowX K)) : FnOk P w K mg base CX0 3 f fd ["things", "points"] (spUnlikeM K) := by
  refine F.okQ scAreUnlikePoints (fun vs H Q E h => ?_) (fun cdv A outer s H vs Q E hr2 h => ?_)
  · obtain ⟨a, xs, p, rfl, _⟩ := h
    rfl
  · obtain ⟨a, xs, p, rfl, ha, hx, hl, q⟩ := h
    refine ⟨_, (qss_one (qs_ret (qe_and (qe_callB (call_all rfl) (by rfl) T.all (by decide +kernel) (qac (qe_comp (g := gName 0) (N := ["thing", "points"]) (src := [none, some 1]) rfl (comp_scope (defScope sAreUnlikePoints) ["things", "points"] rfl rfl (by decide +kernel) rfl) (qi_list (qv 0)) (fun _ _ _ _ _ => (qg_name (i := 0) (show (["thing", "points"] : List Str).Nodup by decide +kernel) rfl (Or.inl rfl) (Or.inr rfl))) (fun _ _ _ _ _ => qif_nil) (fun _ _ _ _ _ => (qe_callP pIsBelow hr2 rfl pass0 (qac (qv 0) (qac (qv 1) qa_nil))))) qa_nil)) (qe_one (qe_cmpR op_eq (qe_callB call_len_setI (by rfl) T.len PySem.boot_len (qac (qe_callTy (call_setI4 rfl) (by rfl) T.set (by decide +kernel) (qac (qv 0) qa_nil)) qa_nil)) (qe_callB call_len_seq (by rfl) T.len PySem.boot_len (qac (qv 0) qa_nil)) (nomark _)))))), ?_⟩
    have hsl : xs.length ≤ sizeLine := Nat.le_trans hl (by decide)
    refine ⟨_, rfl, a, rfl, ⟨_, SqL.of ha⟩, comp_list (K := K) (xs := xs) (fun i ys H2 => H2 = H ∧ ys = ((xs.take i).map (belowV p)).map V.bl) ⟨rfl, rfl⟩ (fun i ys H2 _ ⟨e, _⟩ => SqL.of (e ▸ ha)) ?_ ?_⟩
    · rintro i v ys H2 N hi ⟨rfl, rfl⟩ nx
      have hil : i < xs.length := (List.getElem?_eq_some_iff.mp hi).1
      have hlt : (((xs.take i).map (belowV p)).map V.bl).length < sizeLine := by
        rw [List.length_map, List.length_map, List.length_take]
        exact Nat.lt_of_lt_of_le (show _ < xs.length by omega) hsl
      have e : ((xs.take (i + 1)).map (belowV p)).map V.bl = ((xs.take i).map (belowV p)).map V.bl ++ [V.bl (belowV p v)] := by
        rw [List.take_add_one, hi, Option.toList_some, List.map_append, List.map_append]
        rfl
      refine ⟨Weak.set (by intro v z; cases z), ⟨_, rfl, _, rfl, ?_⟩⟩
      cases hb : belowV p v with
      | true =>
        obtain ⟨x, rfl, h0, h1⟩ := below_int hb
        exact .inl ⟨x, _, rfl, h0, h1, hlt, nx _ _ ⟨rfl, by rw [e, hb]⟩⟩
      | false =>
        obtain ⟨b, hw⟩ := hx v (List.mem_of_getElem? hi)
        exact .inr ⟨v, _, rfl, bad_of hw hb, hlt, nx _ _ ⟨rfl, by rw [e, hb]⟩⟩
    rintro ys H2 ⟨eH, rfl⟩
    cases eH
    rw [List.take_length]
    refine ⟨by rw [List.length_map, List.length_map]; exact hsl, fun r hr => ?_⟩
    have s1 := same_new (o := .lst ((xs.map (belowV p)).map V.bl)) hr
    have ha1 := s1 _ _ ha
    have ea : ((xs.map (belowV p)).all id) = xs.all (belowV p) := by rw [List.all_map]; rfl
    refine ⟨r, xs.map (belowV p), rfl, SqL.of upd_same, _, rfl, ?_⟩
    rw [ea]
    cases hall : xs.all (belowV p) with
    | false =>
      refine iteF ?_
      have := q _ s1
      unfold okB at this
      rw [hall, Bool.false_and] at this
      exact this
    | true =>
      obtain ⟨b, rfl, hb⟩ := below_nats hall
      refine iteT ?_
      refine ⟨_, rfl, a, b.map fun p => ((p : Nat) : Int), rfl, SqL.of (by rw [← nats_ints]; exact ha1), by rw [List.length_map, ← nats_len]; exact hl, fun l S n hl hn _ => ?_⟩
      have s2 := same_new (o := .set S n) hl
      have hn' : n = (nats b).length ↔ (nats b).Nodup := by
        rw [nats_len, nats_nodup, ← List.length_map (f := fun p : Nat => ((p : Nat) : Int)), hn]
        constructor
        · intro z
          rw [List.nodup_iff_pairwise_ne] at z ⊢
          rw [List.pairwise_map] at z
          exact z.imp fun h e => h (by rw [e])
        · exact nodup_cast
      refine ⟨l, S, n, rfl, upd_same, _, rfl, a, _, rfl, .inl (SqL.of (s2 _ _ ha1)), rfl, ?_⟩
      have := q _ (s1.trans s2)
      unfold okB at this
      rw [hall, Bool.true_and] at this
      by_cases hnd : (nats b).Nodup
      · rw [decide_eq_true hnd] at this
        exact blT (by rw [hn'.mpr hnd]) this
      · rw [decide_eq_false hnd] at this
        exact blF (fun z => hnd (hn'.mp (by injection z with z; omega))) this
/-- a number of points, or none -/
def PnV (K : PySem.W.Frag) (H : Hp) (v : V) : Prop := ∃ b, WholeIs K H v b
def pnB : V → Bool
  | .int x => decide (1 ≤ x ∧ x ≤ 60)
  | _ => false
def spPnX (K : PySem.W.Frag) : Sp := fun vs H Q _ => ∃ v : V, vs = [v] ∧ PnV K H v ∧ Q (.bl (pnB v)) H
theorem ok_pnX {f : Addr} {fd : FuncData} {t60 : Tok} (F : Fun K "is_points_number" "is_points_number" sIsPointsNumber f fd) (m60 : mg "MOST_POINTS" = some (.int 60 t60)) (pWhole : Pm P w K mg base CX0 1 "is_whole" ["thing"] (spWhole K)) : FnOk P w K mg base CX0 2 f fd ["thing"] (spPnX K) := by
  refine F.okQ scIsPointsNumber (fun vs H Q E h => ?_) (fun cdv A outer s H vs Q E hr1 h => ?_)
  · obtain ⟨x, rfl, _⟩ := h
    rfl
  · obtain ⟨v, rfl, ⟨b, hw⟩, q⟩ := h
    refine ⟨_, (qss_one (qs_ret (qe_and (qe_callP pWhole hr1 rfl pass0 (qac (qv 0) qa_nil)) (qe_one (qe_chain op_le op_le qe_int (qv 0) (qe_glob (v := .int 60) rfl m60 ⟨_, rfl⟩)))))), ?_⟩
    refine ⟨_, rfl, v, b, rfl, hw, b, rfl, ?_⟩
    cases hw with
    | int x =>
      refine iteT ⟨_, rfl, _, _, rfl, rfl, _, rfl, ?_⟩
      by_cases h0 : (1 : Int) ≤ x
      · refine ifT h0 ⟨_, _, rfl, rfl, ?_⟩
        by_cases h1 : x ≤ 60
        · have : pnB (.int x) = true := decide_eq_true ⟨h0, h1⟩
          rw [this] at q
          exact blT h1 q
        · have : pnB (.int x) = false := decide_eq_false fun z => h1 z.2
          rw [this] at q
          exact blF h1 q
      · have : pnB (.int x) = false := decide_eq_false fun z => h0 z.1
        rw [this] at q
        exact ifF h0 q
    | bl y => exact iteF q
    | odd ty k =>
      have : pnB v = false := by
        cases v with
        | int x => cases ty; exact absurd k (by rw [kit_int_int]; decide)
        | _ => rfl
      rw [this] at q
      exact iteF q
/-- what a layout is told as -/
structure LayAt (H : Hp) (t : Addr) (p : Nat) (bs : List (List Nat)) : Prop where
  it : ∃ (u : Addr) (vs : List V) (cs : List (List Nat)), H t = some (.tup [.int (p : Nat), .ref u]) ∧ H u = some (.tup vs) ∧ TpAt H vs cs ∧ Srt cs bs
theorem cells_for2 {K : PySem.W.Frag} {a : Addr} {ns : List Int} {H : Hp} {σ : St} {tb : TS} {D : Ends} {hi : Int} {g : TG} (h0 : σ[0]? = some (some (.ref a))) (hS : SqL K H a (ns.map V.int)) (hlen : ns.length ≤ 63) (Sg : St → Prop) (hs0 : Sg σ)
    (turn : ∀ (Hq : Hp), Same H Hq → ∀ (c : Int) (σ' : St) (H2 : Hp), Sg σ' → Same Hq H2 → g (.int c) σ' H2 fun σ2 H3 => tb { D with nx := fun σ4 H4 => Same Hq H4 ∧ Sg σ4, ct := fun σ4 H4 => Same Hq H4 ∧ Sg σ4, bk := D.nx } σ2 H3)
    (done : ∀ σ' H', Sg σ' → D.nx σ' H') :
    tFor (iList K (tOp rCat (tLst (tCons (tCall (spCell2 K) [] E0 (tCons (tVar 0) (tCons (tC (.int 0)) tNil))) tNil)) (tSl (rSlL K) (tVar 0) (tPart (tC (.int 1))) (tPart (tC (.int hi)))))) g tb D σ H := by
  refine ⟨_, h0, a, ns, 0, rfl, hS, by decide, fun z0 H0 s0 => ⟨by show 1 ≤ sizeLine; decide, fun l hl => ?_⟩⟩
  have s1 := same_new (o := .lst [.int z0]) hl
  refine ⟨_, h0, _, rfl, _, rfl, a, _, rfl, (s0.trans s1).seq hS, fun b hb => ?_⟩
  have s2 := s1.trans (same_new (o := .lst (cutV (ns.map V.int) (some 1) (some hi))) hb)
  have hlb : (upd (upd H0 l (.lst [.int z0])) b (.lst (cutV (ns.map V.int) (some 1) (some hi)))) l = some (.lst [.int z0]) := by
    rw [upd_ne (ne_of_none upd_same hb)]
    exact upd_same
  have hcl : (cutV (ns.map V.int) (some 1) (some hi)).length ≤ 63 := Nat.le_trans (cutV_length _ _ _) (by rw [List.length_map]; exact hlen)
  refine ⟨l, b, _, _, rfl, rfl, hlb, upd_same, Nat.le_trans (show 1 + _ ≤ 64 from by omega) (by decide), fun q hq => ?_⟩
  have s3 := s2.trans (same_new (o := .lst ([.int z0] ++ cutV (ns.map V.int) (some 1) (some hi))) hq)
  refine ⟨q, rfl, ⟨_, SqL.of upd_same⟩, for_list (K := K) (a := q) (xs := [.int z0] ++ cutV (ns.map V.int) (some 1) (some hi))
    (fun i σ' H2 => Same (upd (upd (upd H0 l (.lst [.int z0])) b (.lst (cutV (ns.map V.int) (some 1) (some hi)))) q (.lst ([.int z0] ++ cutV (ns.map V.int) (some 1) (some hi)))) H2 ∧ Sg σ')
    ⟨Same.refl _, hs0⟩ (fun i σ' H2 _ ⟨s4, _⟩ => SqL.of (s4 _ _ upd_same)) ?_ ?_⟩
  · rintro i y σ' H2 hi' ⟨s4, hsg⟩
    obtain ⟨c, rfl⟩ : ∃ c, y = V.int c := by
      rcases List.mem_append.mp (List.mem_of_getElem? hi') with z | z
      · exact ⟨z0, List.mem_singleton.mp z⟩
      · exact cut_ints y z
    exact turn _ (s0.trans s3) c σ' H2 hsg s4
  · rintro σ' H2 ⟨_, hsg⟩
    exact done σ' H2 hsg

/-! ### texts as lists of signs -/
abbrev L (s : Str) : List Nat := s.cps.toList
theorem L_len (s : Str) : (L s).length = s.length := by simp [L, Str.length]
theorem L_app (a b : Str) : L (a ++ b) = L a ++ L b := by
  unfold L
  rw [Str.cps_append, Array.toList_append]
theorem jl_sub {c : Nat} {l : List Nat} : ∀ {ls : List (List Nat)}, l ∈ ls → l.Sublist (jl c ls)
  | [x], h => by
    cases List.mem_singleton.mp h
    exact List.Sublist.refl _
  | x :: y :: r, h => by
    show l.Sublist (x ++ c :: jl c (y :: r))
    rcases List.mem_cons.mp h with rfl | h
    · exact List.sublist_append_left ..
    · exact (jl_sub h).trans ((List.sublist_cons_self ..).trans (List.sublist_append_right ..))
theorem split_jl (z : Str) (c : Nat) : jl c ((Txt.split z ⟨#[c]⟩).map L) = L z := by
  rw [← join_jl, StrLaws.join_split]
theorem split_sub {z : Str} {c : Nat} {p : Str} (h : p ∈ Txt.split z ⟨#[c]⟩) : (L p).Sublist (L z) := by
  rw [← split_jl z c]
  exact jl_sub (List.mem_map.mpr ⟨p, h, rfl⟩)
theorem jl_len {c : Nat} : ∀ {ls : List (List Nat)}, ls ≠ [] → (jl c ls).length + 1 = (ls.map List.length).sum + ls.length
  | [x], _ => by simp [jl]
  | x :: y :: r, _ => by
    have ih := jl_len (c := c) (ls := y :: r) (by simp)
    show (x ++ c :: jl c (y :: r)).length + 1 = _
    rw [List.length_append, List.length_cons, List.map_cons, List.sum_cons, List.length_cons]
    omega
theorem jl_count {c x : Nat} (hx : x ≠ c) : ∀ {ls : List (List Nat)}, (jl c ls).count x = (ls.map (List.count x)).sum
  | [] => rfl
  | [l] => by simp [jl]
  | l :: y :: r => by
    have ih := jl_count (c := c) hx (ls := y :: r)
    show (l ++ c :: jl c (y :: r)).count x = _
    rw [List.count_append, List.count_cons_of_ne (fun e => hx e.symm), ih]
    simp
theorem jl_self {c : Nat} : ∀ {ls : List (List Nat)}, ls ≠ [] → (jl c ls).count c + 1 = (ls.map (List.count c)).sum + ls.length
  | [l], _ => by simp [jl]
  | l :: y :: r, _ => by
    have ih := jl_self (c := c) (ls := y :: r) (by simp)
    show (l ++ c :: jl c (y :: r)).count c + 1 = _
    rw [List.count_append, List.count_cons_self, List.map_cons, List.sum_cons, List.length_cons]
    omega
theorem split_len (z : Str) (c : Nat) : (Txt.split z ⟨#[c]⟩).length = (L z).count c + 1 := by
  have h := jl_self (c := c) (ls := (Txt.split z ⟨#[c]⟩).map L) (by simpa using split_ne _ _)
  rw [split_jl, List.length_map, List.map_map] at h
  have h0 : ((Txt.split z ⟨#[c]⟩).map (List.count c ∘ L)).sum = 0 := by
    have : ∀ (l : List Nat), (∀ x ∈ l, x = 0) → l.sum = 0 := fun l => by
      induction l with
      | nil => intro _; rfl
      | cons a l ih => intro h; rw [List.sum_cons, h a (List.mem_cons_self ..), ih fun x hx => h x (List.mem_cons_of_mem _ hx)]
    refine this _ fun x hx => ?_
    obtain ⟨p, hp, rfl⟩ := List.mem_map.mp hx
    exact List.count_eq_zero.mpr (split_free z c p hp)
  omega
theorem split_len_le (z : Str) (c : Nat) : (Txt.split z ⟨#[c]⟩).length ≤ z.length + 1 := by
  rw [split_len]
  have := List.count_le_length (a := c) (l := L z)
  rw [L_len] at this
  omega
/-- signs and blanks of words -/
def tot (ts : List Str) : Nat := (ts.map Str.length).sum + ts.length
theorem tot_split (z : Str) (c : Nat) : tot (Txt.split z ⟨#[c]⟩) = z.length + 1 := by
  have h := jl_len (c := c) (ls := (Txt.split z ⟨#[c]⟩).map L) (by simpa using split_ne _ _)
  rw [split_jl, L_len, List.length_map, List.map_map] at h
  unfold tot
  rw [show (Txt.split z ⟨#[c]⟩).map Str.length = (Txt.split z ⟨#[c]⟩).map (List.length ∘ L) from List.map_congr_left fun x _ => (L_len x).symm]
  omega
theorem tot_app (a b : List Str) : tot (a ++ b) = tot a + tot b := by
  unfold tot
  rw [List.map_append, List.sum_append, List.length_append]
  omega
theorem tot_one (a : Str) : tot [a] = a.length + 1 := by simp [tot]
theorem joinOk_tot {c : Nat} {ts : List Str} (h : tot ts ≤ 1000000) : JoinOk ⟨#[c]⟩ ts = true := by
  have key : ∀ (ts : List Str) (n : Nat), ts.foldl (· + ·.length + (⟨#[c]⟩ : Str).length) n = n + tot ts := fun ts => by
    induction ts with
    | nil => intro n; rfl
    | cons t ts ih =>
      intro n
      rw [List.foldl_cons, ih]
      have : tot (t :: ts) = t.length + 1 + tot ts := by
        rw [show t :: ts = [t] ++ ts from rfl, tot_app, tot_one]
      rw [this]
      show n + t.length + 1 + tot ts = _
      omega
  unfold JoinOk Builtin.Str.tooLong
  rw [List.foldl_toArray, key]
  have h3 : ¬ (0 + tot ts > sizeLine) := by
    rw [sizeLine_eq]
    omega
  rw [decide_eq_false h3]
  rfl
theorem join_tot {c : Nat} {ts : List Str} : (Str.join ⟨#[c]⟩ ts).length ≤ tot ts := by
  cases ts with
  | nil => exact Nat.zero_le _
  | cons t ts =>
    have h := jl_len (c := c) (ls := (t :: ts).map L) (by simp)
    rw [← join_jl, List.length_map, List.map_map] at h
    have h2 : (Str.join ⟨#[c]⟩ (t :: ts)).cps.toList.length = (Str.join ⟨#[c]⟩ (t :: ts)).length := L_len _
    rw [h2] at h
    unfold tot
    rw [show (t :: ts).map Str.length = (t :: ts).map (List.length ∘ L) from List.map_congr_left fun x _ => (L_len x).symm]
    omega
theorem slice_to (z : Str) : L (Txt.slice z none (some (-1))) = (L z).dropLast := by
  by_cases h0 : z.length = 0
  · have e : z = Str.empty := Str.ext' (Array.size_eq_zero_iff.mp (by simpa [Str.length] using h0))
    subst e
    rfl
  have hl : Builtin.Str.strSliceIndices none (some (-1)) 1 z.length = Builtin.Str.strSliceIndices (some ((0 : Nat) : Int)) (some ((z.length - 1 : Nat) : Int)) 1 z.length := by
    rw [StrLaws.sliceIdx_none_lo, StrLaws.sliceIdx_neg_hi _ _ (by omega) (by omega), show (-1 : Int) + (z.length : Int) = ((z.length - 1 : Nat) : Int) by omega]
    rfl
  have e2 := StrLaws.sliced_plain z (a := 0) (b := z.length - 1) (by omega) (by omega)
  have e3 : (Builtin.Str.strSliceIndices none (some (-1)) 1 z.length).length = z.length - 1 := by
    rw [hl, StrLaws.strSliceIndices_plain (by omega) (by omega), List.length_map, List.length_range]
    omega
  unfold Txt.slice
  rw [if_neg (by simp [e3]; omega), hl]
  show (List.toArray _).toList = _
  rw [e2, List.drop_zero, Nat.sub_zero, List.dropLast_eq_take, L_len]
theorem slice_last (z : Str) : L (Txt.slice z (some (-1)) none) = (L z).drop (z.length - 1) := by
  by_cases h0 : z.length = 0
  · have e : z = Str.empty := Str.ext' (Array.size_eq_zero_iff.mp (by simpa [Str.length] using h0))
    subst e
    rfl
  have hl : Builtin.Str.strSliceIndices (some (-1)) none 1 z.length = Builtin.Str.strSliceIndices (some ((z.length - 1 : Nat) : Int)) (some ((z.length : Nat) : Int)) 1 z.length := by
    rw [StrLaws.sliceIdx_none_hi, StrLaws.sliceIdx_neg_lo _ _ (by omega) (by omega), show (-1 : Int) + (z.length : Int) = ((z.length - 1 : Nat) : Int) by omega]
  have e2 := StrLaws.sliced_plain z (a := z.length - 1) (b := z.length) (by omega) (by omega)
  have e3 : (Builtin.Str.strSliceIndices (some (-1)) none 1 z.length).length = 1 := by
    rw [hl, StrLaws.strSliceIndices_plain (by omega) (by omega), List.length_map, List.length_range]
    omega
  unfold Txt.slice
  by_cases h1 : z.length = 1
  · rw [if_pos (by rw [e3, h1]; rfl), h1]
    rfl
  · rw [if_neg (by simp [e3]; omega), hl]
    show (List.toArray _).toList = _
    rw [e2, List.take_of_length_le (by rw [List.length_drop, L_len]; omega)]
theorem slice_from (z : Str) : L (Txt.slice z (some 1) none) = (L z).drop 1 := by
  by_cases h0 : z.length = 0
  · have e : z = Str.empty := Str.ext' (Array.size_eq_zero_iff.mp (by simpa [Str.length] using h0))
    subst e
    rfl
  have hl : Builtin.Str.strSliceIndices (some 1) none 1 z.length = Builtin.Str.strSliceIndices (some ((1 : Nat) : Int)) (some ((z.length : Nat) : Int)) 1 z.length := by
    rw [StrLaws.sliceIdx_none_hi]
    rfl
  have e2 := StrLaws.sliced_plain z (a := 1) (b := z.length) (by omega) (by omega)
  have e3 : (Builtin.Str.strSliceIndices (some 1) none 1 z.length).length = z.length - 1 := by
    rw [hl, StrLaws.strSliceIndices_plain (by omega) (by omega), List.length_map, List.length_range]
  unfold Txt.slice
  rw [if_neg (by simp [e3]; omega), hl]
  show (List.toArray _).toList = _
  rw [e2, List.take_of_length_le (by rw [List.length_drop, L_len]; omega)]
/-! ### numbers in figures -/
def NumL (l : List Nat) : Prop := 1 ≤ l.length ∧ l.length ≤ 4 ∧ (∀ c ∈ l, 48 ≤ c ∧ c ≤ 57) ∧ (l = [48] ∨ l.head? ≠ some 48)
instance numLD (l : List Nat) : Decidable (NumL l) := by unfold NumL; infer_instance
def valL (l : List Nat) : Nat := l.foldl (fun a c => 10 * a + (c - 48)) 0
theorem val1 : ∀ a : Fin 10, (Nat.toDigits 10 a.val).map Char.toNat = [48 + a.val] := by decide +kernel
theorem val2 : ∀ a b : Fin 10, a.val ≠ 0 → (Nat.toDigits 10 (10 * a.val + b.val)).map Char.toNat = [48 + a.val, 48 + b.val] := by decide +kernel
theorem val3 : ∀ a b c : Fin 10, a.val ≠ 0 → (Nat.toDigits 10 (10 * (10 * a.val + b.val) + c.val)).map Char.toNat = [48 + a.val, 48 + b.val, 48 + c.val] := by decide +kernel
theorem val4 : ∀ a b c d : Fin 10, a.val ≠ 0 → (Nat.toDigits 10 (10 * (10 * (10 * a.val + b.val) + c.val) + d.val)).map Char.toNat = [48 + a.val, 48 + b.val, 48 + c.val, 48 + d.val] := by decide +kernel
theorem num_signs {l : List Nat} (h : NumL l) : (Nat.toDigits 10 (valL l)).map Char.toNat = l ∧ valL l < 10000 := by
  obtain ⟨h1, h4, hd, hz⟩ := h
  have fig : ∀ c, c ∈ l → ∃ a : Fin 10, c = 48 + a.val := fun c hc => ⟨⟨c - 48, by have := hd c hc; omega⟩, by have := hd c hc; show c = 48 + (c - 48); omega⟩
  match l, h1, h4, fig, hz with
  | [x], _, _, fig, _ =>
    obtain ⟨a, rfl⟩ := fig x (by simp)
    have e : valL [48 + a.val] = a.val := by simp [valL]
    rw [e]
    exact ⟨val1 a, by omega⟩
  | [x, y], _, _, fig, hz =>
    obtain ⟨a, rfl⟩ := fig x (by simp)
    obtain ⟨b, rfl⟩ := fig y (by simp)
    have ha : a.val ≠ 0 := fun z => by simp [z] at hz
    have e : valL [48 + a.val, 48 + b.val] = 10 * a.val + b.val := by simp [valL]
    rw [e]
    exact ⟨val2 a b ha, by omega⟩
  | [x, y, z], _, _, fig, hz =>
    obtain ⟨a, rfl⟩ := fig x (by simp)
    obtain ⟨b, rfl⟩ := fig y (by simp)
    obtain ⟨c, rfl⟩ := fig z (by simp)
    have ha : a.val ≠ 0 := fun z => by simp [z] at hz
    have e : valL [48 + a.val, 48 + b.val, 48 + c.val] = 10 * (10 * a.val + b.val) + c.val := by simp [valL]
    rw [e]
    exact ⟨val3 a b c ha, by omega⟩
  | [x, y, z, w], _, _, fig, hz =>
    obtain ⟨a, rfl⟩ := fig x (by simp)
    obtain ⟨b, rfl⟩ := fig y (by simp)
    obtain ⟨c, rfl⟩ := fig z (by simp)
    obtain ⟨d, rfl⟩ := fig w (by simp)
    have ha : a.val ≠ 0 := fun z => by simp [z] at hz
    have e : valL [48 + a.val, 48 + b.val, 48 + c.val, 48 + d.val] = 10 * (10 * (10 * a.val + b.val) + c.val) + d.val := by simp [valL]
    rw [e]
    exact ⟨val4 a b c d ha, by omega⟩
theorem num_dec {s : Str} (h : NumL (L s)) : s = dec (valL (L s)) ∧ valL (L s) < 10000 := by
  obtain ⟨h1, h2⟩ := num_signs h
  exact ⟨signs_inj (by rw [dec_signs, h1]), h2⟩
/-- a word of a block -/
def brd (s : Str) : Option (List Nat) := if s = Str.ofString "-" then some [] else if ∀ p ∈ Txt.split s (Str.ofString "."), NumL (L p) then some ((Txt.split s (Str.ofString ".")).map fun p => valL (L p)) else none
/-- what a text writes, where all its words have their form -/
def Rd (s : Str) (p : Nat) (bs : List (List Nat)) : Prop := ∃ (h : Str) (ws : List Str), NumL (L h) ∧ p = valL (L h) ∧ Txt.split s (Str.ofString " ") = (h ++ Str.ofString ":") :: ws ∧ ws.map brd = bs.map some
theorem rd_un {s : Str} {p p' : Nat} {bs bs' : List (List Nat)} (h : Rd s p bs) (h' : Rd s p' bs') : p = p' ∧ bs = bs' := by
  obtain ⟨a, ws, _, rfl, e2, e3⟩ := h
  obtain ⟨a', ws', _, rfl, e2', e3'⟩ := h'
  rw [e2] at e2'
  injection e2' with f1 f2
  subst f2
  have : L a = L a' := by
    have := congrArg L f1
    rw [L_app, L_app] at this
    exact List.append_cancel_right this
  rw [this]
  rw [e3] at e3'
  exact ⟨rfl, (List.map_inj_right fun _ _ h => Option.some.inj h).mp e3'⟩
theorem num_free {l : List Nat} (h : NumL l) {c : Nat} (hc : c < 48 ∨ 57 < c) : c ∉ l := fun hm => by
  have := h.2.2.1 c hm
  omega
/-- a text with a number, a colon and a tail -/
theorem split_head {h r : Str} (hn : NumL (L h)) : Txt.split (h ++ Str.ofString ":" ++ (Str.ofString " " ++ r)) (Str.ofString " ") = (h ++ Str.ofString ":") :: Txt.split r (Str.ofString " ") := by
  rw [sp_eq]
  have hj : h ++ Str.ofString ":" ++ (⟨#[32]⟩ ++ r) = Str.join ⟨#[32]⟩ ((h ++ Str.ofString ":") :: Txt.split r ⟨#[32]⟩) := by
    apply signs_inj
    rw [join_jl]
    cases e : Txt.split r ⟨#[32]⟩ with
    | nil => exact absurd e (split_ne _ _)
    | cons x y =>
      show L _ = L (h ++ Str.ofString ":") ++ 32 :: jl 32 ((x :: y).map L)
      rw [← e, split_jl, L_app, L_app, L_app]
      simp [L]
  rw [hj]
  refine split_join (by simp) fun w hw => ?_
  rcases List.mem_cons.mp hw with rfl | hw
  · show 32 ∉ L _
    rw [L_app, colon_eq]
    simp only [List.mem_append, not_or]
    exact ⟨num_free hn (by omega), by simp⟩
  · exact split_free r 32 w hw
theorem split_alone {h : Str} (hn : NumL (L h)) : Txt.split (h ++ Str.ofString ":") (Str.ofString " ") = [h ++ Str.ofString ":"] := by
  rw [sp_eq]
  have : h ++ Str.ofString ":" = Str.join ⟨#[32]⟩ [h ++ Str.ofString ":"] := rfl
  conv => lhs; rw [this]
  refine split_join (by simp) fun w hw => ?_
  cases List.mem_singleton.mp hw
  show 32 ∉ L _
  rw [L_app, colon_eq]
  simp only [List.mem_append, not_or]
  exact ⟨num_free hn (by omega), by simp⟩
/-- from its words back to the text -/
theorem rd_text {s : Str} {h : Str} {ws : List Str} (e : Txt.split s (Str.ofString " ") = (h ++ Str.ofString ":") :: ws) : (ws = [] ∧ s = h ++ Str.ofString ":") ∨ (ws ≠ [] ∧ s = h ++ Str.ofString ":" ++ (Str.ofString " " ++ Str.join (Str.ofString " ") ws)) := by
  rw [sp_eq] at e ⊢
  have hs := split_jl s 32
  rw [e] at hs
  cases ws with
  | nil => exact .inl ⟨rfl, signs_inj hs.symm⟩
  | cons x y =>
    refine .inr ⟨by simp, signs_inj ?_⟩
    show L s = L _
    rw [← hs, L_app, L_app, L_app]
    show L (h ++ Str.ofString ":") ++ 32 :: jl 32 ((x :: y).map L) = _
    rw [L_app, ← join_jl]
    simp [L]
theorem part_cases (s : Str) : (58 ∉ L s ∧ Txt.partition s (Str.ofString ":") = (s, Str.empty, Str.empty)) ∨ ∃ h r : Str, 58 ∉ L h ∧ s = h ++ Str.ofString ":" ++ r ∧ Txt.partition s (Str.ofString ":") = (h, Str.ofString ":", r) := by
  by_cases hm : 58 ∈ L s
  · obtain ⟨a, b, e, hna⟩ := List.eq_append_cons_of_mem hm
    refine .inr ⟨⟨a.toArray⟩, ⟨b.toArray⟩, by simpa [L] using hna, ?_, ?_⟩
    · rw [colon_eq]
      exact signs_inj (by show L s = L _; rw [L_app, L_app, e]; simp [L])
    · rw [colon_eq]
      have es : s = (⟨a.toArray⟩ : Str) ++ ⟨#[58]⟩ ++ ⟨b.toArray⟩ := signs_inj (by show L s = L _; rw [L_app, L_app, e]; simp [L])
      conv => lhs; rw [es]
      exact part_at (by simpa [L] using hna)
  · refine .inl ⟨hm, ?_⟩
    rw [colon_eq]
    rcases StrLaws.occ_head s ⟨#[58]⟩ 1 (Nat.le_refl _) with ⟨e, _⟩ | ⟨i, q, e, hA, hb⟩
    · unfold Txt.partition
      rw [e]
    · exact absurd (List.mem_of_getElem? ((StrLaws.subAt_one _ 58 _).mp hA)) hm
/-- a text's parts by the colon, where it has its form -/
theorem rd_parts {s h r : Str} (h58 : 58 ∉ L h) (hs : s = h ++ Str.ofString ":" ++ r) {p : Nat} {bs : List (List Nat)} (hR : Rd s p bs) : NumL (L h) ∧ p = valL (L h) ∧ ((r = Str.empty ∧ bs = []) ∨ ∃ r', r = Str.ofString " " ++ r' ∧ (Txt.split r' (Str.ofString " ")).map brd = bs.map some) := by
  obtain ⟨h0, ws, hn, rfl, e2, e3⟩ := hR
  have key : ∀ r0 : Str, s = h0 ++ Str.ofString ":" ++ r0 → L h = L h0 ∧ L r = L r0 := fun r0 e => by
    have e4 := congrArg L (hs.symm.trans e)
    rw [L_app, L_app, L_app, L_app, colon_eq] at e4
    have e5 : L h ++ 58 :: L r = L h0 ++ 58 :: L r0 := by simpa [L] using e4
    exact cut_uniq h58 (num_free hn (by omega)) e5
  rcases rd_text e2 with ⟨rfl, e⟩ | ⟨hw, e⟩
  · obtain ⟨k1, k2⟩ := key Str.empty (by rw [e]; exact signs_inj (by show L _ = L _; rw [L_app (h0 ++ Str.ofString ":")]; simp [L, Str.empty]))
    rw [k1]
    refine ⟨hn, rfl, .inl ⟨signs_inj k2, ?_⟩⟩
    cases bs with
    | nil => rfl
    | cons x y => cases e3
  · obtain ⟨k1, k2⟩ := key _ e
    rw [k1]
    refine ⟨hn, rfl, .inr ⟨Str.join (Str.ofString " ") ws, signs_inj k2, ?_⟩⟩
    have hf : ∀ w ∈ ws, 32 ∉ w.cps.toList := fun w hw' => by
      have := split_free s 32 w (by rw [← sp_eq, e2]; exact List.mem_cons_of_mem _ hw')
      exact this
    rw [sp_eq, split_join hw hf]
    exact e3
theorem rd_of_nil {s h : Str} (hn : NumL (L h)) (hs : s = h ++ Str.ofString ":" ++ Str.empty) : Rd s (valL (L h)) [] := by
  refine ⟨h, [], hn, rfl, ?_, rfl⟩
  have : s = h ++ Str.ofString ":" := by
    rw [hs]
    exact signs_inj (by show L _ = L _; rw [L_app (h ++ Str.ofString ":")]; simp [L, Str.empty])
  rw [this]
  exact split_alone hn
theorem rd_of_words {s h r : Str} {bs : List (List Nat)} (hn : NumL (L h)) (hs : s = h ++ Str.ofString ":" ++ (Str.ofString " " ++ r)) (hb : (Txt.split r (Str.ofString " ")).map brd = bs.map some) : Rd s (valL (L h)) bs :=
  ⟨h, _, hn, rfl, by rw [hs]; exact split_head hn, hb⟩
theorem rd_no_colon {s : Str} (h : 58 ∉ L s) {p : Nat} {bs : List (List Nat)} : ¬Rd s p bs := by
  rintro ⟨h0, ws, hn, rfl, e2, e3⟩
  refine h ?_
  rcases rd_text e2 with ⟨_, e⟩ | ⟨_, e⟩
  · rw [e, L_app, colon_eq]
    simp [L]
  · rw [e, L_app, L_app, colon_eq]
    simp [L]
/-! ### the program's reading -/
theorem cstr_mk {K : PySem.W.Frag} {x z : Str} {t : Tok} (h : PySem.W.nsIn K mainGlobals x = some (some (.str z t))) : ∃ t, PySem.W.nsIn K mainGlobals x = some (some (.str z t)) := ⟨t, h⟩
theorem cint_mk {K : PySem.W.Frag} {x : Str} {n : Int} {t : Tok} (h : PySem.W.nsIn K mainGlobals x = some (some (.int n t))) : ∃ t, PySem.W.nsIn K mainGlobals x = some (some (.int n t)) := ⟨t, h⟩
def figB (c : Nat) : Bool := decide (48 ≤ c ∧ c ≤ 57)
theorem in_figB (c : Nat) : (!(Builtin.Str.occurrences (Str.ofString "0123456789") ⟨#[c]⟩ 0 (Str.ofString "0123456789").length 1).isEmpty) = figB c := by
  rw [StrLaws.found_one, figs_eq]
  unfold figB
  apply decide_eq_decide.mpr
  simp
  omega
/-- signs below 128 -/
def Asc (s : Str) : Prop := ∀ c ∈ L s, c < 128
theorem Asc.all {s : Str} (h : Asc s) : s.cps.all (· < 128) = true := by
  rw [Array.all_eq_true_iff_forall_mem]
  intro c hc
  exact decide_eq_true (h c (Array.mem_toList_iff.mpr hc))
theorem figs_all {l : List Nat} : (l.map figB).all id = true ↔ ∀ c ∈ l, 48 ≤ c ∧ c ≤ 57 := by
  rw [List.all_map, List.all_eq_true]
  exact ⟨fun h c hc => of_decide_eq_true (h c hc), fun h c hc => decide_eq_true (h c hc)⟩
def spIsNumG : Sp := fun vs H Q _ => ∃ s : Str, vs = [.str s, .int 4] ∧ Asc s ∧ s.length ≤ 1000000 ∧ ∀ H' : Hp, Same H H' → Q (.bl (decide (NumL (L s)))) H'
theorem scIsNumber : FnScope ["word", "most_figures"] ["word", "most_figures"] (defScope sIsNumber) := ⟨rfl, rfl, rfl, by decide +kernel, rfl, by decide +kernel, by decide +kernel⟩
theorem ok_isnumG {f : Addr} {fd : FuncData} {tF : Tok} (F : Fun K "is_number" "is_number" sIsNumber f fd) (T : TxtB mg) (mF : mg "FIGURES" = some (.str "0123456789" tF)) : FnOk P w K mg base CX0 1 f fd ["word", "most_figures"] spIsNumG := by
  refine F.okQ scIsNumber (fun vs H Q E h => ?_) (fun cdv A outer s H vs Q E hr h => ?_)
  · obtain ⟨z, rfl, _⟩ := h
    rfl
  · obtain ⟨z, rfl, ha, hz0, q⟩ := h
    have hz : z.length ≤ sizeLine := Nat.le_trans hz0 (by decide)
    have hll := L_len z
    refine ⟨_, (qss_cons (qs_if (QW.pt (qw_or (qt_cmpR op_lt (qe_callB call_len_str (by rfl) T.len PySem.boot_len (qac (qv 0) qa_nil)) qe_int (nomark _)) (qw_or (qt_cmpR op_gt (qe_callB call_len_str (by rfl) T.len PySem.boot_len (qac (qv 0) qa_nil)) (qv 1) (nomark _)) (qw_or1 (qt_not (qt_val (qe_callB (call_all rfl) (by rfl) T.all (by decide +kernel) (qac (qe_comp (g := gName 0) (N := ["sign"]) (src := [none]) rfl (comp_scope (defScope sIsNumber) ["word", "most_figures"] rfl rfl (by decide +kernel) rfl) (qi_str (qv 0)) (fun _ _ _ _ _ => (qg_name (i := 0) (show (["sign"] : List Str).Nodup by decide +kernel) rfl (Or.inl rfl) (Or.inr rfl))) (fun _ _ _ _ _ => qif_nil) (fun _ _ _ _ _ => (qe_cmpR op_in_str (qv 0) (qe_glob (v := .str "0123456789") rfl mF ⟨_, rfl⟩) rfl))) qa_nil)))))))) (qss_one (qs_ret qe_bl)) qss_nil)
      (qss_one (qs_ret (qe_or (qe_cmpR op_eq (qv 0) qe_str (nomark _)) (qe_one (qe_cmpR op_ne (qe_ix ix_str (qv 0) qe_int (fun _ _ => rfl)) qe_str (nomark _))))))), ?_⟩
    have no : ∀ {H' : Hp}, Same H H' → ¬NumL (L z) → Q (.bl false) H' := fun s' hn => by
      have := q _ s'
      rwa [decide_eq_false hn] at this
    refine ⟨_, rfl, z, rfl, hz, _, _, rfl, rfl, _, rfl, ?_⟩
    by_cases h1 : ((z.length : Nat) : Int) < 1
    · exact ifT h1 (iteT (no (Same.refl _) fun hn => by have := hn.1; omega))
    refine ifF h1 ?_
    refine ⟨_, rfl, z, rfl, hz, _, rfl, _, _, rfl, rfl, _, rfl, ?_⟩
    by_cases h4 : ((z.length : Nat) : Int) > 4
    · exact ifT h4 (iteT (no (Same.refl _) fun hn => by have := hn.2.1; omega))
    refine ifF h4 ?_
    refine ⟨_, rfl, z, rfl, ha.all, comp_str (fun i ys H2 => H2 = H ∧ ys = (((L z).take i).map figB).map V.bl) ⟨rfl, rfl⟩ ?_ ?_⟩
    · rintro i c ys H2 N hi ⟨rfl, rfl⟩ nx
      have hiL : (L z)[i]? = some c := by rw [← hi]; simp [L]
      refine ⟨Weak.set (by intro v z; cases z), ⟨_, rfl, _, _, rfl, rfl, ?_⟩⟩
      rw [in_figB]
      refine ⟨?_, nx _ _ ⟨rfl, ?_⟩⟩
      · rw [List.length_map, List.length_map, List.length_take]
        exact Nat.lt_of_le_of_lt (show min i (L z).length ≤ 4 by omega) (by decide)
      · rw [List.take_add_one, hiL, Option.toList_some, List.map_append, List.map_append]
        rfl
    rintro ys H2 ⟨eH, rfl⟩
    cases eH
    rw [show z.length = (L z).length from hll.symm, List.take_length]
    refine ⟨by rw [List.length_map, List.length_map, hll]; exact hz, fun r hr => ?_⟩
    have s1 := same_new (o := .lst (((L z).map figB).map V.bl)) hr
    refine ⟨r, (L z).map figB, rfl, SqL.of upd_same, ?_⟩
    by_cases hf : ∀ c ∈ L z, 48 ≤ c ∧ c ≤ 57
    rotate_left
    · refine ⟨false, by rw [Bool.eq_false_iff.mpr (fun e => hf (figs_all.mp e))], iteT (no s1 fun hn => hf hn.2.2.1)⟩
    refine ⟨true, by rw [figs_all.mpr hf], iteF ?_⟩
    have hnum : ∀ b : Bool, (b = true ↔ (L z = [48] ∨ (L z).head? ≠ some 48)) → Q (.bl b) (L2.upd H r (.lst (((L z).map figB).map V.bl))) := fun b hb => by
      have := q _ s1
      have e : decide (NumL (L z)) = b := by
        rw [Bool.eq_iff_iff, hb, decide_eq_true_iff]
        exact ⟨fun h => h.2.2.2, fun h => ⟨by omega, by omega, hf, h⟩⟩
      rwa [e] at this
    by_cases h0 : V.str z = V.str (Str.ofString "0")
    · refine ⟨_, rfl, rfl, true, congrArg V.bl (decide_eq_true h0), iteT (hnum true ⟨fun _ => .inl ?_, fun _ => rfl⟩)⟩
      injection h0 with h0
      rw [h0, zero_eq]
    · refine ⟨_, rfl, rfl, false, congrArg V.bl (decide_eq_false h0), iteF ?_⟩
      have hne : L z ≠ [48] := fun e => h0 (congrArg V.str (signs_inj (by show L z = _; rw [e, zero_eq])))
      obtain ⟨c, r', e⟩ : ∃ c r', L z = c :: r' := by
        cases e : L z with
        | nil =>
          rw [e] at hll
          simp at hll
          omega
        | cons c r' => exact ⟨c, r', rfl⟩
      refine ⟨_, rfl, z, 0, c, rfl, rfl, hz, atI_nat (j := 0) (by show (L z)[0]? = _; rw [e]; rfl), rfl, hnum _ ?_⟩
      rw [e]
      constructor
      · intro hb
        refine .inr fun h => ?_
        have hc : c = 48 := by simpa using h
        rw [hc, zero_eq] at hb
        simp at hb
      · rintro (h | h)
        · exact absurd (by rw [e, h]) hne
        · rw [zero_eq]
          simp
          intro hc
          exact h (by rw [hc]; rfl)
def spNumReadG (N : Addr) : Sp := fun vs H Q E => ∃ s : Str, vs = [.str s] ∧ Asc s ∧ s.length ≤ 1000000 ∧ (NumL (L s) → ∀ H' : Hp, Same H H' → Q (.int ((valL (L s) : Nat) : Int)) H') ∧ (¬NumL (L s) → ∀ dx H', Same H H' → E (.ref N) dx H')
theorem scNumberRead : FnScope ["word"] ["word"] (defScope sNumberRead) := ⟨rfl, rfl, rfl, by decide +kernel, rfl, by decide +kernel, by decide +kernel⟩
theorem ok_numreadG {N f : Addr} {fd : FuncData} {t4 : Tok} (F : Fun K "number_read" "number_read" sNumberRead f fd) (T : TxtB mg) (m4 : mg "MOST_FIGURES" = some (.int 4 t4)) (eN : PySem.W.ExcK K N) (mN : mg "NoText" = some (.ref N)) (pIsNumber : Pm P w K mg base CX0 1 "is_number" ["word", "most_figures"] spIsNumG) : FnOk P w K mg base (CXD P w) 2 f fd ["word"] (spNumReadG N) := by
  refine F.okXFQ scNumberRead (fun vs H Q E h => ?_) (fun cdv A outer s H vs Q E hr1 h => ?_)
  · obtain ⟨z, rfl, _⟩ := h
    rfl
  · obtain ⟨z, rfl, ha, hz, q, qe⟩ := h
    refine ⟨_, (qss_cons (qs_if (qt_not (qt_val (qe_callP pIsNumber hr1 rfl pass0 (qac (qv 0) (qac (qe_glob (v := .int 4) rfl m4 ⟨_, rfl⟩) qa_nil))))) (qss_one (qs_raiseF eN.ex rfl mN rfl rfl (qac qe_str qa_nil))) qss_nil)
      (qss_one (qs_ret (qe_callTy call_int_num (by rfl) T.int (by decide +kernel) (qac (qv 0) qa_nil))))), ?_⟩
    refine ⟨_, rfl, z, rfl, ha, hz, fun H' s' => ⟨_, rfl, ?_⟩⟩
    by_cases hn : NumL (L z)
    · rw [decide_eq_true hn]
      refine iteF ?_
      obtain ⟨e1, e2⟩ := num_dec hn
      exact ⟨_, rfl, ((valL (L z) : Nat) : Int), congrArg (fun y => [V.str y]) e1, by omega, by omega, q hn _ s'⟩
    · rw [decide_eq_false hn]
      exact iteT ⟨by show 1 ≤ sizeLine; decide, fun dx => qe hn dx _ s'⟩
theorem strs_get {ts : List Str} {i : Nat} {v : V} (h : (ts.map V.str)[i]? = some v) : ∃ t, ts[i]? = some t ∧ v = .str t := by
  rw [List.getElem?_map] at h
  cases e : ts[i]? with
  | none =>
    rw [e] at h
    cases h
  | some t =>
    rw [e] at h
    cases h
    exact ⟨t, rfl, rfl⟩
theorem split_asc {z : Str} {c : Nat} (h : Asc z) {p : Str} (hp : p ∈ Txt.split z ⟨#[c]⟩) : Asc p := fun x hx => h x ((split_sub hp).subset hx)
theorem split_le {z : Str} {c : Nat} {p : Str} (hp : p ∈ Txt.split z ⟨#[c]⟩) : p.length ≤ z.length := by
  have := (split_sub hp).length_le
  rwa [L_len, L_len] at this
theorem brd_dash : brd (Str.ofString "-") = some [] := if_pos rfl
theorem brd_some {z : Str} (h0 : z ≠ Str.ofString "-") (h : ∀ p ∈ Txt.split z (Str.ofString "."), NumL (L p)) : brd z = some ((Txt.split z (Str.ofString ".")).map fun p => valL (L p)) := by
  unfold brd
  rw [if_neg h0, if_pos h]
theorem brd_none {z : Str} (h0 : z ≠ Str.ofString "-") {p : Str} (hp : p ∈ Txt.split z (Str.ofString ".")) (h : ¬NumL (L p)) : brd z = none := by
  unfold brd
  rw [if_neg h0, if_neg fun z => h (z p hp)]
def spBlockReadG (N : Addr) : Sp := fun vs H Q E => ∃ z : Str, vs = [.str z] ∧ Asc z ∧ z.length ≤ 1000000 ∧ (∀ b, brd z = some b → ∀ (l : Addr) (H' : Hp), Same H H' → H' l = some (.lst (nats b)) → Q (.ref l) H') ∧ (brd z = none → ∀ dx H', Same H H' → E (.ref N) dx H')
theorem scBlockRead : FnScope ["word"] ["word"] (defScope sBlockRead) := ⟨rfl, rfl, rfl, by decide +kernel, rfl, by decide +kernel, by decide +kernel⟩
theorem ok_blockreadG {N f : Addr} {fd : FuncData} {tE : Tok} (F : Fun K "block_read" "block_read" sBlockRead f fd) (mE : mg "EMPTY_BLOCK" = some (.str "-" tE)) (pNumberRead : Pm P w K mg base (CXD P w) 2 "number_read" ["word"] (spNumReadG N)) : FnOk P w K mg base (CXD P w) 3 f fd ["word"] (spBlockReadG N) := by
  refine F.okXFQ scBlockRead (fun vs H Q E h => ?_) (fun cdv A outer s H vs Q E hr2 h => ?_)
  · obtain ⟨z, rfl, _⟩ := h
    rfl
  · obtain ⟨z, rfl, ha, hz, q, qe⟩ := h
    refine ⟨_, (qss_cons (qs_if (qt_cmpR op_eq (qv 0) (qe_glob (v := .str "-") rfl mE ⟨_, rfl⟩) (nomark _)) (qss_one (qs_ret (qe_lst qa_nil))) qss_nil)
      (qss_one (qs_ret (qe_compX (g := gName 0) (N := ["part"]) (src := [none]) rfl rfl rfl ⟨_, rfl⟩ rfl (comp_scope (defScope sBlockRead) ["word"] rfl rfl (by decide +kernel) rfl) (qi_list (qe_bm PySem.F.plainAttrs_str PySem.F.slot_str_split PySem.F.type_str_split mt_split (qv 0) (qac qe_str qa_nil))) (fun _ _ _ _ _ => (qg_name (i := 0) (show (["part"] : List Str).Nodup by decide +kernel) rfl (Or.inl rfl) (Or.inr rfl))) (fun _ _ _ _ _ => qif_nil) (fun _ _ _ _ _ pp => (qe_callP pNumberRead hr2 rfl pp (qac (qv 0) qa_nil))))))), ?_⟩
    refine ⟨_, rfl, rfl, _, rfl, ?_⟩
    by_cases h0 : z = Str.ofString "-"
    · exact ifT (by rw [h0]) ⟨by show 0 ≤ sizeLine; decide, fun l hl => q [] (by rw [h0]; exact brd_dash) l _ (same_new hl) upd_same⟩
    refine ifF (fun e => h0 (by injection e)) ?_
    have hsl := split_len_le z 46
    refine ⟨_, rfl, rfl, z, Str.ofString ".", rfl, rfl, by rw [dot_eq]; rfl, Nat.le_trans hz (by decide), by rw [dot_eq]; exact Nat.le_trans (Nat.le_trans hsl (Nat.succ_le_succ hz)) (by decide), fun p hp => ?_⟩
    generalize hps : Txt.split z (Str.ofString ".") = ps at q qe ⊢
    have hpa : ∀ y ∈ ps, Asc y ∧ y.length ≤ 1000000 := fun y hy => by
      rw [← hps, dot_eq] at hy
      exact ⟨split_asc ha hy, Nat.le_trans (split_le hy) hz⟩
    have hpl : ps.length ≤ 1000001 := by
      rw [← hps, dot_eq]
      omega
    have s1 := same_new (o := .lst (ps.map V.str)) hp
    have hp1 : L2.upd H p (.lst (ps.map V.str)) p = some (.lst (ps.map V.str)) := upd_same
    generalize L2.upd H p (.lst (ps.map V.str)) = H1 at s1 hp1 ⊢
    refine ⟨p, rfl, ⟨_, SqL.of hp1⟩, comp_list (K := K) (xs := ps.map V.str) (fun i ys H2 => Same H1 H2 ∧ ys = nats ((ps.take i).map fun y => valL (L y)) ∧ ∀ y ∈ ps.take i, NumL (L y)) ⟨Same.refl _, rfl, by simp⟩ (fun i ys H2 _ ⟨e, _⟩ => SqL.of (e _ _ hp1)) ?_ ?_⟩
    · rintro i v ys H2 N' hi ⟨s2, rfl, hal⟩ nx
      obtain ⟨t, ht, rfl⟩ := strs_get hi
      have htm := List.mem_of_getElem? ht
      have hil : i < ps.length := (List.getElem?_eq_some_iff.mp ht).1
      refine ⟨Weak.set (by intro v z; cases z), ⟨_, rfl, t, rfl, (hpa t htm).1, (hpa t htm).2, fun hn H' s' => ⟨?_, nx _ _ ⟨s2.trans s', ?_, ?_⟩⟩, fun hn dx H' s' => qe (by have := brd_none h0 (p := t) (by rw [hps]; exact htm) hn; exact this) dx _ (s1.trans (s2.trans s'))⟩⟩
      · rw [nats_len, List.length_map, List.length_take]
        exact Nat.lt_of_le_of_lt (show min i ps.length ≤ 1000001 by omega) (by decide)
      · rw [List.take_add_one, ht, Option.toList_some, List.map_append, List.map_cons, List.map_nil, nats_snoc]
      · rw [List.take_add_one, ht, Option.toList_some]
        intro y hy
        rcases List.mem_append.mp hy with u | u
        · exact hal y u
        · rw [List.mem_singleton.mp u]
          exact hn
    rintro ys H2 ⟨s2, rfl, hal⟩
    rw [List.length_map, List.take_length] at hal ⊢
    refine ⟨by rw [nats_len, List.length_map]; exact Nat.le_trans hpl (by decide), fun r hr => q _ ?_ r _ (s1.trans (s2.trans (same_new hr))) upd_same⟩
    have := brd_some h0 (by rw [hps]; exact hal)
    rwa [hps] at this
theorem starts_iff {r : Str} : Txt.startswith r (Str.ofString " ") = true ↔ ∃ r', r = Str.ofString " " ++ r' := by
  rw [sp_eq]
  constructor
  · intro h
    unfold Txt.startswith at h
    have h2 : (L r)[0]? = some 32 := by
      rw [Bool.and_eq_true] at h
      exact (StrLaws.subAt_one r 32 0).mp ⟨of_decide_eq_true h.1, h.2⟩
    refine ⟨⟨((L r).drop 1).toArray⟩, signs_inj ?_⟩
    show L r = L _
    rw [L_app]
    cases e : L r with
    | nil => rw [e] at h2; cases h2
    | cons x y =>
      rw [e] at h2
      cases h2
      simp [L]
  · rintro ⟨r', rfl⟩
    exact starts_one
def spBlocksReadG (N : Addr) : Sp := fun vs H Q E => ∃ z : Str, vs = [.str z] ∧ Asc z ∧ z.length ≤ 1000000 ∧ (z = Str.empty → ∀ (l : Addr) (H' : Hp), Same H H' → H' l = some (.lst []) → Q (.ref l) H') ∧
  (∀ r, z = Str.ofString " " ++ r → (∀ bs : List (List Nat), (Txt.split r (Str.ofString " ")).map brd = bs.map some → ∀ (l : Addr) (ws : List V) (H' : Hp), Same H H' → H' l = some (.lst ws) → BlAt H' ws bs → Q (.ref l) H') ∧ ((∃ y ∈ Txt.split r (Str.ofString " "), brd y = none) → ∀ dx H', Same H H' → E (.ref N) dx H')) ∧
  (z ≠ Str.empty → (∀ r, z ≠ Str.ofString " " ++ r) → ∀ dx H', Same H H' → E (.ref N) dx H')
theorem scBlocksRead : FnScope ["tail"] ["tail"] (defScope sBlocksRead) := ⟨rfl, rfl, rfl, by decide +kernel, rfl, by decide +kernel, by decide +kernel⟩
theorem brd_len {z : Str} {b : List Nat} (h : brd z = some b) : b.length ≤ (L z).count 46 + 1 ∧ ∀ x ∈ b, x < 10000 := by
  unfold brd at h
  split at h
  · cases h
    exact ⟨Nat.zero_le _, by simp⟩
  split at h
  · rename_i hn
    cases h
    refine ⟨by rw [List.length_map, dot_eq, split_len]; exact Nat.le_refl _, fun x hx => ?_⟩
    obtain ⟨p, hp, rfl⟩ := List.mem_map.mp hx
    exact (num_signs (hn p hp)).2
  · cases h
theorem ok_blocksreadG {N f : Addr} {fd : FuncData} (F : Fun K "blocks_read" "blocks_read" sBlocksRead f fd) (eN : PySem.W.ExcK K N) (mN : mg "NoText" = some (.ref N)) (pBlockRead : Pm P w K mg base (CXD P w) 3 "block_read" ["word"] (spBlockReadG N)) : FnOk P w K mg base (CXD P w) 4 f fd ["tail"] (spBlocksReadG N) := by
  refine F.okXFQ scBlocksRead (fun vs H Q E h => ?_) (fun cdv A outer s H vs Q E hr3 h => ?_)
  · obtain ⟨z, rfl, _⟩ := h
    rfl
  · obtain ⟨z, rfl, ha, hz, q0, qw, qe⟩ := h
    refine ⟨_, (qss_cons (qs_if (qt_cmpR op_eq (qv 0) qe_str (nomark _)) (qss_one (qs_ret (qe_lst qa_nil))) qss_nil)
      (qss_cons (qs_if (qt_not (qt_val (qe_bm PySem.F.plainAttrs_str PySem.F.slot_str_startswith PySem.F.type_str_startswith mt_starts (qv 0) (qac qe_str qa_nil)))) (qss_one (qs_raiseF eN.ex rfl mN rfl rfl (qac qe_str qa_nil))) qss_nil)
      (qss_one (qs_ret (qe_compX (g := gName 0) (N := ["word"]) (src := [none]) rfl rfl rfl ⟨_, rfl⟩ rfl (comp_scope (defScope sBlocksRead) ["tail"] rfl rfl (by decide +kernel) rfl) (qi_list (qe_bm PySem.F.plainAttrs_str PySem.F.slot_str_split PySem.F.type_str_split mt_split (qe_slice sl_strG (qv 0) (qo_some qe_int) qo_none) (qac qe_str qa_nil))) (fun _ _ _ _ _ => (qg_name (i := 0) (show (["word"] : List Str).Nodup by decide +kernel) rfl (Or.inl rfl) (Or.inr rfl))) (fun _ _ _ _ _ => qif_nil) (fun _ _ _ _ _ pp => (qe_callP pBlockRead hr3 rfl pp (qac (qv 0) qa_nil)))))))), ?_⟩
    refine ⟨_, rfl, rfl, _, rfl, ?_⟩
    by_cases h0 : z = Str.empty
    · exact ifT (by rw [h0]; exact congrArg V.str nil_eq.symm) ⟨by show 0 ≤ sizeLine; decide, fun l hl => q0 h0 l _ (same_new hl) upd_same⟩
    refine ifF (fun e => h0 (by injection e)) ?_
    refine ⟨_, rfl, rfl, z, Str.ofString " ", rfl, rfl, _, rfl, ?_⟩
    by_cases hst : Txt.startswith z (Str.ofString " ") = true
    rotate_left
    · rw [Bool.eq_false_iff.mpr hst]
      exact iteT ⟨by show 1 ≤ sizeLine; decide, fun dx => qe h0 (fun r e => hst (starts_iff.mpr ⟨r, e⟩)) dx _ (Same.refl _)⟩
    rw [hst]
    refine iteF ?_
    obtain ⟨r, er⟩ := starts_iff.mp hst
    obtain ⟨qs, qn⟩ := qw r er
    have e1 : Txt.slice z (some 1) none = r := by
      rw [er, sp_eq]
      exact slice_one
    have hrl : r.length ≤ 1000000 := by
      have : z.length = 1 + r.length := by rw [er, Str.length_append, sp_eq]; rfl
      omega
    have har : Asc r := fun c hc => ha c (by rw [er, L_app]; exact List.mem_append_right _ hc)
    have hsl := split_len_le r 32
    refine ⟨_, rfl, _, rfl, z, rfl, Nat.le_trans hz (by decide), rfl, ?_⟩
    rw [e1]
    refine ⟨r, Str.ofString " ", rfl, rfl, by rw [sp_eq]; rfl, Nat.le_trans hrl (by decide), by rw [sp_eq]; exact Nat.le_trans (Nat.le_trans hsl (Nat.succ_le_succ hrl)) (by decide), fun p hp => ?_⟩
    generalize hps : Txt.split r (Str.ofString " ") = ps at qs qn ⊢
    have hpa : ∀ y ∈ ps, Asc y ∧ y.length ≤ 1000000 := fun y hy => by
      rw [← hps, sp_eq] at hy
      exact ⟨split_asc har hy, Nat.le_trans (split_le hy) hrl⟩
    have hpl : ps.length ≤ 1000001 := by
      rw [← hps, sp_eq]
      omega
    have s1 := same_new (o := .lst (ps.map V.str)) hp
    have hp1 : L2.upd H p (.lst (ps.map V.str)) p = some (.lst (ps.map V.str)) := upd_same
    generalize L2.upd H p (.lst (ps.map V.str)) = H1 at s1 hp1 ⊢
    refine ⟨p, rfl, ⟨_, SqL.of hp1⟩, comp_list (K := K) (xs := ps.map V.str) (fun i ys H2 => Same H1 H2 ∧ ∃ bs : List (List Nat), BlAt H2 ys bs ∧ (ps.take i).map brd = bs.map some) ⟨Same.refl _, [], trivial, rfl⟩ (fun i ys H2 _ ⟨e, _⟩ => SqL.of (e _ _ hp1)) ?_ ?_⟩
    · rintro i v ys H2 N' hi ⟨s2, bs, hB, hbs⟩ nx
      obtain ⟨t, ht, rfl⟩ := strs_get hi
      have htm := List.mem_of_getElem? ht
      have hil : i < ps.length := (List.getElem?_eq_some_iff.mp ht).1
      refine ⟨Weak.set (by intro v z; cases z), ⟨_, rfl, t, rfl, (hpa t htm).1, (hpa t htm).2, fun b hb l H' s' hl => ⟨?_, nx _ _ ⟨s2.trans s', bs ++ [b], (hB.same s').snoc hl, ?_⟩⟩, fun hn dx H' s' => qn ⟨t, htm, hn⟩ dx _ (s1.trans (s2.trans s'))⟩⟩
      · have h1 := congrArg List.length hbs
        rw [List.length_map, List.length_map, List.length_take] at h1
        rw [hB.len]
        exact Nat.lt_of_le_of_lt (show bs.length ≤ 1000001 by omega) (by decide)
      · rw [List.take_add_one, ht, Option.toList_some, List.map_append, hbs, List.map_append, List.map_cons, hb]
        rfl
    rintro ys H2 ⟨s2, bs, hB, hbs⟩
    rw [List.length_map, List.take_length] at hbs
    have h1 := congrArg List.length hbs
    rw [List.length_map, List.length_map] at h1
    exact ⟨by rw [hB.len]; exact Nat.le_trans (show bs.length ≤ 1000001 by omega) (by decide), fun r hr => qs bs hbs r ys _ (s1.trans (s2.trans (same_new hr))) upd_same (hB.same (same_new hr))⟩
theorem str_app_len (a b : Str) : (a ++ b).length = a.length + b.length := by
  show (a.cps ++ b.cps).size = _
  rw [Array.size_append]
  rfl
theorem scXInit : FnScope ["self", "place"] ["self", "place"] (defScope sXInit) := ⟨rfl, rfl, rfl, by decide +kernel, rfl, by decide +kernel, by decide +kernel⟩
theorem ok_xinit {f : Addr} {fd : FuncData} (F : FunD K "__init__" "NoLayout.__init__" sXInit f fd) (B : BaseX K M) (mM : mg "MeetError" = some (.ref M)) : FnOk P w K mg base CX0 1 f fd ["self", "place"] (spXI K "place") := by
  refine F.okQ scXInit (fun vs H Q E h => ?_) (fun cdv A outer s H vs Q E hr h => ?_)
  · obtain ⟨e, C, fI, v, rfl, _⟩ := h
    rfl
  · obtain ⟨e, C, fI, v, rfl, hH, O, hv, q⟩ := h
    refine ⟨_, (qss_cons (qs_expr (qe_xinit B rfl mM (qac (qv 0) (qac (qe_fstr (qf_cons qe_str (qf_cons (qe_frep (qv 1)) qf_nil))) qa_nil)))) (qss_one (qs_xset (qv 0) (qv 1)))), ?_⟩
    have fin : ∀ y : Str, y.length ≤ 5 → ∀ z : Str, z = Str.empty ++ "no layout; place: " ++ y → z.length ≤ sizeLine := fun y hy z hz => by
      have e0 : (Str.empty ++ ("no layout; place: " : Str)).length = 18 := by decide +kernel
      have : z.length = 18 + y.length := by rw [hz, str_app_len, e0]
      exact Nat.le_trans (show z.length ≤ 100 by omega) (by decide)
    refine ⟨_, rfl, _, rfl, by decide +kernel, _, rfl, ?_⟩
    rcases hv with ⟨i, rfl, hi⟩ | rfl
    · have hd := dig_len ⟨i, by omega⟩
      refine .inl ⟨_, rfl, Nat.lt_of_le_of_lt (Nat.log2_le_self _) (by show i < 1920; omega), Nat.le_trans hd (by decide), _, rfl, fin _ hd _ rfl, fin _ hd _ rfl, e, C, fI, "place", none, _, rfl, hH, O, _, rfl, _, rfl, e, C, fI, rfl, hH, O, fun dx hdx => q dx hdx⟩
    · refine .inr ⟨rfl, _, rfl, fin _ (by decide +kernel) _ rfl, fin _ (by decide +kernel) _ rfl, e, C, fI, "place", none, _, rfl, hH, O, _, rfl, _, rfl, e, C, fI, rfl, hH, O, fun dx hdx => q dx hdx⟩
theorem bindsXI {f : Addr} {fd : FuncData} (F : FunD K "__init__" "NoLayout.__init__" sXInit f fd) : Binds K fd ["self", "place"] [] := F.binds fun _ _ _ _ _ _ _ us hl => match us, hl with | [_, _], _ => ⟨_, rfl, rfl⟩
/-- one block: a list of things -/
def BaseAt (K : PySem.W.Frag) (H : Hp) (v : V) (xs : List V) : Prop := ∃ a, v = .ref a ∧ H a = some (.lst xs) ∧ (∀ x ∈ xs, ∃ b, WholeIs K H x b) ∧ xs.length ≤ 4000
def MxAt (K : PySem.W.Frag) (H : Hp) : List V → List (List V) → Prop
  | [], [] => True
  | v :: vs, b :: bs => BaseAt K H v b ∧ MxAt K H vs bs
  | _, _ => False
theorem BaseAt.sm {K : PySem.W.Frag} {H H' : Hp} (s : Same H H') {v : V} {xs : List V} (h : BaseAt K H v xs) : BaseAt K H' v xs := by
  obtain ⟨a, e, h1, h2, h3⟩ := h
  exact ⟨a, e, s _ _ h1, fun x hx => let ⟨b, hb⟩ := h2 x hx; ⟨b, hb.same s⟩, h3⟩
theorem MxAt.sm {K : PySem.W.Frag} {H H' : Hp} (s : Same H H') : ∀ {vs : List V} {bs : List (List V)}, MxAt K H vs bs → MxAt K H' vs bs
  | [], [], _ => trivial
  | _ :: _, _ :: _, ⟨h, t⟩ => ⟨h.sm s, MxAt.sm s t⟩
  | [], _ :: _, h => h.elim
  | _ :: _, [], h => h.elim
theorem MxAt.len {K : PySem.W.Frag} {H : Hp} : ∀ {vs : List V} {bs : List (List V)}, MxAt K H vs bs → vs.length = bs.length
  | [], [], _ => rfl
  | _ :: _, _ :: _, ⟨_, t⟩ => congrArg (· + 1) (MxAt.len t)
  | [], _ :: _, h => h.elim
  | _ :: _, [], h => h.elim
theorem MxAt.get {K : PySem.W.Frag} {H : Hp} : ∀ {vs : List V} {bs : List (List V)} {i : Nat} {v : V}, MxAt K H vs bs → vs[i]? = some v → ∃ b, bs[i]? = some b ∧ BaseAt K H v b
  | [], [], i, v, _, h => by cases i <;> cases h
  | _ :: _, r :: _, 0, v, ⟨hc, _⟩, h => by cases h; exact ⟨r, rfl, hc⟩
  | _ :: _, _ :: _, i + 1, v, ⟨_, t⟩, h => MxAt.get (i := i) t (by simpa using h)
  | [], _ :: _, _, _, h, _ => h.elim
  | _ :: _, [], _, _, h, _ => h.elim
theorem pn_nat {v : V} (h : pnB v = true) : ∃ n : Nat, v = .int ((n : Nat) : Int) ∧ 1 ≤ n ∧ n ≤ 60 := by
  match v, h with
  | .int i, h =>
    obtain ⟨h1, h2⟩ : 1 ≤ i ∧ i ≤ 60 := of_decide_eq_true h
    exact ⟨i.toNat, by rw [Int.toNat_of_nonneg (by omega)], by omega, by omega⟩
/-- the place that is due, or none -/
def dueV (v : V) (bs : List (List V)) : Option V := if pnB v = true ∧ bs.length ≤ 200 then (bs.findIdx? fun xs => !okB (match v with | .int i => i.toNat | _ => 0) xs).map fun k => V.int ((k : Nat) : Int) else some .non
theorem due_odd {v : V} {bs : List (List V)} (h : pnB v = false) : dueV v bs = some .non := by
  unfold dueV
  rw [if_neg fun z => by rw [h] at z; exact absurd z.1 (by decide)]
theorem due_many {v : V} {bs : List (List V)} (h : ¬ bs.length ≤ 200) : dueV v bs = some .non := by
  unfold dueV
  rw [if_neg fun z => h z.2]
theorem pnB_nat {n : Nat} (h1 : 1 ≤ n) (h2 : n ≤ 60) : pnB (.int ((n : Nat) : Int)) = true := decide_eq_true ⟨by omega, by omega⟩
theorem due_at {n : Nat} {bs : List (List V)} (h1 : 1 ≤ n) (h2 : n ≤ 60) (h3 : bs.length ≤ 200) : dueV (.int ((n : Nat) : Int)) bs = (bs.findIdx? fun xs => !okB n xs).map fun k => V.int ((k : Nat) : Int) := by
  unfold dueV
  rw [if_pos ⟨pnB_nat h1 h2, h3⟩]
  rfl
theorem due_first {n : Nat} {bs : List (List V)} {i : Nat} {xs : List V} (h1 : 1 ≤ n) (h2 : n ≤ 60) (h3 : bs.length ≤ 200) (hi : bs[i]? = some xs) (hx : okB n xs = false) (hb : ∀ (j : Nat) ys, j < i → bs[j]? = some ys → okB n ys = true) : dueV (.int ((n : Nat) : Int)) bs = some (.int ((i : Nat) : Int)) := by
  rw [due_at h1 h2 h3]
  obtain ⟨hl, e⟩ := List.getElem?_eq_some_iff.mp hi
  have : bs.findIdx? (fun xs => !okB n xs) = some i := by
    rw [List.findIdx?_eq_some_iff_getElem]
    refine ⟨hl, by rw [e, hx]; rfl, fun j hj => ?_⟩
    rw [hb j _ hj (List.getElem?_eq_getElem _)]
    decide
  rw [this]
  rfl
theorem due_none {n : Nat} {bs : List (List V)} (h1 : 1 ≤ n) (h2 : n ≤ 60) (h3 : bs.length ≤ 200) (hb : ∀ xs ∈ bs, okB n xs = true) : dueV (.int ((n : Nat) : Int)) bs = none := by
  rw [due_at h1 h2 h3]
  have : bs.findIdx? (fun xs => !okB n xs) = none := by
    rw [List.findIdx?_eq_none_iff]
    intro x hx
    rw [hb x hx]
    rfl
  rw [this]
  rfl
theorem due_kind {v : V} {bs : List (List V)} {pl : V} (h : dueV v bs = some pl) : (∃ k : Int, pl = .int k) ∨ pl = .non := by
  unfold dueV at h
  split at h
  · obtain ⟨k, _, rfl⟩ := Option.map_eq_some_iff.mp h
    exact .inl ⟨_, rfl⟩
  · cases h
    exact .inr rfl
theorem nats_inj {a b : List Nat} (h : nats a = nats b) : a = b := (List.map_inj_right fun _ _ e => by injection e with e; exact Int.ofNat.inj e).mp h
theorem mx_bl {K : PySem.W.Frag} {H : Hp} : ∀ {ws : List V} {bs : List (List Nat)}, BlAt H ws bs → (∀ b ∈ bs, b.length ≤ 4000) → MxAt K H ws (bs.map nats)
  | [], [], _, _ => trivial
  | v :: ws, b :: bs, h, hl => by
    obtain ⟨⟨a, e, q⟩, r⟩ := h
    refine ⟨⟨a, e, q, fun x hx => ?_, by rw [nats_len]; exact hl b (List.mem_cons_self ..)⟩, mx_bl r fun c hc => hl c (List.mem_cons_of_mem _ hc)⟩
    obtain ⟨y, _, rfl⟩ := List.mem_map.mp hx
    exact ⟨true, .int _⟩
def spLayX (K : PySem.W.Frag) (C : Addr) : Sp := fun vs H Q E => ∃ (p : Nat) (l : Addr) (ws : List V) (bs : List (List Nat)), vs = [.int ((p : Nat) : Int), .ref l] ∧ H l = some (.lst ws) ∧ BlAt H ws bs ∧ (∀ b ∈ bs, b.length ≤ 4000) ∧ bs.length ≤ 1000001 ∧ (∀ pl, dueV (.int ((p : Nat) : Int)) (bs.map nats) = some pl → ∀ dx H', Same H H' → H' dx = some (.xd [("place", pl)]) → E (.ref C) (some dx) H') ∧ (dueV (.int ((p : Nat) : Int)) (bs.map nats) = none → ∀ t H', Same H H' → LayAt H' t p bs → Q (.ref t) H')
theorem scLayoutOf : FnScope ["points", "blocks", "place", "block"] ["points", "blocks"] (defScope sLayoutOf) := ⟨rfl, rfl, rfl, by decide +kernel, rfl, by decide +kernel, by decide +kernel⟩
theorem ok_layX {f fI : Addr} {fd fdI : FuncData} {t200 : Tok} (F : Fun K "layout_of" "layout_of" sLayoutOf f fd) (T : TxtB mg) (m200 : mg "MOST_BLOCKS" = some (.int 200 t200)) (O : OwnX K C fI "place") (FI : FnOk P w K mg base CX0 1 fI fdI ["self", "place"] (spXI K "place")) (hb : Binds K fdI ["self", "place"] []) (mC : mg "NoLayout" = some (.ref C))
    (pPN : Pm P w K mg base CX0 2 "is_points_number" ["thing"] (spPnX K)) (pUn : Pm P w K mg base CX0 3 "are_unlike_points" ["things", "points"] (spUnlikeM K)) (pInOrder : Pm P w K mg base CX0 1 "in_order" ["block"] spOrder) : FnOk P w K mg base (CXD P w) 4 f fd ["points", "blocks"] (spLayX K C) := by
  refine F.okXFQ scLayoutOf (fun vs H Q E h => ?_) (fun cdv A outer s H vs Q E hr3 h => ?_)
  · obtain ⟨p0, l, ws, bs0, rfl, _⟩ := h
    rfl
  · obtain ⟨p0, l, ws, bs0, rfl, hl, hB0, hb0, hbl0, qE, qQ⟩ := h
    have hM := mx_bl (K := K) hB0 hb0
    have hP : PnV K H (.int ((p0 : Nat) : Int)) := ⟨true, .int _⟩
    generalize hbs : bs0.map nats = bs at qE qQ hM
    have hbl : bs.length ≤ 1000001 := by rw [← hbs, List.length_map]; exact hbl0
    generalize hv0 : V.int ((p0 : Nat) : Int) = v at qE qQ hP ⊢
    have hr2 := hr3.mono (show 2 ≤ 3 by decide)
    have hr1 := hr3.mono (show 1 ≤ 3 by decide)
    refine ⟨_, (qss_cons (qs_if (QW.pt (qw_or (qt_not (qt_val (qe_callP pPN hr2 rfl pass0 (qac (qv 0) qa_nil)))) (qw_or1 (qt_cmpR op_gt (qe_callB call_len_seq (by rfl) T.len PySem.boot_len (qac (qv 1) qa_nil)) (qe_glob (v := .int 200) rfl m200 ⟨_, rfl⟩) (nomark _))))) (qss_one (QS.upF (qs_raiseX O FI hr2 rfl mC hb .nil rfl rfl pass0 (qac qe_non qa_nil)))) qss_nil)
      (qss_cons (qs_for (passesF rfl ⟨_, rfl⟩ rfl rfl) rfl (qi_enum rfl T.enu (qac (qv 1) qa_nil)) (qg_tup rfl (qgs_cons (qg_name (i := 2) scLayoutOf.nd rfl (Or.inl rfl)) (qgs_cons (qg_name (i := 3) scLayoutOf.nd rfl (Or.inl rfl)) qgs_nil)))
        (qss_one (qs_if (qt_not (qt_val (qe_callP pUn hr3 rfl pass0 (qac (qv 3) (qac (qv 0) qa_nil))))) (qss_one (QS.upF (qs_raiseX O FI hr2 rfl mC hb .nil rfl rfl pass0 (qac (qv 2) qa_nil)))) qss_nil)))
      (QSs.nox (qss_one (qs_ret (qe_tup (qac (qv 0) (qac (qe_callTy call_tuple_of (by rfl) T.tup (by decide +kernel) (qac (qe_comp (g := gName 0) (N := ["block"]) (src := [none]) rfl (comp_scope (defScope sLayoutOf) ["points", "blocks", "place", "block"] rfl rfl (by decide +kernel) rfl) (qi_list (qv 1)) (fun _ _ _ _ _ => (qg_name (i := 0) (show (["block"] : List Str).Nodup by decide +kernel) rfl (Or.inl rfl) (Or.inr rfl))) (fun _ _ _ _ _ => qif_nil) (fun _ _ _ _ _ => (qe_callP pInOrder hr1 rfl pass0 (qac (qv 0) qa_nil)))) qa_nil)) qa_nil)))))))), ?_⟩
    have raise : ∀ (v0 : V) (H1 : Hp), Same H H1 → dueV v bs = some v0 → ∀ x, H1 x = none → ∀ dx, L2.upd H1 x (XN x C none) dx = none → E (.ref C) (some dx) (unt (L2.upd (L2.upd (L2.upd H1 x (XN x C none)) dx (.xd [("place", v0)])) x (XN x C (some dx))) x) := fun v0 H1 s1 hd x hx dx hdx => by
      refine qE v0 hd dx _ (fun c o hc => ?_) ?_
      · have hc1 := s1 _ _ hc
        have n1 : c ≠ x := fun z => by rw [z, hx] at hc1; cases hc1
        have n2 : c ≠ dx := fun z => by
          rw [← z, upd_ne n1, hc1] at hdx
          cases hdx
        rw [unt_ne n1, upd_ne n1, upd_ne n2, upd_ne n1, hc1]
      · have n1 : dx ≠ x := fun z => by
          rw [z, upd_same] at hdx
          cases hdx
        rw [unt_ne n1, upd_ne n1, upd_same]
    have hwl := hM.len
    refine ⟨_, rfl, _, rfl, hP, _, rfl, ?_⟩
    cases hp : pnB v with
    | false =>
      refine iteT (iteT ?_)
      refine ⟨by show 1 ≤ sizeLine; decide, fun x hx => ?_⟩
      exact ⟨x, C, fI, _, rfl, upd_same, O, .inr rfl, fun dx hdx => ⟨rfl, dx, upd_same, raise .non H (Same.refl _) (due_odd hp) x hx dx hdx⟩⟩
    | true =>
      obtain ⟨n, rfl, hn1, hn2⟩ := pn_nat hp
      refine iteF ?_
      refine ⟨_, rfl, l, _, rfl, .inl (SqL.of hl), _, _, rfl, rfl, _, rfl, ?_⟩
      by_cases h3 : bs.length ≤ 200
      rotate_left
      · refine ifT (by rw [hwl]; omega) ?_
        refine ⟨by show 1 ≤ sizeLine; decide, fun x hx => ?_⟩
        exact ⟨x, C, fI, _, rfl, upd_same, O, .inr rfl, fun dx hdx => ⟨rfl, dx, upd_same, raise .non H (Same.refl _) (due_many h3) x hx dx hdx⟩⟩
      refine ifF (by rw [hwl]; omega) ?_
      refine ⟨_, rfl, l, rfl, ⟨_, SqL.of hl⟩, for_enum (K := K) (a := l) (xs := ws) (fun i σ Hx => Same H Hx ∧ (∃ x2 x3 : Option V, σ = [some (.int (n : Nat)), some (.ref l), x2, x3]) ∧ ∀ (j : Nat) ys, j < i → bs[j]? = some ys → okB n ys = true) ⟨Same.refl _, ⟨_, _, rfl⟩, fun j ys z => by omega⟩ (fun i σ Hx _ ⟨e, _⟩ => SqL.of (e _ _ hl)) ?_ ?_⟩
      · rintro i v U σ Hx hi ⟨sx, ⟨x2, x3, rfl⟩, hno⟩ hU
        obtain ⟨xs, hbi, a, rfl, ha, hth, hxl⟩ := (hM.sm sx).get hi
        have s1 := same_new (o := .tup [.int (i : Nat), .ref a]) hU
        refine ⟨U, _, rfl, SqT.of upd_same, rfl, _, _, rfl, _, _, rfl, rfl, ?_⟩
        have ha1 := s1 _ _ ha
        have sy := sx.trans s1
        have hth1 : ∀ x ∈ xs, ∃ b, WholeIs K (L2.upd Hx U (.tup [.int (i : Nat), .ref a])) x b := fun x hx => let ⟨b, hb⟩ := hth x hx; ⟨b, hb.same s1⟩
        generalize L2.upd Hx U (.tup [.int (i : Nat), .ref a]) = H1 at ha1 sy hth1 ⊢
        refine ⟨_, rfl, _, rfl, a, xs, n, rfl, ha1, hth1, hxl, fun Hy s3 => ⟨_, rfl, ?_⟩⟩
        have s4 := sy.trans s3
        cases hok : okB n xs with
        | true => exact iteF ⟨s4, ⟨_, _, rfl⟩, fun j ys hj hjs => by
            by_cases e : j = i
            · subst e
              rw [hbi] at hjs
              cases hjs
              exact hok
            · exact hno j ys (by omega) hjs⟩
        | false =>
          refine iteT ⟨_, rfl, by show 1 ≤ sizeLine; decide, fun x hx => ?_⟩
          have hil := (List.getElem?_eq_some_iff.mp hbi).1
          exact ⟨x, C, fI, _, rfl, upd_same, O, .inl ⟨i, rfl, by omega⟩, fun dx hdx => ⟨rfl, dx, upd_same, raise _ Hy s4 (due_first hn1 hn2 h3 hbi hok hno) x hx dx hdx⟩⟩
      rintro σ Hx ⟨sx, ⟨x2, x3, rfl⟩, hno⟩
      have hall : ∀ xs ∈ bs, okB n xs = true := fun xs hxs => by
        obtain ⟨k, hk⟩ := List.getElem?_of_mem hxs
        exact hno k xs (by rw [hwl]; exact (List.getElem?_eq_some_iff.mp hk).1) hk
      have hd := due_none hn1 hn2 h3 hall
      have hnp : n = p0 := by injection hv0 with e; exact (Int.ofNat.inj e).symm
      subst hnp
      refine ⟨_, rfl, _, rfl, l, rfl, ⟨_, SqL.of (sx _ _ hl)⟩, comp_list (K := K) (xs := ws) (fun i zs H2 => Same H H2 ∧ ∃ cs, TpAt H2 zs cs ∧ Srt cs (bs0.take i)) ⟨sx, [], trivial, trivial⟩ (fun i zs H2 _ ⟨e, _⟩ => SqL.of (e _ _ hl)) ?_ ?_⟩
      · rintro i v zs H2 N hi ⟨s2, cs, hT, hS⟩ nx
        obtain ⟨xs, hbi, a, rfl, ha, hth, hxl⟩ := (hM.sm s2).get hi
        obtain ⟨b, rfl, hbb⟩ := okB_iff.mp (hall xs (List.mem_of_getElem? hbi))
        have hil := (List.getElem?_eq_some_iff.mp hi).1
        have hb0i : bs0[i]? = some b := by
          rw [← hbs, List.getElem?_map] at hbi
          cases e : bs0[i]? with
          | none => rw [e] at hbi; cases hbi
          | some c =>
            rw [e] at hbi
            injection hbi with hbi
            rw [nats_inj hbi]
        refine ⟨Weak.set (by intro v z; cases z), ⟨_, rfl, a, b, rfl, ha, Nat.le_trans hbb.len hn2, fun t c H3 ht s3 ht3 hp3 hs3 => ⟨?_, nx _ _ ⟨s2.trans s3, cs ++ [c], (hT.sm s3).snoc ht3, ?_⟩⟩⟩⟩
        · rw [hT.len, hS.len, List.length_take]
          exact Nat.lt_of_le_of_lt (show min i bs0.length ≤ 1000001 by omega) (by decide)
        · rw [List.take_add_one, hb0i, Option.toList_some]
          exact hS.snoc hp3 hs3
      · rintro zs H2 ⟨s2, cs, hT, hS⟩
        have hwl0 : ws.length = bs0.length := hB0.len
        rw [hwl0, List.take_length] at hS
        refine ⟨by rw [hT.len, hS.len]; exact Nat.le_trans hbl0 (by decide), fun r hr' => ?_⟩
        have w1 := same_new (o := .lst zs) hr'
        refine ⟨r, _, rfl, .inl ⟨SqL.of upd_same, fun u hu => ?_⟩⟩
        have w2 := same_new (o := .tup zs) hu
        refine ⟨by show 2 ≤ sizeLine; decide, fun t ht => ?_⟩
        have w3 := same_new (o := .tup [.int ((n : Nat) : Int), .ref u]) ht
        exact qQ hd _ _ (s2.trans (w1.trans (w2.trans w3))) ⟨u, zs, cs, upd_same, w3 _ _ upd_same, hT.sm (w1.trans (w2.trans w3)), hS⟩
theorem kit_str_str (K : PySem.W.Frag) : PySem.W.kitOne K (.type "str") (.type "str") = some true := by kernel_rfl
/-- a text, as long and with as many points as may come -/
structure TxB (s : Str) : Prop where
  asc : Asc s
  len : s.length ≤ 900000
  dots : (L s).count 46 ≤ 3900
/-- no text -/
def NoStr (K : PySem.W.Frag) (H : Hp) (v : V) : Prop := ∃ T, TyOf K H v (.type T) ∧ PySem.W.kitOne K (.type T) (.type "str") = some false
/-- what is told of a text -/
def Wants (s : Str) (H : Hp) (Q : V → Hp → Prop) (E : XK) (N C : Addr) : Prop :=
  (∀ p bs, Rd s p bs → (∀ pl, dueV (.int ((p : Nat) : Int)) (bs.map nats) = some pl → ∀ dx H', Same H H' → H' dx = some (.xd [("place", pl)]) → E (.ref C) (some dx) H') ∧ (dueV (.int ((p : Nat) : Int)) (bs.map nats) = none → ∀ t H', Same H H' → LayAt H' t p bs → Q (.ref t) H')) ∧ ((∀ p bs, ¬Rd s p bs) → ∀ dx H', Same H H' → E (.ref N) dx H')
def spReadG (K : PySem.W.Frag) (N C : Addr) : Sp := fun vs H Q E => ∃ v : V, vs = [v] ∧ ((∃ s, v = .str s ∧ TxB s ∧ Wants s H Q E N C) ∨ (NoStr K H v ∧ ∀ dx H', Same H H' → E (.ref N) dx H'))
theorem scReadLayout : FnScope ["text", "parted", "points"] ["text"] (defScope sReadLayout) := ⟨rfl, rfl, rfl, by decide +kernel, rfl, by decide +kernel, by decide +kernel⟩
theorem bs_bound {r : Str} {bs : List (List Nat)} (hl : r.length ≤ 900000) (hd : (L r).count 46 ≤ 3900) (h : (Txt.split r (Str.ofString " ")).map brd = bs.map some) : (∀ b ∈ bs, b.length ≤ 4000) ∧ bs.length ≤ 1000001 := by
  rw [sp_eq] at h
  constructor
  · intro b hb
    have : some b ∈ bs.map some := List.mem_map.mpr ⟨b, hb, rfl⟩
    rw [← h] at this
    obtain ⟨y, hy, e⟩ := List.mem_map.mp this
    have h1 := (brd_len e).1
    have h2 := (split_sub hy).count_le 46
    omega
  · have h1 := congrArg List.length h
    rw [List.length_map, List.length_map] at h1
    have := split_len_le r 32
    omega
theorem ok_readG {N f : Addr} {fd : FuncData} (F : Fun K "read_layout" "read_layout" sReadLayout f fd) (T : TxtB mg) (eN : PySem.W.ExcK K N) (mN : mg "NoText" = some (.ref N)) (pNumberRead : Pm P w K mg base (CXD P w) 2 "number_read" ["word"] (spNumReadG N)) (pBlocksRead : Pm P w K mg base (CXD P w) 4 "blocks_read" ["tail"] (spBlocksReadG N)) (pLayoutOf : Pm P w K mg base (CXD P w) 4 "layout_of" ["points", "blocks"] (spLayX K C)) : FnOk P w K mg base (CXD P w) 5 f fd ["text"] (spReadG K N C) := by
  refine F.okXFQ scReadLayout (fun vs H Q E h => ?_) (fun cdv A outer s H vs Q E hr4 h => ?_)
  · obtain ⟨v, rfl, _⟩ := h
    rfl
  · obtain ⟨v, rfl, hv⟩ := h
    have hr2 := hr4.mono (show 2 ≤ 4 by decide)
    refine ⟨_, (qss_cons (qs_if (qt_not (qt_val (qe_callB call_isinst (by rfl) T.isi PyProof.Rows.boot_isinstance (qac (qv 0) (qac (qe_bltn (v := .ty "str") rfl T.str (by decide +kernel) rfl) qa_nil))))) (qss_one (qs_raiseF eN.ex rfl mN rfl rfl (qac qe_str qa_nil))) qss_nil)
      (qss_cons (qs_set (i := 1) scReadLayout.nd rfl (Or.inl rfl) (qe_bm PySem.F.plainAttrs_str PySem.F.slot_str_partition PySem.F.type_str_partition mt_parted (qv 0) (qac qe_str qa_nil)))
      (qss_cons (qs_if (qt_cmpR op_eq (qe_ix ix_tup (qv 1) qe_int (fun _ _ => rfl)) qe_str (nomark _)) (qss_one (qs_raiseF eN.ex rfl mN rfl rfl (qac qe_str qa_nil))) qss_nil)
      (qss_cons (qs_set (i := 2) scReadLayout.nd rfl (Or.inl rfl) (qe_callP pNumberRead hr2 rfl (passF rfl) (qac (qe_ix ix_tup (qv 1) qe_int (fun _ _ => rfl)) qa_nil)))
      (qss_one (qs_ret (qe_callP pLayoutOf hr4 rfl (passF rfl) (qac (qv 2) (qac (qe_callP pBlocksRead hr4 rfl (passF rfl) (qac (qe_ix ix_tup (qv 1) qe_int (fun _ _ => rfl)) qa_nil)) qa_nil))))))))), ?_⟩
    rcases hv with ⟨z, rfl, hB, hW, hWn⟩ | ⟨⟨Ty, hty, hk⟩, qe⟩
    rotate_left
    · exact ⟨_, rfl, _, _, _, _, rfl, hty, rel_ty hk, false, rfl, iteT ⟨by show 1 ≤ sizeLine; decide, fun dx => qe dx _ (Same.refl _)⟩⟩
    refine ⟨_, rfl, _, _, _, _, rfl, .str _, rel_ty (kit_str_str K), true, rfl, iteF ?_⟩
    have hlen := hB.len
    refine ⟨_, rfl, rfl, z, Str.ofString ":", rfl, rfl, by rw [colon_eq]; rfl, Nat.le_trans hlen (by decide), fun m hm => ?_⟩
    rcases part_cases z with ⟨hno, ep⟩ | ⟨h, r, h58, hz, ep⟩
    · rw [ep]
      have s1 := same_new (o := .tup [.str z, .str Str.empty, .str Str.empty]) hm
      refine ⟨_, rfl, m, _, 1, .str Str.empty, rfl, rfl, SqT.of upd_same, rfl, rfl, _, rfl, ifT (congrArg V.str nil_eq.symm) ⟨by show 1 ≤ sizeLine; decide, fun dx => hWn (fun p bs => rd_no_colon hno) dx _ s1⟩⟩
    rw [ep]
    have s1 := same_new (o := .tup [.str h, .str (Str.ofString ":"), .str r]) hm
    have hm1 : L2.upd H m (.tup [.str h, .str (Str.ofString ":"), .str r]) m = some (.tup [.str h, .str (Str.ofString ":"), .str r]) := upd_same
    generalize L2.upd H m (.tup [.str h, .str (Str.ofString ":"), .str r]) = H1 at s1 hm1 ⊢
    refine ⟨_, rfl, m, _, 1, .str (Str.ofString ":"), rfl, rfl, SqT.of hm1, rfl, rfl, _, rfl, ifF (fun e => ?_) ?_⟩
    · injection e with e
      rw [colon_eq, nil_eq] at e
      exact absurd (congrArg Str.length e) (by decide)
    have hLz : L z = L h ++ 58 :: L r := by
      rw [hz, L_app, L_app, colon_eq]
      simp [L]
    have hha : Asc h := fun c hc => hB.asc c (by rw [hLz]; exact List.mem_append_left _ hc)
    have hra : Asc r := fun c hc => hB.asc c (by rw [hLz]; exact List.mem_append_right _ (List.mem_cons_of_mem _ hc))
    have hzl : z.length = h.length + (r.length + 1) := by
      have := congrArg List.length hLz
      rw [L_len, List.length_append, List.length_cons, L_len, L_len] at this
      omega
    have hrd : (L r).count 46 ≤ 3900 := by
      have h1 := hB.dots
      rw [hLz, List.count_append, List.count_cons_of_ne (by decide)] at h1
      omega
    refine ⟨_, rfl, m, _, 0, .str h, rfl, rfl, SqT.of hm1, rfl, h, rfl, hha, by omega, fun hn H2 s2 => ?_, fun hn dx H2 s2 => hWn (fun p bs hR => hn (rd_parts h58 hz hR).1) dx _ (s1.trans s2)⟩
    refine ⟨_, rfl, _, rfl, m, _, 2, .str r, rfl, rfl, SqT.of (s2 _ _ hm1), rfl, r, rfl, hra, by omega, fun he l H3 s3 hl => ?_, fun r' er => ⟨fun bs hbs l ws H3 s3 hl hBl => ?_, fun ⟨y, hy, hyn⟩ dx H3 s3 => hWn (fun p bs hR => ?_) dx _ (s1.trans (s2.trans s3))⟩, fun h0 hno dx H3 s3 => hWn (fun p bs hR => ?_) dx _ (s1.trans (s2.trans s3))⟩
    · obtain ⟨w1, w2⟩ := hW _ _ (rd_of_nil hn (by rw [hz, he]))
      exact ⟨_, l, [], [], rfl, hl, trivial, by simp, by simp, fun pl hpl dx H4 s4 hdx => w1 pl hpl dx _ (s1.trans (s2.trans (s3.trans s4))) hdx, fun hd t H4 s4 hL => w2 hd t _ (s1.trans (s2.trans (s3.trans s4))) hL⟩
    · obtain ⟨w1, w2⟩ := hW _ _ (rd_of_words hn (by rw [hz, er]) hbs)
      have hr'l : r.length = 1 + r'.length := by rw [er, Str.length_append, sp_eq]; rfl
      have hr'd : (L r').count 46 ≤ 3900 := by
        have h1 := hrd
        rw [er, L_app, List.count_append] at h1
        omega
      obtain ⟨b1, b2⟩ := bs_bound (r := r') (by omega) hr'd hbs
      exact ⟨_, l, ws, bs, rfl, hl, hBl, b1, b2, fun pl hpl dx H4 s4 hdx => w1 pl hpl dx _ (s1.trans (s2.trans (s3.trans s4))) hdx, fun hd t H4 s4 hL => w2 hd t _ (s1.trans (s2.trans (s3.trans s4))) hL⟩
    · rcases (rd_parts h58 hz hR).2.2 with ⟨e0, _⟩ | ⟨r0, e0, hb⟩
      · rw [e0, sp_eq] at er
        exact absurd (congrArg Str.length er) (by rw [Str.length_append]; show ¬(0 = 1 + _); omega)
      · have err : r0 = r' := by
          have := congrArg L (e0.symm.trans er)
          rw [L_app, L_app] at this
          exact signs_inj (List.append_cancel_left this)
        subst err
        have : brd y ∈ (Txt.split r0 (Str.ofString " ")).map brd := List.mem_map.mpr ⟨y, hy, rfl⟩
        rw [hb, hyn] at this
        obtain ⟨b, _, e⟩ := List.mem_map.mp this
        cases e
    · rcases (rd_parts h58 hz hR).2.2 with ⟨e0, _⟩ | ⟨r0, e0, hb⟩
      · exact h0 e0
      · exact hno r0 e0
/-! ### the law's reading -/
def numV (s : Str) : V := if NumL (L s) then .int ((valL (L s) : Nat) : Int) else .non
def spFig : Sp := fun vs H Q _ => ∃ s : Str, vs = [.str s] ∧ Asc s ∧ s.length ≤ 1000000 ∧ ∀ H' : Hp, Same H H' → Q (numV s) H'
theorem scLFigures : FnScope ["_law_word"] ["_law_word"] (defScope sLFigures) := ⟨rfl, rfl, rfl, by decide +kernel, rfl, by decide +kernel, by decide +kernel⟩
theorem ok_fig {f : Addr} {fd : FuncData} (F : Fun K "_law_figures" "_law_figures" sLFigures f fd) (T : TxtB mg) : FnOk P w K mg base CX0 1 f fd ["_law_word"] spFig := by
  refine F.okQ scLFigures (fun vs H Q E h => ?_) (fun cdv A outer s H vs Q E hr h => ?_)
  · obtain ⟨z, rfl, _⟩ := h
    rfl
  · obtain ⟨z, rfl, ha, hz0, q⟩ := h
    have hz : z.length ≤ sizeLine := Nat.le_trans hz0 (by decide)
    have hll := L_len z
    refine ⟨_, (qss_cons (qs_if (QW.pt (qw_or (qt_not (qt_chain op_le op_le qe_int (qe_callB call_len_str (by rfl) T.len PySem.boot_len (qac (qv 0) qa_nil)) qe_int)) (qw_or1 (qt_not (qt_val (qe_callB (call_all rfl) (by rfl) T.all (by decide +kernel) (qac (qe_comp (g := gName 0) (N := ["_law_sign"]) (src := [none]) rfl (comp_scope (defScope sLFigures) ["_law_word"] rfl rfl (by decide +kernel) rfl) (qi_str (qv 0)) (fun _ _ _ _ _ => (qg_name (i := 0) (show (["_law_sign"] : List Str).Nodup by decide +kernel) rfl (Or.inl rfl) (Or.inr rfl))) (fun _ _ _ _ _ => qif_nil) (fun _ _ _ _ _ => (qe_cmpR op_in_str (qv 0) qe_str rfl))) qa_nil))))))) (qss_one (qs_ret qe_non)) qss_nil)
      (qss_cons (qs_if (QW.pt (qw_and (qt_cmpR op_eq (qe_ix ix_str (qv 0) qe_int (fun _ _ => rfl)) qe_str (nomark _)) (qw_and1 (qt_cmpR op_ne (qv 0) qe_str (nomark _))))) (qss_one (qs_ret qe_non)) qss_nil)
      (qss_one (qs_ret (qe_callTy call_int_num (by rfl) T.int (by decide +kernel) (qac (qv 0) qa_nil)))))), ?_⟩
    have no : ∀ {H' : Hp}, Same H H' → ¬NumL (L z) → Q .non H' := fun s' hn => by
      have := q _ s'
      unfold numV at this
      rwa [if_neg hn] at this
    refine ⟨_, rfl, z, rfl, hz, _, _, rfl, rfl, _, rfl, ?_⟩
    by_cases h1 : (1 : Int) ≤ ((z.length : Nat) : Int)
    rotate_left
    · exact ifF h1 ⟨_, rfl, iteT (iteT (no (Same.refl _) fun hn => by have := hn.1; omega))⟩
    refine ifT h1 ⟨_, _, rfl, rfl, _, rfl, ?_⟩
    by_cases h4 : ((z.length : Nat) : Int) ≤ 4
    rotate_left
    · rw [decide_eq_false h4]
      exact iteT (iteT (no (Same.refl _) fun hn => by have := hn.2.1; omega))
    rw [decide_eq_true h4]
    refine iteF ?_
    refine ⟨_, rfl, z, rfl, ha.all, comp_str (fun i ys H2 => H2 = H ∧ ys = (((L z).take i).map figB).map V.bl) ⟨rfl, rfl⟩ ?_ ?_⟩
    · rintro i c ys H2 N hi ⟨rfl, rfl⟩ nx
      have hiL : (L z)[i]? = some c := by rw [← hi]; simp [L]
      refine ⟨Weak.set (by intro v z; cases z), ⟨_, rfl, _, _, rfl, rfl, ?_⟩⟩
      rw [in_figB]
      refine ⟨?_, nx _ _ ⟨rfl, ?_⟩⟩
      · rw [List.length_map, List.length_map, List.length_take]
        exact Nat.lt_of_le_of_lt (show min i (L z).length ≤ 4 by omega) (by decide)
      · rw [List.take_add_one, hiL, Option.toList_some, List.map_append, List.map_append]
        rfl
    rintro ys H2 ⟨eH, rfl⟩
    cases eH
    rw [show z.length = (L z).length from hll.symm, List.take_length]
    refine ⟨by rw [List.length_map, List.length_map, hll]; exact hz, fun r hr => ?_⟩
    have s1 := same_new (o := .lst (((L z).map figB).map V.bl)) hr
    refine ⟨r, (L z).map figB, rfl, SqL.of upd_same, ?_⟩
    by_cases hf : ∀ c ∈ L z, 48 ≤ c ∧ c ≤ 57
    rotate_left
    · refine ⟨false, by rw [Bool.eq_false_iff.mpr (fun e => hf (figs_all.mp e))], iteT (no s1 fun hn => hf hn.2.2.1)⟩
    refine ⟨true, by rw [figs_all.mpr hf], iteF ?_⟩
    obtain ⟨c, r', e⟩ : ∃ c r', L z = c :: r' := by
      cases e : L z with
      | nil =>
        rw [e] at hll
        simp at hll
        omega
      | cons c r' => exact ⟨c, r', rfl⟩
    have yes : NumL (L z) → ∃ n : Int, ([V.str z] : List V) = [.str (Str.ofString (toString n))] ∧ 0 ≤ n ∧ n < 10 ^ 10 ∧ Q (.int n) (L2.upd H r (.lst (((L z).map figB).map V.bl))) := fun hn => by
      obtain ⟨e1, e2⟩ := num_dec hn
      have := q _ s1
      unfold numV at this
      rw [if_pos hn] at this
      exact ⟨((valL (L z) : Nat) : Int), congrArg (fun y => [V.str y]) e1, by omega, by omega, this⟩
    refine ⟨_, rfl, z, 0, c, rfl, rfl, hz, atI_nat (j := 0) (by show (L z)[0]? = _; rw [e]; rfl), rfl, _, rfl, ?_⟩
    by_cases hc : c = 48
    rotate_left
    · refine ifF (fun h => hc (by rw [zero_eq] at h; injection h with h; injection h with h; simpa using h)) (iteF ?_)
      exact ⟨_, rfl, yes ⟨by omega, by omega, hf, .inr (by rw [e]; simpa using hc)⟩⟩
    refine ifT (by rw [zero_eq, hc]) ⟨_, rfl, rfl, _, rfl, ?_⟩
    by_cases h0 : z = Str.ofString "0"
    · refine iteNS (by rw [h0]) ⟨_, rfl, yes ⟨by omega, by omega, hf, .inl ?_⟩⟩
      rw [h0, zero_eq]
    · show if (!decide (V.str z = V.str (Str.ofString "0"))) = true then _ else _
      rw [decide_eq_false (fun h => h0 (by injection h))]
      refine iteT (no s1 fun hn => ?_)
      rcases hn.2.2.2 with h | h
      · exact h0 (signs_inj (by show L z = _; rw [h, zero_eq]))
      · rw [e, hc] at h
        exact h rfl
/-- what is told of a text, as it lies -/
def OutAt (H : Hp) (r : V) (s : Str) : Prop := ∃ t, r = .ref t ∧ (((∀ p bs, ¬Rd s p bs) ∧ H t = some (.tup [.str "text", .non])) ∨ ∃ p bs, Rd s p bs ∧ ((∃ pl, dueV (.int ((p : Nat) : Int)) (bs.map nats) = some pl ∧ H t = some (.tup [.str "layout", pl])) ∨ (dueV (.int ((p : Nat) : Int)) (bs.map nats) = none ∧ ∃ u, H t = some (.tup [.str "read", .ref u]) ∧ LayAt H u p bs)))
theorem LayAt.sm {H H' : Hp} {t : Addr} {p : Nat} {bs : List (List Nat)} (h : LayAt H t p bs) (s : Same H H') : LayAt H' t p bs := by
  obtain ⟨u, vs, cs, h1, h2, h3, h4⟩ := h.it
  exact ⟨u, vs, cs, s _ _ h1, s _ _ h2, h3.sm s, h4⟩
theorem OutAt.sm {H H' : Hp} (s : Same H H') {r : V} {z : Str} (h : OutAt H r z) : OutAt H' r z := by
  obtain ⟨t, e, h⟩ := h
  refine ⟨t, e, ?_⟩
  rcases h with ⟨h1, h2⟩ | ⟨p, bs, hR, ⟨pl, h1, h2⟩ | ⟨h1, u, h2, h3⟩⟩
  · exact .inl ⟨h1, s _ _ h2⟩
  · exact .inr ⟨p, bs, hR, .inl ⟨pl, h1, s _ _ h2⟩⟩
  · exact .inr ⟨p, bs, hR, .inr ⟨h1, u, s _ _ h2, h3.sm s⟩⟩
def spReading : Sp := fun vs H Q _ => ∃ s : Str, vs = [.str s] ∧ TxB s ∧ ∀ r H', Same H H' → OutAt H' r s → Q r H'
theorem scLReading : FnScope ["_law_text_here", "_law_words", "_law_first", "_law_blocks", "_law_word", "_law_block", "_law_points", "_law_place"] ["_law_text_here"] (defScope sLReading) := ⟨rfl, rfl, rfl, by decide +kernel, rfl, by decide +kernel, by decide +kernel⟩
theorem numV_flat (s : Str) : flatV (numV s) = true := by
  unfold numV
  split <;> rfl
theorem non_in {ps : List Str} : inV V.non (ps.map numV) = true ↔ ∃ p ∈ ps, ¬NumL (L p) := by
  unfold inV
  rw [List.any_map, List.any_eq_true]
  constructor
  · rintro ⟨p, hp, h⟩
    refine ⟨p, hp, fun hn => ?_⟩
    simp only [Function.comp_apply, numV, if_pos hn] at h
    simp [eqV] at h
  · rintro ⟨p, hp, h⟩
    refine ⟨p, hp, ?_⟩
    simp only [Function.comp_apply, numV, if_neg h]
    rfl
theorem numV_nats {ps : List Str} (h : ∀ p ∈ ps, NumL (L p)) : ps.map numV = nats (ps.map fun p => valL (L p)) := by
  unfold nats
  rw [List.map_map]
  refine List.map_congr_left fun p hp => ?_
  show numV p = _
  unfold numV
  rw [if_pos (h p hp)]
  rfl
theorem ok_reading {f : Addr} {fd : FuncData} (F : Fun K "_law_reading" "_law_reading" sLReading f fd) (T : TxtB mg) (pLFigures : Pm P w K mg base CX0 1 "_law_figures" ["_law_word"] spFig) : FnOk P w K mg base CX0 2 f fd ["_law_text_here"] spReading := by
  refine F.okQ scLReading (fun vs H Q E h => ?_) (fun cdv A outer s H vs Q E hr1 h => ?_)
  · obtain ⟨z, rfl, _⟩ := h
    rfl
  · obtain ⟨z, rfl, hB, q⟩ := h
    refine ⟨_, (qss_cons (qs_set (i := 1) scLReading.nd rfl (Or.inl rfl) (qe_bm PySem.F.plainAttrs_str PySem.F.slot_str_split PySem.F.type_str_split mt_split (qv 0) (qac qe_str qa_nil)))
      (qss_cons (qs_set (i := 2) scLReading.nd rfl (Or.inl rfl) (qe_ix ix_list (qv 1) qe_int (fun _ _ => rfl)))
      (qss_cons (qs_if (QW.pt (qw_or (qt_cmpR op_ne (qe_slice sl_strG (qv 2) (qo_some (qe_un un_neg qe_int)) qo_none) qe_str (nomark _)) (qw_or1 (qt_cmpR op_isN (qe_callP pLFigures hr1 rfl pass0 (qac (qe_slice sl_strG (qv 2) qo_none (qo_some (qe_un un_neg qe_int))) qa_nil)) qe_non (nomark _))))) (qss_one (qs_ret (qe_tup (qac qe_str (qac qe_non qa_nil))))) qss_nil)
      (qss_cons (qs_set (i := 3) scLReading.nd rfl (Or.inl rfl) (qe_lst qa_nil))
      (qss_cons (qs_for PassesOwn.never rfl (qi_list (qe_slice sl_list (qv 1) (qo_some qe_int) qo_none)) (qg_name (i := 4) scLReading.nd rfl (Or.inl rfl))
        (qss_cons (qs_setComp (i := 5) (g := gName 0) (N := ["_law_part"]) (src := [none]) rfl (comp_scope (defScope sLReading) ["_law_text_here", "_law_words", "_law_first", "_law_blocks", "_law_word", "_law_block", "_law_points", "_law_place"] rfl rfl (by decide +kernel) rfl) (qi_list (qe_bm PySem.F.plainAttrs_str PySem.F.slot_str_split PySem.F.type_str_split mt_split (qv 4) (qac qe_str qa_nil))) (fun _ _ _ _ _ => (qg_name (i := 0) (show (["_law_part"] : List Str).Nodup by decide +kernel) rfl (Or.inl rfl) (Or.inr rfl))) (fun _ _ _ _ _ => qif_nil) (fun _ _ _ _ _ => (qe_callP pLFigures hr1 rfl pass0 (qac (qv 0) qa_nil))) (qg_name (i := 5) scLReading.nd rfl (Or.inl rfl)))
        (qss_cons (qs_if (qt_cmpR op_eq (qv 4) qe_str (nomark _)) (qss_one (qs_set (i := 5) scLReading.nd rfl (Or.inl rfl) (qe_lst qa_nil))) qss_nil)
        (qss_cons (qs_if (qt_cmpR op_in_seq qe_non (qv 5) rfl) (qss_one (qs_ret (qe_tup (qac qe_str (qac qe_non qa_nil))))) qss_nil)
        (qss_one (qs_expr (qe_bm PySem.F.plainAttrs_list PySem.F.slot_list_append PySem.F.type_list_append mt_append (qv 3) (qac (qv 5) qa_nil))))))))
      (qss_cons (qs_set (i := 6) scLReading.nd rfl (Or.inr rfl) (qe_callTy call_int_num (by rfl) T.int (by decide +kernel) (qac (qe_slice sl_strG (qv 2) qo_none (qo_some (qe_un un_neg qe_int))) qa_nil)))
      (qss_cons (qs_if (QW.pt (qw_or (qt_not (qt_chain op_lt op_lt qe_int (qv 6) qe_int)) (qw_or1 (qt_cmpR op_gt (qe_callB call_len_seq (by rfl) T.len PySem.boot_len (qac (qv 3) qa_nil)) qe_int (nomark _))))) (qss_one (qs_ret (qe_tup (qac qe_str (qac qe_non qa_nil))))) qss_nil)
      (qss_cons (qs_for PassesOwn.never rfl (qi_range1 rfl T.range (qac (qe_callB call_len_seq (by rfl) T.len PySem.boot_len (qac (qv 3) qa_nil)) qa_nil)) (qg_name (i := 7) scLReading.nd rfl (Or.inl rfl))
        (qss_cons (qs_set (i := 5) scLReading.nd rfl (Or.inl rfl) (qe_ix ix_list (qv 3) (qv 7) (fun _ _ => rfl)))
        (qss_one (qs_if (QW.pt (qw_or (qt_val (qe_callB (call_any rfl) (by rfl) T.any (by decide +kernel) (qac (qe_comp (g := gName 0) (N := ["_law_point", "_law_points"]) (src := [none, some 6]) rfl (comp_scope (defScope sLReading) ["_law_text_here", "_law_words", "_law_first", "_law_blocks", "_law_word", "_law_block", "_law_points", "_law_place"] rfl rfl (by decide +kernel) rfl) (qi_list (qv 5)) (fun _ _ _ _ _ => (qg_name (i := 0) (show (["_law_point", "_law_points"] : List Str).Nodup by decide +kernel) rfl (Or.inl rfl) (Or.inr rfl))) (fun _ _ _ _ _ => qif_nil) (fun _ _ _ _ _ => (qe_cmpR op_ge (qv 0) (qv 1) (nomark _)))) qa_nil))) (qw_or1 (qt_cmpR op_lt (qe_callB call_len_setI (by rfl) T.len PySem.boot_len (qac (qe_callTy (call_setI4 rfl) (by rfl) T.set (by decide +kernel) (qac (qv 5) qa_nil)) qa_nil)) (qe_callB call_len_seq (by rfl) T.len PySem.boot_len (qac (qv 5) qa_nil)) (nomark _))))) (qss_one (qs_ret (qe_tup (qac qe_str (qac (qv 7) qa_nil))))) qss_nil))))
      (qss_one (qs_ret (qe_tup (qac qe_str (qac (qe_tup (qac (qv 6) (qac (qe_callTy call_tuple_of (by rfl) T.tup (by decide +kernel) (qac (qe_comp (g := gName 0) (N := ["_law_block"]) (src := [none]) rfl (comp_scope (defScope sLReading) ["_law_text_here", "_law_words", "_law_first", "_law_blocks", "_law_word", "_law_block", "_law_points", "_law_place"] rfl rfl (by decide +kernel) rfl) (qi_list (qv 3)) (fun _ _ _ _ _ => (qg_name (i := 0) (show (["_law_block"] : List Str).Nodup by decide +kernel) rfl (Or.inl rfl) (Or.inr rfl))) (fun _ _ _ _ _ => qif_nil) (fun _ _ _ _ _ => (qe_callTy (show CallR _ _ (rTupQ K) from call_tupQ) (by rfl) T.tup (by decide +kernel) (qac (qe_callB (show CallR _ _ (rSortI K) from call_sortI) (by rfl) T.sor (by decide +kernel) (qac (qv 0) qa_nil)) qa_nil)))) qa_nil)) qa_nil))) qa_nil))))))))))))), ?_⟩
    have hlen := hB.len
    have hsl := split_len_le z 32
    -- text told
    have text : ∀ {H' : Hp}, Same H H' → (∀ p bs, ¬Rd z p bs) → 2 ≤ sizeLine ∧ ∀ t, H' t = none → Q (.ref t) (L2.upd H' t (.tup [.str "text", .non])) := fun s' hn => ⟨by decide, fun t ht => q _ _ (s'.trans (same_new ht)) ⟨t, rfl, .inl ⟨hn, upd_same⟩⟩⟩
    refine ⟨_, rfl, rfl, z, Str.ofString " ", rfl, rfl, by rw [sp_eq]; rfl, Nat.le_trans hlen (by decide), by rw [sp_eq]; exact Nat.le_trans (Nat.le_trans hsl (Nat.succ_le_succ hlen)) (by decide), fun lw hlw => ?_⟩
    obtain ⟨w0, ws, hws⟩ : ∃ w0 ws, Txt.split z (Str.ofString " ") = w0 :: ws := by
      cases e : Txt.split z (Str.ofString " ") with
      | nil => exact absurd e (split_ne _ _)
      | cons a b => exact ⟨a, b, rfl⟩
    have hwa : ∀ y ∈ w0 :: ws, Asc y ∧ y.length ≤ 900000 ∧ (L y).count 46 ≤ 3900 := fun y hy => by
      rw [← hws, sp_eq] at hy
      exact ⟨split_asc hB.asc hy, Nat.le_trans (split_le hy) hlen, Nat.le_trans ((split_sub hy).count_le 46) hB.dots⟩
    have hwl : ws.length ≤ 900001 := by
      have := congrArg List.length hws
      rw [sp_eq, List.length_cons] at this
      omega
    rw [hws]
    have s1 := same_new (o := .lst ((w0 :: ws).map V.str)) hlw
    have hlw1 : L2.upd H lw (.lst ((w0 :: ws).map V.str)) lw = some (.lst ((w0 :: ws).map V.str)) := upd_same
    generalize L2.upd H lw (.lst ((w0 :: ws).map V.str)) = H1 at s1 hlw1 ⊢
    have hw0 := hwa w0 (List.mem_cons_self ..)
    have hw0s : w0.length ≤ sizeLine := Nat.le_trans hw0.2.1 (by decide)
    refine ⟨_, rfl, lw, _, 0, .str w0, rfl, rfl, SqL.of hlw1, atI_nat (j := 0) rfl, ?_⟩
    -- the first word
    have hfirst : ∀ {h : Str} {ws' : List Str}, Txt.split z (Str.ofString " ") = (h ++ Str.ofString ":") :: ws' → w0 = h ++ Str.ofString ":" ∧ ws = ws' := fun e => by
      rw [hws] at e
      injection e with e1 e2
      exact ⟨e1, e2⟩
    refine ⟨_, rfl, _, rfl, _, rfl, w0, rfl, hw0s, rfl, _, rfl, ?_⟩
    have hlast : ∀ {h : Str}, w0 = h ++ Str.ofString ":" → Txt.slice w0 (some (-1)) none = Str.ofString ":" ∧ Txt.slice w0 none (some (-1)) = h := fun {h} e => by
      have hL : L w0 = L h ++ [58] := by rw [e, L_app, colon_eq]
      have hl : w0.length = h.length + 1 := by
        have := congrArg List.length hL
        rw [L_len, List.length_append, L_len] at this
        exact this
      refine ⟨signs_inj ?_, signs_inj ?_⟩
      · show L _ = L _
        rw [slice_last, hL, hl, Nat.add_sub_cancel, ← L_len h, List.drop_left, colon_eq]
      · show L _ = L _
        rw [slice_to, hL, List.dropLast_concat]
    by_cases hcol : Txt.slice w0 (some (-1)) none = Str.ofString ":"
    rotate_left
    · show if (!decide (V.str (Txt.slice w0 (some (-1)) none) = V.str (Str.ofString ":"))) = true then _ else _
      rw [decide_eq_false (fun e => hcol (by injection e))]
      exact iteT (iteT (text s1 fun p bs hR => by
        obtain ⟨h, ws', hn, _, e2, _⟩ := hR
        exact hcol (hlast (hfirst e2).1).1))
    refine iteNS (congrArg V.str hcol) ?_
    generalize hh : Txt.slice w0 none (some (-1)) = h
    have hLh : L h = (L w0).dropLast := by rw [← hh, slice_to]
    have hw0e : w0 = h ++ Str.ofString ":" := by
      refine signs_inj ?_
      show L w0 = L _
      have h1 := congrArg L hcol
      rw [slice_last, colon_eq] at h1
      have hne : L w0 ≠ [] := fun e => by rw [e] at h1; simp [L] at h1
      rw [L_app, hLh, colon_eq]
      have h2 : (L w0).drop (w0.length - 1) = [58] := h1
      have h3 := (List.take_append_drop (w0.length - 1) (L w0)).symm
      rw [h2] at h3
      rw [List.dropLast_eq_take, L_len]
      exact h3
    have hha : Asc h := fun c hc => hw0.1 c (by rw [hLh] at hc; exact (List.dropLast_sublist _).subset hc)
    have hhl : h.length ≤ 1000000 := by
      have := congrArg List.length hLh
      rw [L_len, List.length_dropLast, L_len] at this
      have := hw0.2.1
      omega
    refine ⟨_, rfl, _, rfl, _, rfl, w0, rfl, hw0s, h, by rw [hh]; rfl, hha, hhl, fun H2 s2 => ⟨rfl, _, rfl, ?_⟩⟩
    by_cases hn : NumL (L h)
    rotate_left
    · unfold numV
      rw [if_neg hn]
      refine ifT rfl (text (s1.trans s2) fun p bs hR => ?_)
      obtain ⟨h', ws', hn', _, e2, _⟩ := hR
      have := (hlast (hfirst e2).1).2
      rw [hh] at this
      rw [this] at hn
      exact hn hn'
    have hnv : numV h = .int ((valL (L h) : Nat) : Int) := if_pos hn
    rw [hnv]
    refine ifF (fun e => by cases e) ?_
    have s12 := s1.trans s2
    have hlw2 := s2 _ _ hlw1
    refine ⟨by show 0 ≤ sizeLine; decide, fun bl hbl => ?_⟩
    have w1 := same_new (o := .lst []) hbl
    have hbl0 : H bl = none := s12.free hbl
    have hblw : bl ≠ lw := fun e => by rw [e, hlw2] at hbl; cases hbl
    have s3 := s12.trans w1
    have hbl3 : L2.upd H2 bl (.lst []) bl = some (.lst []) := upd_same
    have hlw3 := w1 _ _ hlw2
    generalize L2.upd H2 bl (.lst []) = H3 at s3 hbl3 hlw3 ⊢
    have rdw : ∀ {p bs}, Rd z p bs → p = valL (L h) ∧ ws.map brd = bs.map some := fun {p bs} hR => by
      obtain ⟨h', ws', hn', e1, e2, e3⟩ := hR
      obtain ⟨f1, f2⟩ := hfirst e2
      have := (hlast f1).2
      rw [hh] at this
      subst this f2
      exact ⟨e1, e3⟩
    have mkRd : ∀ {bs}, ws.map brd = bs.map some → Rd z (valL (L h)) bs := fun {bs} hb => ⟨h, ws, hn, rfl, by rw [hws, hw0e], hb⟩
    refine ⟨_, rfl, _, rfl, lw, _, rfl, SqL.of hlw3, fun lt hlt => ?_⟩
    rw [show cutV ((w0 :: ws).map V.str) (some 1) none = ws.map V.str from by rw [show ((1 : Int)) = ((1 : Nat) : Int) from rfl, cut_from (by simp)]; rfl]
    have w2 := same_new (o := .lst (ws.map V.str)) hlt
    have hlt0 : H lt = none := s3.free hlt
    have hltb : lt ≠ bl := fun e => by rw [e, hbl3] at hlt; cases hlt
    have s4 := s3.trans w2
    have hbl4 := w2 _ _ hbl3
    have hlt4 : L2.upd H3 lt (.lst (ws.map V.str)) lt = some (.lst (ws.map V.str)) := upd_same
    generalize L2.upd H3 lt (.lst (ws.map V.str)) = H4 at s4 hbl4 hlt4 ⊢
    clear w1 w2 s3 s12 hlw3 hbl3 hlt hbl hlw2 s1 s2 hlw1 hlw
    refine ⟨lt, rfl, ⟨_, SqL.of hlt4⟩, for_list (K := K) (a := lt) (xs := ws.map V.str) (fun i σ H5 => Same H H5 ∧ H5 lt = some (.lst (ws.map V.str)) ∧ (∃ x4 x5 : Option V, σ = [some (.str z), some (.ref lw), some (.str w0), some (.ref bl), x4, x5, none, none]) ∧ ∃ (vs : List V) (bs : List (List Nat)), H5 bl = some (.lst vs) ∧ BlAt H5 vs bs ∧ (∀ a, V.ref a ∈ vs → a ≠ bl) ∧ (ws.take i).map brd = bs.map some) ⟨s4, hlt4, ⟨_, _, rfl⟩, [], [], hbl4, trivial, by simp, rfl⟩ (fun i σ H5 _ ⟨_, h5, _⟩ => SqL.of h5) ?_ ?_⟩
    · rintro i v σ H5 hi ⟨s5, hlt5, ⟨x4, x5, rfl⟩, vs, bs, hbl5, hB5, hne5, hbs5⟩
      obtain ⟨y, hy, rfl⟩ := strs_get hi
      have hym := List.mem_of_getElem? hy
      have hil := (List.getElem?_eq_some_iff.mp hy).1
      obtain ⟨hya, hyl, hyd⟩ := hwa y (List.mem_cons_of_mem _ hym)
      have hysl := split_len_le y 46
      refine ⟨_, rfl, rfl, y, Str.ofString ".", rfl, rfl, by rw [dot_eq]; rfl, Nat.le_trans hyl (by decide), by rw [dot_eq]; exact Nat.le_trans (Nat.le_trans hysl (Nat.succ_le_succ hyl)) (by decide), fun lp hlp => ?_⟩
      generalize hps : Txt.split y (Str.ofString ".") = ps
      have hpa : ∀ t ∈ ps, Asc t ∧ t.length ≤ 1000000 := fun t ht => by
        rw [← hps, dot_eq] at ht
        exact ⟨split_asc hya ht, Nat.le_trans (split_le ht) (by omega)⟩
      have hpl : ps.length ≤ 900001 := by
        rw [← hps, dot_eq]
        omega
      have w1 := same_new (o := .lst (ps.map V.str)) hlp
      have s6 := s5.trans w1
      have hlp6 : L2.upd H5 lp (.lst (ps.map V.str)) lp = some (.lst (ps.map V.str)) := upd_same
      have hlt6 := w1 _ _ hlt5
      have hbl6 := w1 _ _ hbl5
      have hB6 := hB5.same w1
      generalize L2.upd H5 lp (.lst (ps.map V.str)) = H6 at s6 hlp6 hlt6 hbl6 hB6 ⊢
      refine ⟨lp, rfl, ⟨_, SqL.of hlp6⟩, comp_list (K := K) (a := lp) (xs := ps.map V.str) (fun j ys H7 => Same H6 H7 ∧ ys = (ps.take j).map numV) ⟨Same.refl _, rfl⟩ (fun j ys H7 _ ⟨s7, _⟩ => SqL.of (s7 _ _ hlp6)) ?_ ?_⟩
      · rintro j v ys H7 N7 hj ⟨s7, rfl⟩ nx
        obtain ⟨t, ht, rfl⟩ := strs_get hj
        have htm := List.mem_of_getElem? ht
        have hjl := (List.getElem?_eq_some_iff.mp ht).1
        refine ⟨Weak.set (by intro v z; cases z), ⟨_, rfl, t, rfl, (hpa t htm).1, (hpa t htm).2, fun H8 s8 => ⟨?_, nx _ _ ⟨s7.trans s8, ?_⟩⟩⟩⟩
        · rw [List.length_map, List.length_take]
          exact Nat.lt_of_le_of_lt (show min j ps.length ≤ 900001 by omega) (by decide)
        · rw [List.take_add_one, ht, Option.toList_some, List.map_append]
          rfl
      rintro ys H7 ⟨s7, rfl⟩
      rw [show (ps.map V.str).length = ps.length from List.length_map .., List.take_length]
      refine ⟨by rw [List.length_map]; exact Nat.le_trans hpl (by decide), fun lb hlb => ?_⟩
      have w2 := same_new (o := .lst (ps.map numV)) hlb
      have s67 := s7.trans w2
      have hlb8 : L2.upd H7 lb (.lst (ps.map numV)) lb = some (.lst (ps.map numV)) := upd_same
      have hbl7 := s7 _ _ hbl6
      have hlbb : lb ≠ bl := fun e => by rw [e, hbl7] at hlb; cases hlb
      dsimp only [gName]
      generalize L2.upd H7 lb (.lst (ps.map numV)) = H8 at s67 hlb8 ⊢
      refine seqVia (fun σ' H9 => Same H6 H9 ∧ ∃ (d : Addr) (us : List V), σ' = [some (.str z), some (.ref lw), some (.str w0), some (.ref bl), some (.str y), some (.ref d), none, none] ∧ d ≠ bl ∧ H9 d = some (.lst us) ∧ ((∃ b, brd y = some b ∧ us = nats b) ∨ (brd y = none ∧ inV V.non us = true)) ∧ us.all flatV = true ∧ (∀ b, us = nats b → inV V.non us = false)) ?_ (fun D' go => ?_)
      rotate_left
      · have hnn : ∀ b, inV V.non (nats b) = false := fun b => by
          unfold inV nats
          rw [List.any_map, List.any_eq_false]
          intro x _
          simp [eqV]
        refine ⟨_, rfl, rfl, _, rfl, ?_⟩
        by_cases hd : y = Str.ofString "-"
        · refine ifT (by rw [hd]) ⟨by show 0 ≤ sizeLine; decide, fun d hd' => ?_⟩
          have w3 := same_new (o := .lst []) hd'
          have hbl8 := s67 _ _ hbl6
          exact go _ _ ⟨s67.trans w3, d, [], rfl, fun e => by (rw [e, hbl8] at hd'; cases hd'), upd_same, .inl ⟨[], by rw [hd]; exact brd_dash, rfl⟩, rfl, fun b e => by rw [e]; exact hnn b⟩
        · refine ifF (fun e => hd (by injection e)) ?_
          refine go _ _ ⟨s67, lb, ps.map numV, rfl, hlbb, hlb8, ?_, ?_, fun b e => by rw [e]; exact hnn b⟩
          · by_cases hall : ∀ p ∈ ps, NumL (L p)
            · refine .inl ⟨ps.map fun p => valL (L p), ?_, numV_nats hall⟩
              have := brd_some hd (by rw [hps]; exact hall)
              rwa [hps] at this
            · have : ∃ p ∈ ps, ¬NumL (L p) := Classical.byContradiction fun c => hall fun p hp => Classical.byContradiction fun d => c ⟨p, hp, d⟩
              obtain ⟨p, hp, hpn⟩ := this
              exact .inr ⟨brd_none hd (by rw [hps]; exact hp) hpn, non_in.mpr ⟨p, hp, hpn⟩⟩
          · rw [List.all_eq_true]
            intro x hx
            obtain ⟨p, _, rfl⟩ := List.mem_map.mp hx
            exact numV_flat p
      clear hlb8 s67 hlbb hbl7 w2 hlb
      rintro σ' H9 ⟨s9, d, us, rfl, hdb, hd9, hcase, hflat, hno⟩
      refine ⟨_, rfl, d, us, rfl, .inl (SqL.of hd9), rfl, hflat, _, rfl, ?_⟩
      rw [if_neg (by decide)]
      rcases hcase with ⟨b, hb, rfl⟩ | ⟨hb, hin⟩
      rotate_left
      · rw [hin]
        refine iteT (text (s6.trans s9) fun p bs' hR => ?_)
        have := (rdw hR).2
        have h1 : brd y ∈ ws.map brd := List.mem_map.mpr ⟨y, hym, rfl⟩
        rw [this, hb] at h1
        obtain ⟨c, _, e⟩ := List.mem_map.mp h1
        cases e
      rw [hno b rfl]
      refine iteF ?_
      have hbl9 := s9 _ _ hbl6
      have hvl := hB5.len
      have hbsl := congrArg List.length hbs5
      rw [List.length_map, List.length_map, List.length_take] at hbsl
      refine ⟨_, rfl, .inl ⟨rfl, _, SqL.of hbl9⟩, _, rfl, bl, vs, _, rfl, rfl, hbl9, Nat.lt_of_le_of_lt (show vs.length ≤ 900001 by omega) (by decide), ?_⟩
      have hne : ∀ a, V.ref a ∈ vs ++ [.ref d] → a ≠ bl := fun a ha => by
        rcases List.mem_append.mp ha with u | u
        · exact hne5 a u
        · cases List.mem_singleton.mp u
          exact hdb
      refine ⟨same_upd (s6.trans s9) hbl0, ?_, ⟨_, _, rfl⟩, vs ++ [.ref d], bs ++ [b], upd_same, ?_, hne, ?_⟩
      · rw [upd_ne hltb]
        exact s9 _ _ hlt6
      · have hBd : BlAt H9 (vs ++ [.ref d]) (bs ++ [b]) := (hB6.same s9).snoc hd9
        refine hBd.imp fun a xs ha hax => ?_
        rw [upd_ne (hne a ha)]
        exact hax
      · rw [List.take_add_one, hy, Option.toList_some, List.map_append, hbs5, List.map_append, List.map_cons, hb]
        rfl
    · rintro σ H5 ⟨s5, hlt5, ⟨x4, x5, rfl⟩, vs, bs, hbl5, hB5, hne5, hbs5⟩
      rw [List.length_map, List.take_length] at hbs5
      have hR := mkRd hbs5
      have hvl := hB5.len
      obtain ⟨e1, e2⟩ := num_dec hn
      generalize hp : valL (L h) = p at hR e1 e2
      have hbsl := congrArg List.length hbs5
      rw [List.length_map, List.length_map] at hbsl
      have hb4 : ∀ b ∈ bs, b.length ≤ 4000 := fun b hb => by
        have : some b ∈ bs.map some := List.mem_map.mpr ⟨b, hb, rfl⟩
        rw [← hbs5] at this
        obtain ⟨y, hy, e⟩ := List.mem_map.mp this
        have h1 := (brd_len e).1
        have h2 := (hwa y (List.mem_cons_of_mem _ hy)).2.2
        omega
      have lay : ∀ {H' : Hp} {pl : V}, Same H H' → dueV (.int ((p : Nat) : Int)) (bs.map nats) = some pl → 2 ≤ sizeLine ∧ ∀ t, H' t = none → Q (.ref t) (L2.upd H' t (.tup [.str "layout", pl])) := fun {H' pl} s' hd => ⟨by decide, fun t ht => q _ _ (s'.trans (same_new ht)) ⟨t, rfl, .inr ⟨p, bs, hR, .inl ⟨pl, hd, upd_same⟩⟩⟩⟩
      refine ⟨_, rfl, _, rfl, _, rfl, w0, rfl, hw0s, ((p : Nat) : Int), by rw [hh]; exact congrArg (fun y => [V.str y]) e1, by omega, by omega, ?_⟩
      refine ⟨_, rfl, _, _, rfl, rfl, _, rfl, ?_⟩
      have hml : (bs.map nats).length = bs.length := List.length_map ..
      by_cases h0 : (0 : Int) < ((p : Nat) : Int)
      rotate_left
      · exact ifF h0 ⟨_, rfl, iteT (iteT (lay s5 (due_odd (decide_eq_false fun z => h0 (by omega)))))⟩
      refine ifT h0 ⟨_, _, rfl, rfl, _, rfl, ?_⟩
      by_cases h61 : ((p : Nat) : Int) < 61
      rotate_left
      · rw [decide_eq_false h61]
        exact iteT (iteT (lay s5 (due_odd (decide_eq_false fun z => h61 (by omega)))))
      rw [decide_eq_true h61]
      refine iteF ?_
      refine ⟨_, rfl, bl, vs, rfl, .inl (SqL.of hbl5), _, _, rfl, rfl, _, rfl, ?_⟩
      by_cases h200 : ((vs.length : Nat) : Int) > 200
      · exact ifT h200 (lay s5 (due_many (by rw [hml]; omega)))
      refine ifF h200 ?_
      have hn1 : 1 ≤ p := by omega
      have hn2 : p ≤ 60 := by omega
      have h3 : (bs.map nats).length ≤ 200 := by rw [hml]; omega
      refine ⟨_, rfl, bl, vs, rfl, .inl (SqL.of hbl5), ((vs.length : Nat) : Int), rfl, by omega, by omega, ?_⟩
      rw [Int.toNat_natCast, hvl]
      refine for_range (lo := 0) (n := bs.length) (fun i σ H6 => Same H5 H6 ∧ (∃ x4 x5 x7 : Option V, σ = [some (.str z), some (.ref lw), some (.str w0), some (.ref bl), x4, x5, some (.int ((p : Nat) : Int)), x7]) ∧ ∀ (j : Nat) ys, j < i → (bs.map nats)[j]? = some ys → okB p ys = true) ⟨Same.refl _, ⟨_, _, _, rfl⟩, fun j ys h => absurd h (Nat.not_lt_zero _)⟩ ?_ ?_
      · rintro i σ H6 hi ⟨s6, ⟨y4, y5, y7, rfl⟩, hok⟩
        rw [Int.zero_add]
        have gv : vs[i]? = some (vs[i]'(by omega)) := List.getElem?_eq_getElem _
        obtain ⟨a, b, ea, hb, ha⟩ := (hB5.same s6).get gv
        rw [ea] at gv
        have hbm := List.mem_of_getElem? hb
        have hbn : (bs.map nats)[i]? = some (nats b) := by rw [List.getElem?_map, hb]; rfl
        refine ⟨_, rfl, _, rfl, bl, _, _, _, rfl, rfl, SqL.of (s6 _ _ hbl5), atI_nat gv, ?_⟩
        refine ⟨_, rfl, a, rfl, ⟨_, SqL.of ha⟩, comp_list (K := K) (a := a) (xs := nats b) (fun j zs H7 => H7 = H6 ∧ zs = ((b.take j).map fun x => decide (p ≤ x)).map V.bl) ⟨rfl, rfl⟩ (fun j zs H7 _ ⟨e, _⟩ => SqL.of (e ▸ ha)) ?_ ?_⟩
        · rintro j v zs H7 N7 hj ⟨rfl, rfl⟩ nx
          obtain ⟨x, hx, rfl⟩ := L2.nats_get hj
          have hjl := (List.getElem?_eq_some_iff.mp hx).1
          have hb4' := hb4 b hbm
          refine ⟨Weak.set (by intro v z; cases z), ⟨_, rfl, _, rfl, _, _, rfl, rfl, ?_, nx _ _ ⟨rfl, ?_⟩⟩⟩
          · rw [List.length_map, List.length_map, List.length_take]
            exact Nat.lt_of_le_of_lt (show min j b.length ≤ 4000 by omega) (by decide)
          · rw [List.take_add_one, hx, Option.toList_some, List.map_append, List.map_append]
            have : decide (((x : Nat) : Int) ≥ ((p : Nat) : Int)) = decide (p ≤ x) := decide_eq_decide.mpr (by omega)
            simp only [List.map_cons, List.map_nil]
            rw [← this]
        rintro zs H7 ⟨rfl, rfl⟩
        rw [nats_len, List.take_length]
        have hb4' := hb4 b hbm
        refine ⟨by rw [List.length_map, List.length_map]; exact Nat.le_trans hb4' (by decide), fun r hr' => ?_⟩
        have w1 := same_new (o := .lst ((b.map fun x => decide (p ≤ x)).map V.bl)) hr'
        refine ⟨r, b.map fun x => decide (p ≤ x), rfl, SqL.of upd_same, _, rfl, ?_⟩
        have bad : okB p (nats b) = false → dueV (.int ((p : Nat) : Int)) (bs.map nats) = some (.int ((i : Nat) : Int)) := fun hbad => due_first hn1 hn2 h3 hbn hbad hok
        by_cases hany : ∃ x ∈ b, p ≤ x
        · obtain ⟨x, hx, hpx⟩ := hany
          have e : ((b.map fun x => decide (p ≤ x)).any id) = true := by
            rw [List.any_map, List.any_eq_true]
            exact ⟨x, hx, decide_eq_true hpx⟩
          rw [e]
          refine iteT (iteT ⟨_, rfl, lay (s5.trans (s6.trans w1)) (bad ?_)⟩)
          rw [Bool.eq_false_iff]
          intro h
          obtain ⟨c, ec, hc⟩ := okB_iff.mp h
          have := hc.lt x (by rw [← nats_inj ec]; exact hx)
          omega
        have hlt : ∀ x ∈ b, x < p := fun x hx => Classical.byContradiction fun c => hany ⟨x, hx, by omega⟩
        have e : ((b.map fun x => decide (p ≤ x)).any id) = false := by
          rw [List.any_map, List.any_eq_false]
          intro x hx
          have := hlt x hx
          simp
          omega
        rw [e]
        refine iteF ?_
        have ha7 := w1 _ _ ha
        refine ⟨_, rfl, a, b.map fun x => ((x : Nat) : Int), rfl, by rw [← nats_ints]; exact SqL.of ha7, by rw [List.length_map]; exact hb4', fun ls S n hls hnd hle => ?_⟩
        have w2 := same_new (o := .set S n) hls
        refine ⟨ls, S, n, rfl, upd_same, _, rfl, a, nats b, rfl, .inl (SqL.of (w2 _ _ ha7)), _, _, rfl, rfl, _, rfl, ?_⟩
        rw [List.length_map] at hnd hle
        have hndb : (b.map fun x => ((x : Nat) : Int)).Nodup ↔ b.Nodup := by
          rw [List.nodup_iff_pairwise_ne, List.nodup_iff_pairwise_ne, List.pairwise_map]
          exact ⟨fun h => h.imp fun z e => z (by rw [e]), fun h => h.imp fun z e => z (Int.ofNat.inj e)⟩
        rw [hndb] at hnd
        by_cases hdup : ((n : Nat) : Int) < (((nats b).length : Nat) : Int)
        · refine ifT hdup ⟨_, rfl, lay (s5.trans (s6.trans (w1.trans w2))) (bad ?_)⟩
          rw [Bool.eq_false_iff]
          intro h
          obtain ⟨c, ec, hc⟩ := okB_iff.mp h
          have := hnd.mpr (by rw [nats_inj ec]; exact hc.nd)
          rw [nats_len] at hdup
          omega
        · refine ifF hdup ⟨s6.trans (w1.trans w2), ⟨_, _, _, rfl⟩, fun j ys hj hys => ?_⟩
          by_cases hji : j < i
          · exact hok j ys hji hys
          · rw [show j = i by omega, hbn] at hys
            cases hys
            rw [nats_len] at hdup
            exact okB_iff.mpr ⟨b, rfl, hnd.mp (by omega), hlt⟩
      · rintro σ H6 ⟨s6, ⟨y4, y5, y7, rfl⟩, hok⟩
        have hall : ∀ xs ∈ bs.map nats, okB p xs = true := fun xs hxs => by
          obtain ⟨k, hk⟩ := List.getElem?_of_mem hxs
          refine hok k xs ?_ hk
          have := (List.getElem?_eq_some_iff.mp hk).1
          rwa [hml] at this
        have hd := due_none hn1 hn2 h3 hall
        have hblk : ∀ b ∈ bs, Blk p b := fun b hb => by
          obtain ⟨c, ec, hc⟩ := okB_iff.mp (hall (nats b) (List.mem_map.mpr ⟨b, hb, rfl⟩))
          rw [nats_inj ec]
          exact hc
        have hbl6 := s6 _ _ hbl5
        refine ⟨_, rfl, _, rfl, bl, rfl, ⟨_, SqL.of hbl6⟩, comp_list (K := K) (a := bl) (xs := vs) (fun i zs H7 => Same H6 H7 ∧ ∃ cs, TpAt H7 zs cs ∧ Srt cs (bs.take i)) ⟨Same.refl _, [], trivial, trivial⟩ (fun i zs H7 _ ⟨e, _⟩ => SqL.of (e _ _ hbl6)) ?_ ?_⟩
        · rintro i v zs H7 N7 hi ⟨s7, cs, hT, hS⟩ nx
          obtain ⟨a, b, rfl, hb, ha⟩ := (hB5.same (s6.trans s7)).get hi
          have hbb := hblk b (List.mem_of_getElem? hb)
          have hbl60 := hbb.len
          refine ⟨Weak.set (by intro v z; cases z), ⟨_, rfl, a, b.map fun x => ((x : Nat) : Int), rfl, by rw [← nats_ints]; exact SqL.of ha, by rw [List.length_map]; omega, fun l1 ns hl1 hp1 hs1 => ?_⟩⟩
          obtain ⟨c, ec, hpc, hsc⟩ := back_nats hp1 hs1
          rw [ec]
          have w1 := same_new (o := .lst (nats c)) hl1
          refine ⟨l1, nats c, rfl, .inl ⟨SqL.of upd_same, fun t ht => ⟨?_, nx _ _ ⟨s7.trans (w1.trans (same_new ht)), cs ++ [c], ((hT.sm w1).sm (same_new ht)).snoc upd_same, ?_⟩⟩⟩⟩
          · rw [hT.len, hS.len, List.length_take]
            exact Nat.lt_of_le_of_lt (show min i bs.length ≤ 900001 by omega) (by decide)
          · rw [List.take_add_one, hb, Option.toList_some]
            exact hS.snoc hpc hsc
        rintro zs H7 ⟨s7, cs, hT, hS⟩
        rw [hvl, List.take_length] at hS
        refine ⟨by rw [hT.len, hS.len]; exact Nat.le_trans (show bs.length ≤ 900001 by omega) (by decide), fun r hr' => ⟨r, _, rfl, .inl ⟨SqL.of upd_same, fun u hu => ⟨by show 2 ≤ sizeLine; decide, fun t ht => ⟨by show 2 ≤ sizeLine; decide, fun t2 ht2 => ?_⟩⟩⟩⟩⟩
        have w1 := same_new (o := .lst zs) hr'
        have w2 := same_new (o := .tup zs) hu
        have w3 := same_new (o := .tup [.int ((p : Nat) : Int), .ref u]) ht
        have w4 := same_new (o := .tup [.str "read", .ref t]) ht2
        refine q _ _ (s5.trans (s6.trans (s7.trans (w1.trans (w2.trans (w3.trans w4)))))) ⟨t2, rfl, .inr ⟨p, bs, hR, .inr ⟨hd, t, upd_same, ⟨u, zs, cs, w4 _ _ upd_same, (w3.trans w4) _ _ upd_same, hT.sm (w1.trans (w2.trans (w3.trans w4))), hS⟩⟩⟩⟩
theorem kit_nones {K : PySem.W.Frag} {t : Value} : ∀ {cs : List Addr}, (∀ c ∈ cs, PySem.W.kitOne K t (.ref c) = some false) → ∀ us, Vals (cs.map V.ref) us → PySem.W.kitAny K t us = some false
  | [], _, us, r => by cases r; rfl
  | c :: cs, h, us, r => by
    cases r with
    | cons r1 r2 =>
      cases r1
      unfold PySem.W.kitAny
      rw [h c (by simp)]
      exact kit_nones (fun c' hc' => h c' (List.mem_cons_of_mem _ hc')) _ r2
theorem kit_non_bool (K : PySem.W.Frag) : PySem.W.kitOne K (.type "NoneType") (.type "bool") = some false := by kernel_rfl
def spToldT (K : PySem.W.Frag) : Sp := fun vs H Q _ => ∃ v : V, vs = [v] ∧ ((∃ s, v = .str s ∧ TxB s ∧ ∀ r H', Same H H' → OutAt H' r s → Q r H') ∨ (NoStr K H v ∧ ∀ t H', Same H H' → H' t = some (.tup [.str "text", .non]) → Q (.ref t) H'))
theorem read_via {K : PySem.W.Frag} {N C : Addr} {v : V} {H : Hp} {Q : V → Hp → Prop} {E : XK} {Rr : Str → Prop} (text : Prop) (hv : (∃ s, v = .str s ∧ TxB s ∧ Rr s) ∨ (NoStr K H v ∧ text))
    (h1 : ∀ s, Rr s → ∀ p bs, Rd s p bs → (∀ pl, dueV (.int ((p : Nat) : Int)) (bs.map nats) = some pl → ∀ dx H', Same H H' → H' dx = some (.xd [("place", pl)]) → E (.ref C) (some dx) H') ∧ (dueV (.int ((p : Nat) : Int)) (bs.map nats) = none → ∀ t H', Same H H' → LayAt H' t p bs → Q (.ref t) H'))
    (h2 : ∀ s, Rr s → (∀ p bs, ¬Rd s p bs) → text) (key : text → ∀ dx H', Same H H' → E (.ref N) dx H') : spReadG K N C [v] H Q E := by
  refine ⟨v, rfl, ?_⟩
  rcases hv with ⟨s, e, hB, r⟩ | ⟨hN, ht⟩
  · exact .inl ⟨s, e, hB, h1 s r, fun hn => key (h2 s r hn)⟩
  · exact .inr ⟨hN, key ht⟩
theorem scLTold : FnScope ["_law_text_here", "_law_caught", "_law_found", "e"] ["_law_text_here"] (defScope sLTold) := ⟨rfl, rfl, rfl, by decide +kernel, rfl, by decide +kernel, by decide +kernel⟩
theorem ok_toldT {f fI o1 o2 o3 o4 o5 o6 o7 o8 o9 o10 o11 o12 o13 : Addr} {fd fdI : FuncData} (F : Fun K "_law_told" "_law_told" sLTold f fd) (T : TxtB mg) (D : MarksX K mg M C fI o1 o2 o3 o4 o5 o6 o7 o8 o9 o10 o11 o12 o13 fdI)
    (pRead : Pm P w K mg base (CXD P w) 5 "read_layout" ["text"] (spReadG K o12 C)) : FnOk P w K mg base CX0 6 f fd ["_law_text_here"] (spToldT K) := by
  refine F.okQ scLTold (fun vs H Q E h => ?_) (fun cdv A outer s H vs Q E hr5 h => ?_)
  · obtain ⟨v, rfl, _⟩ := h
    rfl
  · obtain ⟨v, rfl, hv⟩ := h
    refine ⟨_, (qss_cons (qs_set (i := 1) scLTold.nd rfl (Or.inl rfl) qe_non)
      (qss_cons (qs_set (i := 2) scLTold.nd rfl (Or.inl rfl) qe_non)
      (qss_cons (qs_tryK (tb := _) (i := 3) rfl rfl rfl (fun pn E0 σ0 => qss_one (qs_set (i := 2) scLTold.nd rfl (Or.inl rfl) (qe_callR0 pRead hr5 rfl (passTK rfl) (qac (qv 0) qa_nil)))) rfl D.mM D.R.eM scLTold.nd rfl rfl (fun e => qss_one (qs_set (i := 1) scLTold.nd rfl (Or.inl rfl) (qv 3))))
      (qss_cons (qs_if (qt_cmpR op_isN (qv 1) qe_non (nomark _)) (qss_one (qs_ret (qe_tup (qac qe_str (qac (qv 2) qa_nil))))) qss_nil)
      (qss_cons (qs_if (qt_val (qe_callB (show CallR _ _ (rIsUT K) from call_isinstUT D.R.cl) (by rfl) T.isi PyProof.Rows.boot_isinstance (qac (qv 1) (qac (qe_tup (qac (qe_glob (v := .ref o1) rfl D.m1 rfl) (qac (qe_glob (v := .ref o2) rfl D.m2 rfl) (qac (qe_glob (v := .ref o3) rfl D.m3 rfl) (qac (qe_glob (v := .ref o4) rfl D.m4 rfl) (qac (qe_glob (v := .ref o5) rfl D.m5 rfl) (qac (qe_glob (v := .ref o6) rfl D.m6 rfl) (qac (qe_glob (v := .ref o7) rfl D.m7 rfl) (qac (qe_glob (v := .ref o8) rfl D.m8 rfl) (qac (qe_glob (v := .ref o9) rfl D.m9 rfl) (qac (qe_glob (v := .ref o10) rfl D.m10 rfl) qa_nil))))))))))) qa_nil)))) (qss_one (qs_ret (qe_tup (qac qe_str (qac qe_non qa_nil))))) qss_nil)
      (qss_cons (qs_if (QW.pt (qw_or (qt_val (qe_callB (show CallR _ _ (rIsUT K) from call_isinstUT D.R.cl) (by rfl) T.isi PyProof.Rows.boot_isinstance (qac (qv 1) (qac (qe_tup (qac (qe_glob (v := .ref o11) rfl D.m11 rfl) (qac (qe_glob (v := .ref o13) rfl D.m13 rfl) qa_nil))) qa_nil)))) (qw_or1 (qt_not (qt_val (qe_callB (show CallR _ _ (rIsU K) from call_isinstU D.R.cl) (by rfl) T.isi PyProof.Rows.boot_isinstance (qac (qv 1) (qac (qe_bltn (v := .ty "ValueError") rfl D.mV (by decide +kernel) rfl) qa_nil)))))))) (qss_one (qs_ret (qe_tup (qac qe_str (qac qe_non qa_nil))))) qss_nil)
      (qss_cons (qs_if (QW.pt (qw_and (qt_val (qe_callB (show CallR _ _ (rIsU K) from call_isinstU D.R.cl) (by rfl) T.isi PyProof.Rows.boot_isinstance (qac (qv 1) (qac (qe_glob (v := .ref o12) rfl D.m12 rfl) qa_nil)))) (qw_and1 (qt_not (qt_val (qe_callB (show CallR _ _ (rIsU K) from call_isinstU D.R.cl) (by rfl) T.isi PyProof.Rows.boot_isinstance (qac (qv 1) (qac (qe_glob (v := .ref C) rfl D.mC rfl) qa_nil)))))))) (qss_one (qs_ret (qe_tup (qac qe_str (qac qe_non qa_nil))))) qss_nil)
      (qss_cons (qs_if (QW.pt (qw_and (qt_val (qe_callB (show CallR _ _ (rIsU K) from call_isinstU D.R.cl) (by rfl) T.isi PyProof.Rows.boot_isinstance (qac (qv 1) (qac (qe_glob (v := .ref C) rfl D.mC rfl) qa_nil)))) (qw_and (qt_not (qt_val (qe_callB (show CallR _ _ (rIsU K) from call_isinstU D.R.cl) (by rfl) T.isi PyProof.Rows.boot_isinstance (qac (qv 1) (qac (qe_glob (v := .ref o12) rfl D.m12 rfl) qa_nil))))) (qw_and1 (qt_not (qt_val (qe_callB call_isinst (by rfl) T.isi PyProof.Rows.boot_isinstance (qac (show QE _ _ (tXFld K _ _) from qe_xfld (qv 1)) (qac (qe_bltn (v := .ty "bool") rfl T.bool (by decide +kernel) rfl) qa_nil))))))))) (qss_one (qs_ret (qe_tup (qac qe_str (qac (show QE _ _ (tXFld K _ _) from qe_xfld (qv 1)) qa_nil))))) qss_nil)
      (qss_one (qs_ret (qe_tup (qac qe_str (qac qe_non qa_nil))))))))))))), ?_⟩
    refine ⟨rfl, _, rfl, read_via (∀ t H', Same H H' → H' t = some (.tup [.str "text", .non]) → Q (.ref t) H') hv (fun z q p bs hR => ⟨fun pl hd dx H1 s1 hdx => ?_, fun hd t H1 s1 hL => ?_⟩) (fun z q hn t H' s' ht => q _ _ s' ⟨t, rfl, .inl ⟨hn, ht⟩⟩) (fun q dx H1 s1 => ?_)⟩
    · refine ⟨C, rfl, D.R.sub, fun x hx => ?_⟩
      have w1 := same_new (o := XD x C (some dx)) hx
      have hdx1 := w1 _ _ hdx
      have hx1 : (L2.upd H1 x (XD x C (some dx))) x = some (XD x C (some dx)) := upd_same
      have s2 := s1.trans w1
      generalize L2.upd H1 x (XD x C (some dx)) = H2 at hdx1 hx1 s2 ⊢
      refine ⟨_, rfl, ?_⟩
      refine ⟨_, rfl, rfl, _, rfl, ifF (fun e => by cases e) ?_⟩
      refine ⟨_, rfl, by show 10 ≤ sizeLine; decide, fun tp htp => ?_⟩
      have w2 := same_new (o := .tup [V.ref o1, V.ref o2, V.ref o3, V.ref o4, V.ref o5, V.ref o6, V.ref o7, V.ref o8, V.ref o9, V.ref o10]) htp
      have ht2 : (L2.upd H2 tp (.tup [V.ref o1, V.ref o2, V.ref o3, V.ref o4, V.ref o5, V.ref o6, V.ref o7, V.ref o8, V.ref o9, V.ref o10])) tp = some (.tup [V.ref o1, V.ref o2, V.ref o3, V.ref o4, V.ref o5, V.ref o6, V.ref o7, V.ref o8, V.ref o9, V.ref o10]) := upd_same
      have s3 := s2.trans w2
      have hx3 := w2 _ _ hx1
      have hdx3 := w2 _ _ hdx1
      generalize L2.upd H2 tp (.tup [V.ref o1, V.ref o2, V.ref o3, V.ref o4, V.ref o5, V.ref o6, V.ref o7, V.ref o8, V.ref o9, V.ref o10]) = H3 at ht2 s3 hx3 hdx3 ⊢
      refine ⟨x, C, _, tp, _, false, rfl, hx3, .inl D.R.eC, ht2, kit_nones (cs := [o1, o2, o3, o4, o5, o6, o7, o8, o9, o10]) (fun c hc => ?_), _, rfl, iteF ?_⟩
      · simp only [List.mem_cons, List.not_mem_nil, or_false] at hc
        rcases hc with rfl | rfl | rfl | rfl | rfl | rfl | rfl | rfl | rfl | rfl
        · exact D.R.q1
        · exact D.R.q2
        · exact D.R.q3
        · exact D.R.q4
        · exact D.R.q5
        · exact D.R.q6
        · exact D.R.q7
        · exact D.R.q8
        · exact D.R.q9
        · exact D.R.q10
      refine ⟨_, rfl, by show 2 ≤ sizeLine; decide, fun tq htq => ?_⟩
      have w3 := same_new (o := .tup [V.ref o11, V.ref o13]) htq
      have ht4 : (L2.upd H3 tq (.tup [V.ref o11, V.ref o13])) tq = some (.tup [V.ref o11, V.ref o13]) := upd_same
      have s4 := s3.trans w3
      have hx4 := w3 _ _ hx3
      have hdx4 := w3 _ _ hdx3
      generalize L2.upd H3 tq (.tup [V.ref o11, V.ref o13]) = H4 at ht4 s4 hx4 hdx4 ⊢
      refine ⟨x, C, _, tq, _, false, rfl, hx4, .inl D.R.eC, ht4, kit_nones (cs := [o11, o13]) (fun c hc => ?_), _, rfl, iteF ?_⟩
      · simp only [List.mem_cons, List.not_mem_nil, or_false] at hc
        rcases hc with rfl | rfl
        · exact D.R.q11
        · exact D.R.q13
      refine ⟨_, rfl, x, C, _, _, true, rfl, hx4, .inl D.R.eC, rel_ty D.R.kV, _, rfl, iteF ?_⟩
      refine ⟨_, rfl, x, C, _, _, false, rfl, hx4, .inl D.R.eC, rel_ref D.R.q12, _, rfl, iteF (iteF ?_)⟩
      refine ⟨_, rfl, x, C, _, _, true, rfl, hx4, .inl D.R.eC, rel_ref D.R.kC, _, rfl, iteT ?_⟩
      refine ⟨_, rfl, x, C, _, _, false, rfl, hx4, .inl D.R.eC, rel_ref D.R.q12, _, rfl, iteT ?_⟩
      have hk := due_kind hd
      refine ⟨_, rfl, x, C, fI, dx, _, pl, rfl, hx4, hdx4, D.R.O, by rfl, hk, ?_⟩
      have fin : 2 ≤ sizeLine ∧ ∀ p', H4 p' = none → Q (.ref p') (L2.upd H4 p' (.tup [.str "layout", pl])) := ⟨by decide, fun p' hp' => q _ _ (s4.trans (same_new hp')) ⟨p', rfl, .inr ⟨p, bs, hR, .inl ⟨pl, hd, upd_same⟩⟩⟩⟩
      rcases hk with ⟨k, rfl⟩ | rfl
      · refine ⟨_, _, _, _, rfl, .int k, rel_ty (kit_int_bool K), _, rfl, iteT ?_⟩
        exact ⟨_, rfl, x, C, fI, dx, _, _, rfl, hx4, hdx4, D.R.O, by rfl, .inl ⟨_, rfl⟩, fin⟩
      · refine ⟨_, _, _, _, rfl, .non, rel_ty (kit_non_bool K), _, rfl, iteT ?_⟩
        exact ⟨_, rfl, x, C, fI, dx, _, _, rfl, hx4, hdx4, D.R.O, by rfl, .inr rfl, fin⟩
    · refine ⟨_, rfl, rfl, _, rfl, ifT rfl ?_⟩
      refine ⟨_, rfl, by show 2 ≤ sizeLine; decide, fun t2 ht2 => ?_⟩
      exact q _ _ (s1.trans (same_new ht2)) ⟨t2, rfl, .inr ⟨p, bs, hR, .inr ⟨hd, t, upd_same, hL.sm (same_new ht2)⟩⟩⟩
    · refine ⟨o12, rfl, D.R.subT, fun x hx => ?_⟩
      have w1 := same_new (o := XD x o12 dx) hx
      have hx1 : (L2.upd H1 x (XD x o12 dx)) x = some (XD x o12 dx) := upd_same
      have s2 := s1.trans w1
      generalize L2.upd H1 x (XD x o12 dx) = H2 at hx1 s2 ⊢
      refine ⟨_, rfl, ?_⟩
      refine ⟨_, rfl, rfl, _, rfl, ifF (fun e => by cases e) ?_⟩
      refine ⟨_, rfl, by show 10 ≤ sizeLine; decide, fun tp htp => ?_⟩
      have w2 := same_new (o := .tup [V.ref o1, V.ref o2, V.ref o3, V.ref o4, V.ref o5, V.ref o6, V.ref o7, V.ref o8, V.ref o9, V.ref o10]) htp
      have ht2 : (L2.upd H2 tp (.tup [V.ref o1, V.ref o2, V.ref o3, V.ref o4, V.ref o5, V.ref o6, V.ref o7, V.ref o8, V.ref o9, V.ref o10])) tp = some (.tup [V.ref o1, V.ref o2, V.ref o3, V.ref o4, V.ref o5, V.ref o6, V.ref o7, V.ref o8, V.ref o9, V.ref o10]) := upd_same
      have s3 := s2.trans w2
      have hx3 := w2 _ _ hx1
      generalize L2.upd H2 tp (.tup [V.ref o1, V.ref o2, V.ref o3, V.ref o4, V.ref o5, V.ref o6, V.ref o7, V.ref o8, V.ref o9, V.ref o10]) = H3 at ht2 s3 hx3 ⊢
      refine ⟨x, o12, _, tp, _, false, rfl, hx3, .inr D.R.eT, ht2, kit_nones (cs := [o1, o2, o3, o4, o5, o6, o7, o8, o9, o10]) (fun c hc => ?_), _, rfl, iteF ?_⟩
      · simp only [List.mem_cons, List.not_mem_nil, or_false] at hc
        rcases hc with rfl | rfl | rfl | rfl | rfl | rfl | rfl | rfl | rfl | rfl
        · exact D.R.t1
        · exact D.R.t2
        · exact D.R.t3
        · exact D.R.t4
        · exact D.R.t5
        · exact D.R.t6
        · exact D.R.t7
        · exact D.R.t8
        · exact D.R.t9
        · exact D.R.t10
      refine ⟨_, rfl, by show 2 ≤ sizeLine; decide, fun tq htq => ?_⟩
      have w3 := same_new (o := .tup [V.ref o11, V.ref o13]) htq
      have ht4 : (L2.upd H3 tq (.tup [V.ref o11, V.ref o13])) tq = some (.tup [V.ref o11, V.ref o13]) := upd_same
      have s4 := s3.trans w3
      have hx4 := w3 _ _ hx3
      generalize L2.upd H3 tq (.tup [V.ref o11, V.ref o13]) = H4 at ht4 s4 hx4 ⊢
      refine ⟨x, o12, _, tq, _, false, rfl, hx4, .inr D.R.eT, ht4, kit_nones (cs := [o11, o13]) (fun c hc => ?_), _, rfl, iteF ?_⟩
      · simp only [List.mem_cons, List.not_mem_nil, or_false] at hc
        rcases hc with rfl | rfl
        · exact D.R.t11
        · exact D.R.t13
      refine ⟨_, rfl, x, o12, _, _, true, rfl, hx4, .inr D.R.eT, rel_ty D.R.tV, _, rfl, iteF ?_⟩
      refine ⟨_, rfl, x, o12, _, _, true, rfl, hx4, .inr D.R.eT, rel_ref D.R.tT, _, rfl, iteT ?_⟩
      refine ⟨_, rfl, x, o12, _, _, false, rfl, hx4, .inr D.R.eT, rel_ref D.R.tC, _, rfl, iteT ?_⟩
      exact ⟨by show 2 ≤ sizeLine; decide, fun t ht => q t _ (s4.trans (same_new ht)) upd_same⟩
/-! ### the law's text -/
def Bk (b : List Nat) : Prop := (∀ x ∈ b, x ≤ 60) ∧ b.length ≤ 60
theorem bk_of {p : Nat} {b : List Nat} (h : Blk p b) (hp : p ≤ 60) : Bk b := ⟨fun x hx => by have := h.lt x hx; omega, Nat.le_trans h.len hp⟩
theorem log_small {x : Nat} (h : x ≤ 60) : ((x : Nat) : Int).natAbs.log2 < 1920 := by
  rw [Int.natAbs_natCast]
  exact Nat.lt_of_le_of_lt (Nat.log2_le_self x) (by omega)
theorem decs_ok {b : List Nat} (h : Bk b) : JoinOk (Str.ofString ".") (b.map dec) = true := by
  rw [dot_eq]
  exact joinOk_of (a := 2) (n := 60) (fun t ht => by
    obtain ⟨x, hx, rfl⟩ := List.mem_map.mp ht
    exact (dec_len (h.1 x hx)).2) (by rw [List.length_map]; exact h.2) (by decide)
theorem words_ok {p : Nat} {bs : List (List Nat)} (hp : p ≤ 60) (h : ∀ b ∈ bs, Bk b) (hn : bs.length ≤ 201) : JoinOk (Str.ofString " ") ((dec p ++ Str.ofString ":") :: bs.map wd) = true := by
  rw [sp_eq]
  refine joinOk_of (a := 180) (n := 202) (fun t ht => ?_) (by rw [List.length_cons, List.length_map]; omega) (by decide)
  rcases List.mem_cons.mp ht with e | ht
  · rw [e, Str.length_append, colon_eq]
    have a1 := dec_len hp
    have a3 : (⟨#[58]⟩ : Str).length = 1 := rfl
    omega
  · obtain ⟨x, hx, rfl⟩ := List.mem_map.mp ht
    exact wd_len (h x hx).1 (h x hx).2
def spText : Sp := fun vs H Q _ => ∃ (l : Addr) (p : Nat) (ws : List V) (bs : List (List Nat)), vs = [.int (p : Nat), .ref l] ∧ H l = some (.lst ws) ∧ BlAt H ws bs ∧ p ≤ 60 ∧ bs.length ≤ 201 ∧ (∀ b ∈ bs, Bk b) ∧ ∀ H' : Hp, Same H H' → Q (.str (tx p bs)) H'
theorem scLText : FnScope ["_law_points", "_law_blocks", "_law_words", "_law_block"] ["_law_points", "_law_blocks"] (defScope sLText) := ⟨rfl, rfl, rfl, by decide +kernel, rfl, by decide +kernel, by decide +kernel⟩
theorem ok_text {f : Addr} {fd : FuncData} (F : Fun K "_law_text" "_law_text" sLText f fd) (T : TxtB mg) : FnOk P w K mg base CX0 1 f fd ["_law_points", "_law_blocks"] spText := by
  refine F.okQ scLText (fun vs H Q E h => ?_) (fun cdv A outer s H vs Q E hr0 h => ?_)
  · obtain ⟨l, p, ws, bs, rfl, _⟩ := h
    rfl
  · obtain ⟨l, p, ws, bs, rfl, hl, hB, hp, hn, hb, q⟩ := h
    refine ⟨_, (qss_cons (qs_set (i := 2) scLText.nd rfl (Or.inl rfl) (qe_lst (qac (qe_op op_add_str (qe_callTy call_str_int (by rfl) T.str (by decide +kernel) (qac (qv 0) qa_nil)) qe_str) qa_nil)))
      (qss_cons (qs_for PassesOwn.never rfl (qi_list (qv 1)) (qg_name (i := 3) scLText.nd rfl (Or.inl rfl))
        (qss_cons (qs_expr (qe_bm PySem.F.plainAttrs_list PySem.F.slot_list_append PySem.F.type_list_append mt_append (qv 2) (qac qe_str qa_nil)))
        (qss_one (qs_if (qt_cmpR op_gt (qe_callB call_len_seq (by rfl) T.len PySem.boot_len (qac (qv 3) qa_nil)) qe_int (nomark _)) (qss_one (qs_asg (qe_bm PySem.F.plainAttrs_str PySem.F.slot_str_join PySem.F.type_str_join mt_join qe_str (qac (qe_comp (g := gName 0) (N := ["_law_point"]) (src := [none]) rfl (comp_scope (defScope sLText) ["_law_points", "_law_blocks", "_law_words", "_law_block"] rfl rfl (by decide +kernel) rfl) (qi_list (qv 3)) (fun _ _ _ _ _ => (qg_name (i := 0) (show (["_law_point"] : List Str).Nodup by decide +kernel) rfl (Or.inl rfl) (Or.inr rfl))) (fun _ _ _ _ _ => qif_nil) (fun _ _ _ _ _ => (qe_callTy call_str_int (by rfl) T.str (by decide +kernel) (qac (qv 0) qa_nil)))) qa_nil)) (qg_sub (qv 2) (qe_un un_neg qe_int) set_list))) qss_nil))))
      (qss_one (qs_ret (qe_bm PySem.F.plainAttrs_str PySem.F.slot_str_join PySem.F.type_str_join mt_join qe_str (qac (qv 2) qa_nil)))))), ?_⟩
    have hl2 : (dec p).length + (Str.ofString ":").length ≤ sizeLine := by
      have a1 := dec_len hp
      have a3 : (Str.ofString ":").length = 1 := by rw [colon_eq]; rfl
      exact Nat.le_trans (show _ ≤ 10 by omega) (by decide)
    refine ⟨_, rfl, ((p : Nat) : Int), rfl, log_small hp, dec p, Str.ofString ":", rfl, rfl, hl2, by show 1 ≤ sizeLine; decide, fun m hm => ?_⟩
    refine ⟨_, rfl, l, rfl, ⟨_, SqL.of ((same_new hm) _ _ hl)⟩, for_list (K := K) (a := l) (xs := ws) (fun i σ Hx => Same H Hx ∧ Hx m = some (.lst (((dec p ++ Str.ofString ":") :: (bs.take i).map wd).map V.str)) ∧ ∃ x3 : Option V, σ = [some (.int (p : Nat)), some (.ref l), some (.ref m), x3])
      ⟨same_new hm, upd_same, _, rfl⟩ (fun i σ Hx _ ⟨e, _⟩ => SqL.of (e _ _ hl)) ?_ ?_⟩
    · rintro i v σ Hx hi ⟨sx, hmx, x3, rfl⟩
      obtain ⟨a, b, rfl, hbi, ha⟩ := (hB.same sx).get hi
      have hbk := hb b (List.mem_of_getElem? hbi)
      have hxl : (((dec p ++ Str.ofString ":") :: (bs.take i).map wd).map V.str).length ≤ 202 := by
        rw [List.length_map, List.length_cons, List.length_map, List.length_take]
        omega
      have etake : (bs.take (i + 1)).map wd = (bs.take i).map wd ++ [wd b] := by
        rw [List.take_add_one, hbi, Option.toList_some, List.map_append]
        rfl
      have hla : (dec p ++ Str.ofString ":") :: (bs.take (i + 1)).map wd = ((dec p ++ Str.ofString ":") :: (bs.take i).map wd) ++ [wd b] := by
        rw [etake]
        rfl
      have nam : a ≠ m := fun z => by
        rw [z, hmx] at ha
        injection ha with ha
        injection ha with ha
        have := congrArg (fun l : List V => l[0]?) ha
        cases b with
        | nil => cases ha
        | cons y r => cases ha
      generalize hL : (((dec p ++ Str.ofString ":") :: (bs.take i).map wd)) = L at hmx hxl hla
      refine ⟨_, rfl, .inl ⟨rfl, _, SqL.of hmx⟩, m, _, _, rfl, rfl, hmx, Nat.lt_of_le_of_lt hxl (by decide), ?_⟩
      have sx1 : Same H (upd Hx m (.lst (L.map V.str ++ [.str (Str.ofString "-")]))) := same_upd sx hm
      have ha1 : upd Hx m (.lst (L.map V.str ++ [.str (Str.ofString "-")])) a = some (.lst (nats b)) := by
        rw [upd_ne nam]
        exact ha
      have hm1 : upd Hx m (.lst (L.map V.str ++ [.str (Str.ofString "-")])) m = some (.lst (L.map V.str ++ [.str (Str.ofString "-")])) := upd_same
      revert sx1 ha1 hm1
      generalize upd Hx m (.lst (L.map V.str ++ [.str (Str.ofString "-")])) = Hy
      intro sx1 ha1 hm1
      refine ⟨_, rfl, a, _, rfl, .inl (SqL.of ha1), _, _, rfl, rfl, _, rfl, ?_⟩
      by_cases h0 : b = []
      · subst h0
        exact ifF (by decide) ⟨sx1, by rw [hla, List.map_append]; exact hm1, _, rfl⟩
      · have hpos : 0 < b.length := by
          cases b with
          | nil => exact absurd rfl h0
          | cons y r => exact Nat.succ_pos _
        refine ifT (by rw [nats_len]; omega) ?_
        refine ⟨rfl, _, rfl, a, rfl, ⟨_, SqL.of ha1⟩, comp_list (K := K) (xs := nats b) (fun j ys H2 => H2 = Hy ∧ ys = ((b.take j).map dec).map V.str) ⟨rfl, rfl⟩ (fun j ys H2 _ ⟨e, _⟩ => SqL.of (e ▸ ha1)) ?_ ?_⟩
        · rintro j v ys H2 N hj ⟨rfl, rfl⟩ nx
          obtain ⟨x, hx, rfl⟩ := nats_get hj
          have hjl : j < b.length := (List.getElem?_eq_some_iff.mp hx).1
          have hb2 := hbk.2
          refine ⟨Weak.set (by intro v z; cases z), ⟨_, rfl, ((x : Nat) : Int), rfl, log_small (hbk.1 x (List.mem_of_getElem? hx)), ?_, nx _ _ ⟨rfl, ?_⟩⟩⟩
          · rw [List.length_map, List.length_map, List.length_take]
            exact Nat.lt_of_le_of_lt (show min j b.length ≤ 60 by omega) (by decide)
          · rw [List.take_add_one, hx, Option.toList_some, List.map_append, List.map_append]
            rfl
        rintro ys H2 ⟨eH, rfl⟩
        cases eH
        rw [nats_len, List.take_length]
        refine ⟨by rw [List.length_map, List.length_map]; exact Nat.le_trans hbk.2 (by decide), fun r hr => ?_⟩
        have s1 := same_new (o := .lst ((b.map dec).map V.str)) hr
        have ew : Str.join (Str.ofString ".") (b.map dec) = wd b := (if_neg h0).symm
        refine ⟨Str.ofString ".", r, b.map dec, rfl, rfl, SqL.of upd_same, decs_ok hbk, ?_⟩
        rw [ew]
        refine ⟨_, rfl, 1, rfl, m, _, -1, L.length, rfl, rfl, s1 _ _ hm1, ?_, same_upd (sx1.trans s1) hm, ?_, _, rfl⟩
        · rw [List.length_append, List.length_map]
          unfold ixN
          rw [if_neg (by decide), if_pos (by simp; omega)]
          congr 1
          simp
          omega
        · rw [hla, List.map_append, upd_same]
          congr 2
          rw [List.set_append_right _ _ (by simp)]
          simp
    · rintro σ Hx ⟨sx, hmx, x3, rfl⟩
      rw [hB.len, List.take_length] at hmx
      exact ⟨rfl, _, rfl, Str.ofString " ", m, (dec p ++ Str.ofString ":") :: bs.map wd, rfl, rfl, SqL.of hmx, words_ok hp hb hn, q _ sx⟩
/-! ### texts spoilt: what stays bounded -/
structure TxM (a d : Nat) (s : Str) : Prop where
  asc : Asc s
  len : s.length ≤ a
  dots : (L s).count 46 ≤ d
def dts (ts : List Str) : Nat := (ts.map fun s => (L s).count 46).sum
theorem dts_app (a b : List Str) : dts (a ++ b) = dts a + dts b := by
  unfold dts
  rw [List.map_append, List.sum_append]
structure Wl (a d : Nat) (ws : List Str) : Prop where
  asc : ∀ t ∈ ws, Asc t
  tot : tot ws ≤ a
  dts : dts ws ≤ d
theorem TxM.up {a d a' d' : Nat} {s : Str} (h : TxM a d s) (ha : a ≤ a') (hd : d ≤ d') : TxM a' d' s := ⟨h.asc, Nat.le_trans h.len ha, Nat.le_trans h.dots hd⟩
theorem Wl.up {a d a' d' : Nat} {s : List Str} (h : Wl a d s) (ha : a ≤ a') (hd : d ≤ d') : Wl a' d' s := ⟨h.asc, Nat.le_trans h.tot ha, Nat.le_trans h.dts hd⟩
theorem Wl.app {a d a' d' : Nat} {s t : List Str} (h : Wl a d s) (g : Wl a' d' t) : Wl (a + a') (d + d') (s ++ t) := ⟨fun x hx => (List.mem_append.mp hx).elim (h.asc x) (g.asc x), by rw [tot_app]; exact Nat.add_le_add h.tot g.tot, by rw [dts_app]; exact Nat.add_le_add h.dts g.dts⟩
theorem Wl.one {a d : Nat} {s : Str} (h : TxM a d s) : Wl (a + 1) d [s] := ⟨fun x hx => by cases List.mem_singleton.mp hx; exact h.asc, by rw [tot_one]; exact Nat.add_le_add_right h.len 1, by simpa [E1.dts] using h.dots⟩
theorem Wl.cut {a d : Nat} {ws : List Str} (h : Wl a d ws) (k : Nat) : ∃ a1 a2 d1 d2, a1 + a2 ≤ a ∧ d1 + d2 ≤ d ∧ Wl a1 d1 (ws.take k) ∧ Wl a2 d2 (ws.drop k) := by
  have e := List.take_append_drop k ws
  have h1 := h.tot
  have h2 := h.dts
  rw [← e, tot_app] at h1
  rw [← e, dts_app] at h2
  exact ⟨_, _, _, _, h1, h2, ⟨fun t ht => h.asc t ((List.take_sublist k ws).subset ht), Nat.le_refl _, Nat.le_refl _⟩, ⟨fun t ht => h.asc t ((List.drop_sublist k ws).subset ht), Nat.le_refl _, Nat.le_refl _⟩⟩
theorem Wl.drop {a d : Nat} {ws : List Str} (h : Wl a d ws) (k : Nat) : Wl a d (ws.drop k) := by
  obtain ⟨a1, a2, d1, d2, h1, h2, _, h4⟩ := h.cut k
  exact h4.up (by omega) (by omega)
theorem Wl.get {a d : Nat} {ws : List Str} (h : Wl a d ws) {k : Nat} {t : Str} (hk : ws[k]? = some t) : TxM (a - 1) d t := by
  have e : ws = ws.take k ++ ([t] ++ ws.drop (k + 1)) := by
    rw [List.getElem?_eq_some_iff] at hk
    obtain ⟨h1, h2⟩ := hk
    rw [← h2]
    simp
  have h1 := h.tot
  have h2 := h.dts
  rw [e, tot_app, tot_app, tot_one] at h1
  rw [e, dts_app, dts_app] at h2
  have h3 : E1.dts [t] = (L t).count 46 := by simp [E1.dts]
  exact ⟨h.asc t (List.mem_of_getElem? hk), by omega, by omega⟩
theorem Wl.join {a d : Nat} {ws : List Str} (h : Wl a d ws) : TxM a d (Str.join ⟨#[32]⟩ ws) := by
  refine ⟨fun c hc => ?_, Nat.le_trans join_tot h.tot, ?_⟩
  · rw [L, join_jl] at hc
    rcases jl_mem hc with e | ⟨l, hl, hc⟩
    · rw [e]; decide
    · obtain ⟨t, ht, rfl⟩ := List.mem_map.mp hl
      exact h.asc t ht c hc
  · have := h.dts
    rw [L, join_jl, jl_count (by decide), List.map_map]
    exact this
theorem TxM.words {a d : Nat} {s : Str} (h : TxM a d s) : Wl (a + 1) d (Txt.split s ⟨#[32]⟩) := by
  refine ⟨fun t ht => split_asc h.asc ht, by rw [tot_split]; exact Nat.add_le_add_right h.len 1, ?_⟩
  have e := h.dots
  rw [← split_jl s 32, jl_count (by decide), List.map_map] at e
  exact e
theorem sum_set (f : Str → Nat) (c : Str) : ∀ (ts : List Str) (i : Nat), ((ts.set i c).map f).sum ≤ (ts.map f).sum + f c
  | [], i => by simp
  | t :: r, 0 => by simp; omega
  | t :: r, i + 1 => by
    have := sum_set f c r i
    rw [List.set_cons_succ, List.map_cons, List.map_cons, List.sum_cons, List.sum_cons]
    omega
/-- one part of a word replaced -/
theorem TxM.part {a d : Nat} {s c : Str} (h : TxM a d s) (i : Nat) (hc : TxM 5 0 c) : tot ((Txt.split s ⟨#[46]⟩).set i c) ≤ a + 6 ∧ TxM (a + 6) d (Str.join ⟨#[46]⟩ ((Txt.split s ⟨#[46]⟩).set i c)) := by
  have ht : tot ((Txt.split s ⟨#[46]⟩).set i c) ≤ a + 6 := by
    have e1 := tot_split s 46
    have e2 := sum_set Str.length c (Txt.split s ⟨#[46]⟩) i
    have e3 := h.len
    have e4 := hc.len
    unfold tot at e1 ⊢
    rw [List.length_set]
    omega
  refine ⟨ht, fun x hx => ?_, Nat.le_trans join_tot ht, ?_⟩
  · rw [L, join_jl] at hx
    rcases jl_mem hx with e | ⟨l, hl, hx'⟩
    · rw [e]; decide
    · obtain ⟨t, ht, rfl⟩ := List.mem_map.mp hl
      rcases List.mem_or_eq_of_mem_set ht with h1 | h1
      · exact split_asc h.asc h1 x hx'
      · rw [h1] at hx'
        exact hc.asc x hx'
  · have e1 := jl_self (c := 46) (ls := (Txt.split s ⟨#[46]⟩).map L) (by simpa using split_ne _ _)
    have e2 := jl_self (c := 46) (ls := ((Txt.split s ⟨#[46]⟩).set i c).map L) (by simpa using split_ne _ _)
    have e3 := sum_set (fun s => (L s).count 46) c (Txt.split s ⟨#[46]⟩) i
    have e4 := hc.dots
    have e5 := h.dots
    rw [L, join_jl]
    rw [split_jl, List.map_map, List.length_map] at e1
    rw [List.map_map, List.length_map, List.length_set] at e2
    have e6 : (((Txt.split s ⟨#[46]⟩).set i c).map (List.count 46 ∘ L)).sum ≤ ((Txt.split s ⟨#[46]⟩).map (List.count 46 ∘ L)).sum + (L c).count 46 := e3
    have e7 : (jl 46 (((Txt.split s ⟨#[46]⟩).set i c).map (fun x => x.cps.toList))).count 46 ≤ (L s).count 46 := by
      show (jl 46 (((Txt.split s ⟨#[46]⟩).set i c).map L)).count 46 ≤ _
      omega
    exact Nat.le_trans e7 e5
/-- joined by more signs -/
def jb (b : List Nat) : List (List Nat) → List Nat
  | [] => []
  | [x] => x
  | x :: y :: r => x ++ (b ++ jb b (y :: r))
theorem join_jb (b : Str) : ∀ ws : List Str, L (Str.join b ws) = jb (L b) (ws.map L)
  | [] => rfl
  | [x] => rfl
  | x :: y :: r => by
    have ih := join_jb b (y :: r)
    have e : Str.join b (x :: y :: r) = x ++ b ++ Str.join b (y :: r) := rfl
    rw [e, L_app, L_app, ih]
    simp [jb]
theorem jb_all {b : List Nat} {c : Nat} (hb : b.length ≤ 2) (h46 : 46 ∉ b) : ∀ ls : List (List Nat), (jb b ls).length ≤ 2 * (jl c ls).length ∧ (jb b ls).count 46 ≤ (jl c ls).count 46 ∧ ∀ x ∈ jb b ls, x ∈ b ∨ x ∈ jl c ls
  | [] => by simp [jb]
  | [x] => by
    show x.length ≤ 2 * x.length ∧ x.count 46 ≤ x.count 46 ∧ ∀ z ∈ x, z ∈ b ∨ z ∈ x
    exact ⟨by omega, Nat.le_refl _, fun z hz => .inr hz⟩
  | x :: y :: r => by
    obtain ⟨h1, h2, h3⟩ := jb_all (c := c) hb h46 (y :: r)
    have e : jl c (x :: y :: r) = x ++ c :: jl c (y :: r) := rfl
    have e2 : jb b (x :: y :: r) = x ++ (b ++ jb b (y :: r)) := rfl
    have e3 : b.count 46 = 0 := List.count_eq_zero.mpr h46
    rw [e, e2]
    refine ⟨?_, ?_, fun z hz => ?_⟩
    · simp only [List.length_append, List.length_cons]
      omega
    · rw [List.count_append, List.count_append, List.count_append, List.count_cons]
      omega
    · rcases List.mem_append.mp hz with hz | hz
      · exact .inr (List.mem_append_left _ hz)
      · rcases List.mem_append.mp hz with hz | hz
        · exact .inl hz
        · rcases h3 z hz with hz | hz
          · exact .inl hz
          · exact .inr (List.mem_append_right _ (List.mem_cons_of_mem _ hz))
theorem TxM.repl {a d c : Nat} {s b : Str} (h : TxM a d s) (hb : TxM 2 0 b) : TxM (2 * a) d (Txt.replace s ⟨#[c]⟩ b) := by
  unfold Txt.replace
  split
  · exact h.up (by omega) (Nat.le_refl _)
  · generalize hp : Builtin.Str.partsBetween s _ _ = ps
    have e1 := StrLaws.glued_between_self s ⟨#[c]⟩ (s.length + 1)
    rw [hp, StrLaws.glued_eq_join] at e1
    rw [StrLaws.glued_eq_join]
    have hl := hb.len
    rw [← L_len] at hl
    have hd := hb.dots
    obtain ⟨h1, h2, h3⟩ := jb_all (c := c) hl (List.count_eq_zero.mp (by omega)) (ps.map L)
    rw [← join_jb] at h1 h2 h3
    rw [← join_jl, e1] at h1 h2 h3
    have hl2 := h.len
    have hd2 := h.dots
    refine ⟨fun x hx => (h3 x hx).elim (hb.asc x) (h.asc x), ?_, Nat.le_trans h2 hd2⟩
    rw [← L_len]
    have : s.cps.toList.length = s.length := L_len s
    omega
theorem TxM.app {a d a' d' : Nat} {s t : Str} (h : TxM a d s) (g : TxM a' d' t) : TxM (a + a') (d + d') (s ++ t) := by
  refine ⟨fun x hx => ?_, by rw [Str.length_append]; exact Nat.add_le_add h.len g.len, by rw [L_app, List.count_append]; exact Nat.add_le_add h.dots g.dots⟩
  rw [L_app] at hx
  exact (List.mem_append.mp hx).elim (h.asc x) (g.asc x)
theorem TxM.sub {a d : Nat} {s t : Str} (h : TxM a d s) (g : (L t).Sublist (L s)) : TxM a d t := ⟨fun x hx => h.asc x (g.subset hx), by
  have := g.length_le
  rw [L_len, L_len] at this
  exact Nat.le_trans this h.len, Nat.le_trans (g.count_le 46) h.dots⟩
def txc (a d : Nat) (s : Str) : Bool := (L s).all (fun c => decide (c < 128)) && decide (s.length ≤ a) && decide ((L s).count 46 ≤ d)
theorem txc_ok {a d : Nat} {s : Str} (h : txc a d s = true) : TxM a d s := by
  unfold txc at h
  rw [Bool.and_eq_true, Bool.and_eq_true] at h
  exact ⟨fun c hc => of_decide_eq_true (List.all_eq_true.mp h.1.1 c hc), of_decide_eq_true h.1.2, of_decide_eq_true h.2⟩
/-! ### the law's text is bounded -/
theorem dec_dots {n : Nat} (h : n ≤ 60) : (L (dec n)).count 46 = 0 := List.count_eq_zero.mpr fun hc => by
  have := dec_fig h 46 hc
  omega
theorem zero_sum {l : List Nat} (h : ∀ x ∈ l, x = 0) : l.sum = 0 := by
  induction l with
  | nil => rfl
  | cons a l ih => rw [List.sum_cons, h a (List.mem_cons_self ..), ih fun x hx => h x (List.mem_cons_of_mem _ hx)]
theorem wd_dots {b : List Nat} (h : ∀ x ∈ b, x ≤ 60) : (L (wd b)).count 46 ≤ b.length := by
  unfold wd
  split
  · rw [dash_eq]; exact Nat.le_trans (show _ ≤ 0 by decide) (Nat.zero_le _)
  · rename_i hb
    rw [dot_eq, L, join_jl]
    have e := jl_self (c := 46) (ls := (b.map dec).map L) (by simpa using hb)
    have e2 : (((b.map dec).map L).map (List.count 46)).sum = 0 := zero_sum fun x hx => by
      obtain ⟨y, hy, rfl⟩ := List.mem_map.mp hx
      obtain ⟨z, hz, rfl⟩ := List.mem_map.mp hy
      obtain ⟨n, hn, rfl⟩ := List.mem_map.mp hz
      exact dec_dots (h n hn)
    rw [e2, List.length_map, List.length_map] at e
    have e3 : jl 46 ((b.map dec).map fun x => x.cps.toList) = jl 46 ((b.map dec).map L) := rfl
    rw [e3]
    omega
theorem wds_wl {bs : List (List Nat)} (h : ∀ b ∈ bs, Bk b) : Wl (bs.length * 181) (bs.map List.length).sum (bs.map wd) := by
  induction bs with
  | nil => exact ⟨(fun t ht => nomatch ht), Nat.le_refl _, Nat.le_refl _⟩
  | cons b r ih =>
    have hb := h b (List.mem_cons_self ..)
    have e : TxM 180 b.length (wd b) := ⟨fun c hc => by
      have := wd_signs hb.1 c hc
      omega, wd_len hb.1 hb.2, wd_dots hb.1⟩
    have := (Wl.one e).app (ih fun b hb => h b (List.mem_cons_of_mem _ hb))
    exact this.up (by rw [List.length_cons]; omega) (by rw [List.map_cons, List.sum_cons]; exact Nat.le_refl _)
theorem tx_bound {p : Nat} {bs : List (List Nat)} (hp : p ≤ 60) (h : ∀ b ∈ bs, Bk b) (hn : bs.length ≤ 201) (hs : (bs.map List.length).sum ≤ 900) : TxM 40000 900 (tx p bs) := by
  have e : TxM 3 0 (dec p ++ Str.ofString ":") := by
    have e1 : TxM 2 0 (dec p) := ⟨fun c hc => by
      have := dec_fig hp c hc
      omega, (dec_len hp).2, by rw [dec_dots hp]; exact Nat.le_refl _⟩
    have e2 : TxM 1 0 (Str.ofString ":") := txc_ok (by decide +kernel)
    exact e1.app e2
  have := ((Wl.one e).app (wds_wl h)).join
  rw [← sp_eq] at this
  exact this.up (by omega) (by omega)
/-! ### a text spoilt -/
def spSpoilt : Sp := fun vs H Q _ => ∃ (a : Addr) (z : Str) (ns : List Int) (m d : Nat), vs = [.str z, .ref a] ∧ H a = some (.lst (ns.map V.int)) ∧ 4 ≤ ns.length ∧ TxM m d z ∧ m ≤ 400000 ∧ ∀ (y : Str) (H' : Hp), Same H H' → TxM (2 * m + 100) (2 * d + 10) y → Q (.str y) H'
def s18 : List Str := ["", "-", "--", "0", "1", "00", "01", "0.0", "1.0", "0..1", ".0", "0.", "-1", "0.-", "+1", "0,1", "a", "0.a"]
def s14 : List Str := ["60", "61:", "60:", "0:", "00:", ":", "3:", "3::", "12345", "9999", "0.1_0", "0x1", "0.1;", "1 0"]
def s2 : List Str := ["59.0", "1:0"]
def someS : List Str := s18 ++ s14 ++ s2
theorem some_ok : ∀ s ∈ someS, TxM 5 2 s := fun s hs => txc_ok (List.all_eq_true.mp (show someS.all (txc 5 2) = true by decide +kernel) s hs)
def partS : List Str := ["0", "1", "2", "8", "9", "59", "60", "01", "", "-", "10000", "1 "]
theorem part_ok : ∀ s ∈ partS, TxM 5 0 s := fun s hs => txc_ok (List.all_eq_true.mp (show partS.all (txc 5 0) = true by decide +kernel) s hs)
theorem at_str {ts : List Str} {i : Nat} (h : i < ts.length) : ∃ s, atI (ts.map V.str) (i : Int) = some (.str s) ∧ ts[i]? = some s := ⟨ts[i], atI_nat (by rw [List.getElem?_map, List.getElem?_eq_getElem h]; rfl), List.getElem?_eq_getElem h⟩
theorem at_strI {ts : List Str} {u : Int} {n : Nat} (h : ts.length = n) (hn : 0 < n) : ∃ s, atI (ts.map V.str) (u % (n : Int)) = some (.str s) ∧ s ∈ ts := by
  have h0 := Int.emod_nonneg u (show (n : Int) ≠ 0 by omega)
  have h1 := Int.emod_lt_of_pos u (show (0 : Int) < n by omega)
  obtain ⟨s, e, m⟩ := at_str (ts := ts) (i := (u % (n : Int)).toNat) (by omega)
  rw [Int.toNat_of_nonneg h0] at e
  exact ⟨s, e, List.mem_of_getElem? m⟩
theorem cutS_to {ws : List Str} {k : Nat} : cutV (ws.map V.str) none (some (k : Int)) = (ws.take k).map V.str := by rw [cut_le, List.map_take]
theorem cutS_from {ws : List Str} {k : Nat} (h : k ≤ ws.length) : cutV (ws.map V.str) (some (k : Int)) none = (ws.drop k).map V.str := by rw [cut_from (by rw [List.length_map]; exact h), List.map_drop]
theorem scLSpoilt : FnScope ["_law_text_here", "_law_xs", "_law_words", "_law_at", "_law_some", "_law_one", "_law_way", "_law_parts"] ["_law_text_here", "_law_xs"] (defScope sLSpoilt) := ⟨rfl, rfl, rfl, by decide +kernel, rfl, by decide +kernel, by decide +kernel⟩
theorem ok_spoilt {f : Addr} {fd : FuncData} (F : Fun K "_law_spoilt" "_law_spoilt" sLSpoilt f fd) (T : TxtB mg) : FnOk P w K mg base CX0 1 f fd ["_law_text_here", "_law_xs"] spSpoilt := by
  refine F.okQ scLSpoilt (fun vs H Q E h => ?_) (fun cdv A outer s H vs Q E hr h => ?_)
  · obtain ⟨a, z, ns, m, d, rfl, _⟩ := h
    rfl
  · obtain ⟨a, z, ns, m, d, rfl, ha, hn, hz, hm, q⟩ := h
    refine ⟨_, (qss_cons (qs_set (i := 2) scLSpoilt.nd rfl (Or.inl rfl) (qe_bm PySem.F.plainAttrs_str PySem.F.slot_str_split PySem.F.type_str_split mt_split (qv 0) (qac qe_str qa_nil)))
      (qss_cons (qs_set (i := 3) scLSpoilt.nd rfl (Or.inl rfl) (qe_op op_mod (qe_ix ix_list (qv 1) qe_int (fun _ _ => rfl)) (qe_callB call_len_seq (by rfl) T.len PySem.boot_len (qac (qv 2) qa_nil))))
      (qss_cons (qs_set (i := 4) scLSpoilt.nd rfl (Or.inl rfl) (qe_lst (qac qe_str (qac qe_str (qac qe_str (qac qe_str (qac qe_str (qac qe_str (qac qe_str (qac qe_str (qac qe_str (qac qe_str (qac qe_str (qac qe_str (qac qe_str (qac qe_str (qac qe_str (qac qe_str (qac qe_str (qac qe_str qa_nil))))))))))))))))))))
      (qss_cons (qs_set (i := 4) scLSpoilt.nd rfl (Or.inl rfl) (qe_op op_cat (qv 4) (qe_lst (qac qe_str (qac qe_str (qac qe_str (qac qe_str (qac qe_str (qac qe_str (qac qe_str (qac qe_str (qac qe_str (qac qe_str (qac qe_str (qac qe_str (qac qe_str (qac qe_str qa_nil)))))))))))))))))
      (qss_cons (qs_set (i := 4) scLSpoilt.nd rfl (Or.inl rfl) (qe_op op_cat (qv 4) (qe_lst (qac qe_str (qac qe_str qa_nil)))))
      (qss_cons (qs_set (i := 5) scLSpoilt.nd rfl (Or.inl rfl) (qe_ix ix_list (qv 4) (qe_op op_mod (qe_ix ix_list (qv 1) qe_int (fun _ _ => rfl)) qe_int) (fun _ _ => rfl)))
      (qss_cons (qs_set (i := 6) scLSpoilt.nd rfl (Or.inl rfl) (qe_op op_mod (qe_ix ix_list (qv 1) qe_int (fun _ _ => rfl)) qe_int))
      (qss_cons (qs_if (qt_cmpR op_lt (qv 6) qe_int (nomark _)) (qss_one (qs_ret (qe_bm PySem.F.plainAttrs_str PySem.F.slot_str_join PySem.F.type_str_join mt_join qe_str (qac (qe_op op_cat (qe_op op_cat (qe_slice sl_list (qv 2) qo_none (qo_some (qv 3))) (qe_lst (qac (qv 5) qa_nil))) (qe_slice sl_list (qv 2) (qo_some (qe_op op_add (qv 3) qe_int)) qo_none)) qa_nil)))) qss_nil)
      (qss_cons (qs_if (qt_cmpR op_eq (qv 6) qe_int (nomark _)) (qss_one (qs_ret (qe_bm PySem.F.plainAttrs_str PySem.F.slot_str_join PySem.F.type_str_join mt_join qe_str (qac (qe_op op_cat (qe_op op_cat (qe_slice sl_list (qv 2) qo_none (qo_some (qv 3))) (qe_lst (qac (qv 5) qa_nil))) (qe_slice sl_list (qv 2) (qo_some (qv 3)) qo_none)) qa_nil)))) qss_nil)
      (qss_cons (qs_if (qt_cmpR op_eq (qv 6) qe_int (nomark _)) (qss_one (qs_ret (qe_bm PySem.F.plainAttrs_str PySem.F.slot_str_join PySem.F.type_str_join mt_join qe_str (qac (qe_op op_cat (qe_slice sl_list (qv 2) qo_none (qo_some (qv 3))) (qe_slice sl_list (qv 2) (qo_some (qe_op op_add (qv 3) qe_int)) qo_none)) qa_nil)))) qss_nil)
      (qss_cons (qs_if (qt_cmpR op_eq (qv 6) qe_int (nomark _)) (qss_one (qs_ret (qe_bm PySem.F.plainAttrs_str PySem.F.slot_str_join PySem.F.type_str_join mt_join qe_str (qac (qe_op op_cat (qe_op op_cat (qe_slice sl_list (qv 2) qo_none (qo_some (qv 3))) (qe_lst (qac (qe_ix ix_list (qv 2) (qv 3) (fun _ _ => rfl)) qa_nil))) (qe_slice sl_list (qv 2) (qo_some (qv 3)) qo_none)) qa_nil)))) qss_nil)
      (qss_cons (qs_if (qt_cmpR op_eq (qv 6) qe_int (nomark _)) (qss_cons (qs_set (i := 7) scLSpoilt.nd rfl (Or.inl rfl) (qe_bm PySem.F.plainAttrs_str PySem.F.slot_str_split PySem.F.type_str_split mt_split (qe_ix ix_list (qv 2) (qv 3) (fun _ _ => rfl)) (qac qe_str qa_nil)))
        (qss_cons (qs_asg (qe_ix ix_list (qe_lst (qac qe_str (qac qe_str (qac qe_str (qac qe_str (qac qe_str (qac qe_str (qac qe_str (qac qe_str (qac qe_str (qac qe_str (qac qe_str (qac qe_str qa_nil))))))))))))) (qe_op op_mod (qe_ix ix_list (qv 1) qe_int (fun _ _ => rfl)) qe_int) (fun _ _ => rfl)) (qg_sub (qv 7) (qe_op op_mod (qe_ix ix_list (qv 1) qe_int (fun _ _ => rfl)) (qe_callB call_len_seq (by rfl) T.len PySem.boot_len (qac (qv 7) qa_nil))) set_list))
        (qss_one (qs_ret (qe_bm PySem.F.plainAttrs_str PySem.F.slot_str_join PySem.F.type_str_join mt_join qe_str (qac (qe_op op_cat (qe_op op_cat (qe_slice sl_list (qv 2) qo_none (qo_some (qv 3))) (qe_lst (qac (qe_bm PySem.F.plainAttrs_str PySem.F.slot_str_join PySem.F.type_str_join mt_join qe_str (qac (qv 7) qa_nil)) qa_nil))) (qe_slice sl_list (qv 2) (qo_some (qe_op op_add (qv 3) qe_int)) qo_none)) qa_nil)))))) qss_nil)
      (qss_ifT (i := 6) rfl (Or.inl rfl) (by decide) (by decide) (qss_one (qs_ret (qe_ix ix_list (qe_lst (qa_start (peq_catL (i := 0)) (par_cons (PEq.r (peq_catR (i := 0))) (par_cons (per_repl (i := 0) (by decide)) (par_cons (per_repl (i := 0) (by decide)) (par_cons (PEq.r (peq_catR (i := 0))) par_nil)))))) (qe_op op_mod (qe_ix ix_list (qv 1) qe_int (fun _ _ => rfl)) qe_int) (fun _ _ => rfl))))
        (pew_ixL (par_cons (per_repl (i := 0) (by decide)) (par_cons (PEq.r (peq_from (i := 0))) (par_cons (PEq.r (peq_to (i := 0))) (par_cons (per_repl (i := 0) (by decide)) par_nil)))) (qe_op op_mod (qe_ix ix_list (qv 1) qe_int (fun _ _ => rfl)) qe_int) (fun _ _ => rfl))))))))))))))), ?_⟩
    have g : ∀ j : Nat, j < 4 → ∃ x : Int, atI (ns.map V.int) (j : Int) = some (.int x) := fun j hj => by
      obtain ⟨x, e, m⟩ := at_ok (ns := ns) (i := j) (by omega)
      exact ⟨x, e⟩
    obtain ⟨y0, e0⟩ := g 0 (by decide)
    obtain ⟨y1, e1⟩ := g 1 (by decide)
    obtain ⟨y2, e2⟩ := g 2 (by decide)
    obtain ⟨y3, e3⟩ := g 3 (by decide)
    have hW : Wl (m + 1) d (Txt.split z (Str.ofString " ")) := by rw [sp_eq]; exact hz.words
    have hW0 : Txt.split z (Str.ofString " ") ≠ [] := split_ne _ _
    have hWl : (Txt.split z (Str.ofString " ")).length ≤ 400001 := by
      have := split_len_le z 32
      rw [sp_eq]
      have := hz.len
      omega
    refine ⟨_, rfl, rfl, z, Str.ofString " ", rfl, rfl, by decide +kernel, Nat.le_trans hz.len (Nat.le_trans hm (by decide)), Nat.le_trans hWl (by decide), fun lw hlw => ?_⟩
    revert hW hW0 hWl
    generalize Txt.split z (Str.ofString " ") = ws
    intro hW hW0 hWl
    have s1 := same_new (o := .lst (ws.map V.str)) hlw
    have ha1 := s1 _ _ ha
    have hw1 : upd H lw (.lst (ws.map V.str)) lw = some (.lst (ws.map V.str)) := upd_same
    revert s1 ha1 hw1
    generalize upd H lw (.lst (ws.map V.str)) = H1
    intro s1 ha1 hw1
    have hpos : 0 < ws.length := List.length_pos_iff.mpr hW0
    have hposI : (0 : Int) < ((ws.map V.str).length : Nat) := by rw [List.length_map]; omega
    refine ⟨_, rfl, a, _, 0, .int y0, rfl, rfl, SqL.of ha1, e0, _, rfl, lw, _, rfl, .inl (SqL.of hw1), _, _, rfl, rfl, hposI, ?_⟩
    obtain ⟨k, hk, hkl⟩ : ∃ k : Nat, y0 % (((ws.map V.str).length : Nat) : Int) = (k : Int) ∧ k < ws.length := by
      have h0 := Int.emod_nonneg y0 (show (((ws.map V.str).length : Nat) : Int) ≠ 0 by omega)
      have h1 := Int.emod_lt_of_pos y0 hposI
      rw [List.length_map] at h0 h1 ⊢
      exact ⟨(y0 % ((ws.length : Nat) : Int)).toNat, by omega, by omega⟩
    dsimp only
    rw [hk]
    refine ⟨by show 18 ≤ sizeLine; decide, fun l1 hl1 => ?_⟩
    have t1 := same_new (o := .lst (s18.map V.str)) hl1
    refine ⟨_, rfl, by show 14 ≤ sizeLine; decide, fun l2 hl2 => ?_⟩
    have t2 := same_new (o := .lst (s14.map V.str)) hl2
    refine ⟨l1, l2, _, _, rfl, rfl, t2 _ _ upd_same, upd_same, by show 32 ≤ sizeLine; decide, fun l3 hl3 => ?_⟩
    have t3 := same_new (o := .lst ((s18 ++ s14).map V.str)) hl3
    refine ⟨_, rfl, by show 2 ≤ sizeLine; decide, fun l4 hl4 => ?_⟩
    have t4 := same_new (o := .lst (s2.map V.str)) hl4
    refine ⟨l3, l4, _, _, rfl, rfl, t4 _ _ upd_same, upd_same, by show 34 ≤ sizeLine; decide, fun l5 hl5 => ?_⟩
    have t5 := same_new (o := .lst (someS.map V.str)) hl5
    have tt := t1.trans (t2.trans (t3.trans (t4.trans t5)))
    obtain ⟨one, eo, mo⟩ := at_strI (ts := someS) (u := y1) (n := 34) rfl (by decide)
    have ho := some_ok one mo
    refine ⟨_, rfl, _, rfl, a, _, 1, .int y1, rfl, rfl, SqL.of (tt _ _ ha1), e1, _, _, rfl, rfl, (by show (0 : Int) < 34; decide), l5, _, _, _, rfl, rfl, SqL.of upd_same, eo, ?_⟩
    have ha2 := tt _ _ ha1
    have hw2 := tt _ _ hw1
    have ss2 := s1.trans tt
    refine ⟨_, rfl, a, _, 2, .int y2, rfl, rfl, SqL.of ha2, e2, _, _, rfl, rfl, (by show (0 : Int) < 9; decide), ?_⟩
    have C1 : cutV (ws.map V.str) none (some (k : Int)) = (ws.take k).map V.str := cutS_to
    have C2 : cutV (ws.map V.str) (some (k : Int)) none = (ws.drop k).map V.str := cutS_from (by omega)
    have C3 : cutV (ws.map V.str) (some ((k : Int) + 1)) none = (ws.drop (k + 1)).map V.str := cutS_from (k := k + 1) (by omega)
    have l1' := cutV_length (ws.map V.str) none (some (k : Int))
    have l2' := cutV_length (ws.map V.str) (some (k : Int)) none
    have l3' := cutV_length (ws.map V.str) (some ((k : Int) + 1)) none
    rw [List.length_map] at l1' l2' l3'
    have big : ∀ n, n ≤ 1000000 → n ≤ sizeLine := fun n h => Nat.le_trans h (by decide)
    obtain ⟨a1, a2, d1, d2, ea, ed, hT, hD⟩ := hW.cut k
    have hD1 : Wl a2 d2 (ws.drop (k + 1)) := by
      have := hD.drop 1
      rwa [List.drop_drop] at this
    have jk : ∀ {l : List Str} {x y : Nat}, Wl x y l → x ≤ 1000000 → JoinOk (Str.ofString " ") l = true := fun h hx => by
      rw [sp_eq]
      exact joinOk_tot (Nat.le_trans h.tot hx)
    have jt : ∀ {l : List Str} {x y : Nat}, Wl x y l → x ≤ 2 * m + 100 → y ≤ 2 * d + 10 → TxM (2 * m + 100) (2 * d + 10) (Str.join (Str.ofString " ") l) := fun h hx hy => by
      rw [sp_eq]
      exact h.join.up hx hy
    refine ⟨_, rfl, _, _, rfl, rfl, _, rfl, ?_⟩
    by_cases w3 : y2 % 9 < 3
    · refine ifT w3 ⟨rfl, _, rfl, _, rfl, _, rfl, lw, _, rfl, SqL.of hw2, fun p1 hp1 => ?_⟩
      have u1 := same_new (o := .lst (cutV (ws.map V.str) none (some (k : Int)))) hp1
      refine ⟨_, rfl, by show 1 ≤ sizeLine; decide, fun p2 hp2 => ?_⟩
      have u2 := same_new (o := .lst [V.str one]) hp2
      refine ⟨p1, p2, _, _, rfl, rfl, u2 _ _ upd_same, upd_same, big _ (by show _ + 1 ≤ _; omega), fun p3 hp3 => ?_⟩
      have u3 := same_new (o := .lst (cutV (ws.map V.str) none (some (k : Int)) ++ [V.str one])) hp3
      have u13 := u1.trans (u2.trans u3)
      refine ⟨_, rfl, _, rfl, _, _, rfl, rfl, _, rfl, lw, _, rfl, SqL.of (u13 _ _ hw2), fun p4 hp4 => ?_⟩
      have u4 := same_new (o := .lst (cutV (ws.map V.str) (some ((k : Int) + 1)) none)) hp4
      refine ⟨p3, p4, _, _, rfl, rfl, u4 _ _ upd_same, upd_same, big _ (by rw [List.length_append]; show _ + 1 + _ ≤ _; omega), fun p5 hp5 => ?_⟩
      have u5 := same_new (o := .lst (cutV (ws.map V.str) none (some (k : Int)) ++ [V.str one] ++ cutV (ws.map V.str) (some ((k : Int) + 1)) none)) hp5
      have eL : cutV (ws.map V.str) none (some (k : Int)) ++ [V.str one] ++ cutV (ws.map V.str) (some ((k : Int) + 1)) none = (ws.take k ++ [one] ++ ws.drop (k + 1)).map V.str := by
        rw [C1, C3, List.map_append, List.map_append]
        rfl
      have hw := (hT.app (Wl.one ho)).app hD1
      exact ⟨Str.ofString " ", p5, _, rfl, rfl, SqL.of (upd_same.trans (congrArg (fun l => some (HO.lst l)) eL)), jk hw (by omega), q _ _ (ss2.trans (u13.trans (u4.trans u5))) (jt hw (by omega) (by omega))⟩
    refine ifF w3 ⟨_, rfl, rfl, _, rfl, ?_⟩
    by_cases w4 : V.int (y2 % 9) = V.int 3
    · refine ifT w4 ⟨rfl, _, rfl, _, rfl, _, rfl, lw, _, rfl, SqL.of hw2, fun p1 hp1 => ?_⟩
      have u1 := same_new (o := .lst (cutV (ws.map V.str) none (some (k : Int)))) hp1
      refine ⟨_, rfl, by show 1 ≤ sizeLine; decide, fun p2 hp2 => ?_⟩
      have u2 := same_new (o := .lst [V.str (one)]) hp2
      refine ⟨p1, p2, _, _, rfl, rfl, u2 _ _ upd_same, upd_same, big _ (by show _ + 1 ≤ _; omega), fun p3 hp3 => ?_⟩
      have u3 := same_new (o := .lst (cutV (ws.map V.str) none (some (k : Int)) ++ [V.str (one)])) hp3
      have u13 := u1.trans (u2.trans u3)
      refine ⟨_, rfl, _, rfl, _, rfl, lw, _, rfl, SqL.of (u13 _ _ hw2), fun p4 hp4 => ?_⟩
      have u4 := same_new (o := .lst (cutV (ws.map V.str) (some (k : Int)) none)) hp4
      refine ⟨p3, p4, _, _, rfl, rfl, u4 _ _ upd_same, upd_same, big _ (by rw [List.length_append]; show _ + 1 + _ ≤ _; omega), fun p5 hp5 => ?_⟩
      have u5 := same_new (o := .lst (cutV (ws.map V.str) none (some (k : Int)) ++ [V.str (one)] ++ cutV (ws.map V.str) (some (k : Int)) none)) hp5
      have eL : cutV (ws.map V.str) none (some (k : Int)) ++ [V.str (one)] ++ cutV (ws.map V.str) (some (k : Int)) none = (ws.take k ++ [one] ++ ws.drop k).map V.str := by
        rw [C1, C2, List.map_append, List.map_append]
        rfl
      have hw := (hT.app (Wl.one ho)).app hD
      exact ⟨Str.ofString " ", p5, _, rfl, rfl, SqL.of (upd_same.trans (congrArg (fun l => some (HO.lst l)) eL)), jk hw (by omega), q _ _ (ss2.trans (u13.trans (u4.trans u5))) (jt hw (by omega) (by omega))⟩
    refine ifF w4 ⟨_, rfl, rfl, _, rfl, ?_⟩
    by_cases w5 : V.int (y2 % 9) = V.int 4
    · refine ifT w5 ⟨rfl, _, rfl, _, rfl, _, rfl, lw, _, rfl, SqL.of hw2, fun p1 hp1 => ?_⟩
      have u1 := same_new (o := .lst (cutV (ws.map V.str) none (some (k : Int)))) hp1
      refine ⟨_, rfl, _, rfl, _, _, rfl, rfl, _, rfl, lw, _, rfl, SqL.of (u1 _ _ hw2), fun p4 hp4 => ?_⟩
      have u4 := same_new (o := .lst (cutV (ws.map V.str) (some ((k : Int) + 1)) none)) hp4
      refine ⟨p1, p4, _, _, rfl, rfl, u4 _ _ upd_same, upd_same, big _ (by omega), fun p5 hp5 => ?_⟩
      have u5 := same_new (o := .lst (cutV (ws.map V.str) none (some (k : Int)) ++ cutV (ws.map V.str) (some ((k : Int) + 1)) none)) hp5
      have eL : cutV (ws.map V.str) none (some (k : Int)) ++ cutV (ws.map V.str) (some ((k : Int) + 1)) none = (ws.take k ++ ws.drop (k + 1)).map V.str := by
        rw [C1, C3, List.map_append]
      have hw := hT.app hD1
      exact ⟨Str.ofString " ", p5, _, rfl, rfl, SqL.of (upd_same.trans (congrArg (fun l => some (HO.lst l)) eL)), jk hw (by omega), q _ _ (ss2.trans (u1.trans (u4.trans u5))) (jt hw (by omega) (by omega))⟩
    refine ifF w5 ⟨_, rfl, rfl, _, rfl, ?_⟩
    obtain ⟨wk, ewk, mwk⟩ := at_str hkl
    have hwk := hW.get mwk
    by_cases w6 : V.int (y2 % 9) = V.int 5
    · refine ifT w6 ⟨rfl, _, rfl, _, rfl, _, rfl, lw, _, rfl, SqL.of hw2, fun p1 hp1 => ?_⟩
      have u1 := same_new (o := .lst (cutV (ws.map V.str) none (some (k : Int)))) hp1
      refine ⟨_, rfl, _, rfl, lw, _, _, _, rfl, rfl, SqL.of (u1 _ _ hw2), ewk, by show 1 ≤ sizeLine; decide, fun p2 hp2 => ?_⟩
      have u2 := same_new (o := .lst [V.str (wk)]) hp2
      refine ⟨p1, p2, _, _, rfl, rfl, u2 _ _ upd_same, upd_same, big _ (by show _ + 1 ≤ _; omega), fun p3 hp3 => ?_⟩
      have u3 := same_new (o := .lst (cutV (ws.map V.str) none (some (k : Int)) ++ [V.str (wk)])) hp3
      have u13 := u1.trans (u2.trans u3)
      refine ⟨_, rfl, _, rfl, _, rfl, lw, _, rfl, SqL.of (u13 _ _ hw2), fun p4 hp4 => ?_⟩
      have u4 := same_new (o := .lst (cutV (ws.map V.str) (some (k : Int)) none)) hp4
      refine ⟨p3, p4, _, _, rfl, rfl, u4 _ _ upd_same, upd_same, big _ (by rw [List.length_append]; show _ + 1 + _ ≤ _; omega), fun p5 hp5 => ?_⟩
      have u5 := same_new (o := .lst (cutV (ws.map V.str) none (some (k : Int)) ++ [V.str (wk)] ++ cutV (ws.map V.str) (some (k : Int)) none)) hp5
      have eL : cutV (ws.map V.str) none (some (k : Int)) ++ [V.str (wk)] ++ cutV (ws.map V.str) (some (k : Int)) none = (ws.take k ++ [wk] ++ ws.drop k).map V.str := by
        rw [C1, C2, List.map_append, List.map_append]
        rfl
      have hw := (hT.app (Wl.one hwk)).app hD
      exact ⟨Str.ofString " ", p5, _, rfl, rfl, SqL.of (upd_same.trans (congrArg (fun l => some (HO.lst l)) eL)), jk hw (by omega), q _ _ (ss2.trans (u13.trans (u4.trans u5))) (jt hw (by omega) (by omega))⟩
    refine ifF w6 ⟨_, rfl, rfl, _, rfl, ?_⟩
    by_cases w7 : V.int (y2 % 9) = V.int 6
    · have hpl : (Txt.split wk (Str.ofString ".")).length ≤ 400002 := by
        have e5 := split_len_le wk 46
        have e6 := hwk.len
        rw [dot_eq]
        omega
      have hp0 : Txt.split wk (Str.ofString ".") ≠ [] := split_ne _ _
      refine ifT w7 ⟨_, rfl, _, rfl, lw, _, _, _, rfl, rfl, SqL.of hw2, ewk, rfl, wk, Str.ofString ".", rfl, rfl, by decide +kernel, big _ (by have := hwk.len; omega), big _ (by omega), fun lp hlp => ?_⟩
      have v1 := same_new (o := .lst ((Txt.split wk (Str.ofString ".")).map V.str)) hlp
      refine ⟨by show 12 ≤ sizeLine; decide, fun lq hlq => ?_⟩
      have v2 := same_new (o := .lst (partS.map V.str)) hlq
      have v12 := v1.trans v2
      obtain ⟨pt, ept, mpt⟩ := at_strI (ts := partS) (u := y1) (n := 12) rfl (by decide)
      have hpt := part_ok pt mpt
      refine ⟨_, rfl, a, _, 1, .int y1, rfl, rfl, SqL.of (v12 _ _ ha2), e1, _, _, rfl, rfl, (by show (0 : Int) < 12; decide), lq, _, _, _, rfl, rfl, SqL.of upd_same, ept, ?_⟩
      have hlpp : (0 : Int) < (((Txt.split wk (Str.ofString ".")).map V.str).length : Nat) := by
        rw [List.length_map]
        have := List.length_pos_iff.mpr hp0
        omega
      obtain ⟨j, hj, hjl⟩ : ∃ j : Nat, y3 % ((((Txt.split wk (Str.ofString ".")).map V.str).length : Nat) : Int) = (j : Int) ∧ j < ((Txt.split wk (Str.ofString ".")).map V.str).length := by
        have h0 := Int.emod_nonneg y3 (show ((((Txt.split wk (Str.ofString ".")).map V.str).length : Nat) : Int) ≠ 0 by omega)
        have h1 := Int.emod_lt_of_pos y3 hlpp
        exact ⟨(y3 % ((((Txt.split wk (Str.ofString ".")).map V.str).length : Nat) : Int)).toNat, by omega, by omega⟩
      refine ⟨_, rfl, _, rfl, a, _, 3, .int y3, rfl, rfl, SqL.of (v12 _ _ ha2), e3, _, rfl, lp, _, rfl, .inl (SqL.of (v2 _ _ upd_same)), _, _, rfl, rfl, hlpp, lp, _, _, j, rfl, rfl, v2 _ _ upd_same, ?_, ?_⟩
      · rw [hj]
        unfold ixN
        rw [if_pos (by omega), if_pos (by omega), Int.toNat_natCast]
      have v3 := same_upd (o := .lst (((Txt.split wk (Str.ofString ".")).map V.str).set j (.str pt))) v12 hlp
      have hpart := hwk.part j hpt
      rw [← dot_eq] at hpart
      have eset : ((Txt.split wk (Str.ofString ".")).map V.str).set j (.str pt) = ((Txt.split wk (Str.ofString ".")).set j pt).map V.str := by rw [List.map_set]
      have hw3 := v3 _ _ hw2
      have ss3 := ss2.trans v3
      refine ⟨rfl, _, rfl, _, rfl, _, rfl, lw, _, rfl, SqL.of hw3, fun p1 hp1 => ?_⟩
      have u1 := same_new (o := .lst (cutV (ws.map V.str) none (some (k : Int)))) hp1
      refine ⟨rfl, _, rfl, Str.ofString ".", lp, _, rfl, rfl, SqL.of (u1 _ _ (upd_same.trans (congrArg (fun l => some (HO.lst l)) eset))), (by rw [dot_eq]; rw [dot_eq] at hpart; exact joinOk_tot (Nat.le_trans hpart.1 (by omega))), by show 1 ≤ sizeLine; decide, fun p2 hp2 => ?_⟩
      have u2 := same_new (o := .lst [V.str (Str.join (Str.ofString ".") ((Txt.split wk (Str.ofString ".")).set j pt))]) hp2
      refine ⟨p1, p2, _, _, rfl, rfl, u2 _ _ upd_same, upd_same, big _ (by show _ + 1 ≤ _; omega), fun p3 hp3 => ?_⟩
      have u3 := same_new (o := .lst (cutV (ws.map V.str) none (some (k : Int)) ++ [V.str (Str.join (Str.ofString ".") ((Txt.split wk (Str.ofString ".")).set j pt))])) hp3
      have u13 := u1.trans (u2.trans u3)
      refine ⟨_, rfl, _, rfl, _, _, rfl, rfl, _, rfl, lw, _, rfl, SqL.of (u13 _ _ hw3), fun p4 hp4 => ?_⟩
      have u4 := same_new (o := .lst (cutV (ws.map V.str) (some ((k : Int) + 1)) none)) hp4
      refine ⟨p3, p4, _, _, rfl, rfl, u4 _ _ upd_same, upd_same, big _ (by rw [List.length_append]; show _ + 1 + _ ≤ _; omega), fun p5 hp5 => ?_⟩
      have u5 := same_new (o := .lst (cutV (ws.map V.str) none (some (k : Int)) ++ [V.str (Str.join (Str.ofString ".") ((Txt.split wk (Str.ofString ".")).set j pt))] ++ cutV (ws.map V.str) (some ((k : Int) + 1)) none)) hp5
      have eL : cutV (ws.map V.str) none (some (k : Int)) ++ [V.str (Str.join (Str.ofString ".") ((Txt.split wk (Str.ofString ".")).set j pt))] ++ cutV (ws.map V.str) (some ((k : Int) + 1)) none = (ws.take k ++ [Str.join (Str.ofString ".") ((Txt.split wk (Str.ofString ".")).set j pt)] ++ ws.drop (k + 1)).map V.str := by
        rw [C1, C3, List.map_append, List.map_append]
        rfl
      have hw := (hT.app (Wl.one hpart.2)).app hD1
      exact ⟨Str.ofString " ", p5, _, rfl, rfl, SqL.of (upd_same.trans (congrArg (fun l => some (HO.lst l)) eL)), jk hw (by omega), q _ _ (ss3.trans (u13.trans (u4.trans u5))) (jt hw (by omega) (by omega))⟩
    refine ifF w7 ⟨_, rfl, fun w8 => ?_, fun w8 => ?_⟩
    · have b1 : 1 + z.length ≤ sizeLine := big _ (by have := hz.len; omega)
      have b2 : z.length + 1 ≤ sizeLine := big _ (by have := hz.len; omega)
      have b3 : z.length + (z.length + 1) * 2 ≤ 16777216 := by have := hz.len; omega
      have b4 : z.length + (z.length + 1) * 0 ≤ 16777216 := by have := hz.len; omega
      refine ⟨_, rfl, _, z, rfl, rfl, b1, _, rfl, z, _, rfl, rfl, b2, z, rfl, b3, z, rfl, b4, _, rfl, z, _, rfl, rfl, b2, by show 5 ≤ sizeLine; decide, fun p hp => ?_⟩
      have u1 := same_new (o := .lst (([Str.ofString " " ++ z, z ++ Str.ofString " ", Txt.replace z (Str.ofString " ") (Str.ofString "  "), Txt.replace z (Str.ofString ":") (Str.ofString ""), z ++ Str.ofString "."] : List Str).map V.str)) hp
      obtain ⟨y, ey, my⟩ := at_strI (ts := [Str.ofString " " ++ z, z ++ Str.ofString " ", Txt.replace z (Str.ofString " ") (Str.ofString "  "), Txt.replace z (Str.ofString ":") (Str.ofString ""), z ++ Str.ofString "."]) (u := y1) (n := 5) rfl (by decide)
      refine ⟨_, rfl, a, _, 1, .int y1, rfl, rfl, SqL.of (u1 _ _ ha2), e1, _, _, rfl, rfl, (by show (0 : Int) < 5; decide), p, _, _, _, rfl, rfl, SqL.of upd_same, ey, q _ _ (ss2.trans u1) ?_⟩
      have c1 : TxM 1 0 (Str.ofString " ") := txc_ok (by decide +kernel)
      have c2 : TxM 1 1 (Str.ofString ".") := txc_ok (by decide +kernel)
      have c3 : TxM 2 0 (Str.ofString "  ") := txc_ok (by decide +kernel)
      have c4 : TxM 2 0 (Str.ofString "") := txc_ok (by decide +kernel)
      simp only [List.mem_cons, List.not_mem_nil, or_false] at my
      rcases my with rfl | rfl | rfl | rfl | rfl
      · exact (c1.app hz).up (by omega) (by omega)
      · exact (hz.app c1).up (by omega) (by omega)
      · rw [sp_eq]
        exact (hz.repl c3).up (by omega) (by omega)
      · rw [colon_eq]
        exact (hz.repl c4).up (by omega) (by omega)
      · exact (hz.app c2).up (by omega) (by omega)
    · have b3 : z.length + (z.length + 1) * 2 ≤ 16777216 := by have := hz.len; omega
      have b4 : z.length + (z.length + 1) * 1 ≤ 16777216 := by have := hz.len; omega
      have b5 : z.length ≤ sizeLine := big _ (by have := hz.len; omega)
      refine ⟨z, rfl, b3, z, rfl, b5, z, rfl, b5, z, rfl, b4, by show 4 ≤ sizeLine; decide, fun p hp => ?_⟩
      have u1 := same_new (o := .lst (([Txt.replace z (Str.ofString ":") (Str.ofString "::"), Txt.slice z (some 1) none, Txt.slice z none (some (-1)), Txt.replace z (Str.ofString ".") (Str.ofString ",")] : List Str).map V.str)) hp
      obtain ⟨y, ey, my⟩ := at_strI (ts := [Txt.replace z (Str.ofString ":") (Str.ofString "::"), Txt.slice z (some 1) none, Txt.slice z none (some (-1)), Txt.replace z (Str.ofString ".") (Str.ofString ",")]) (u := y1) (n := 4) rfl (by decide)
      refine ⟨_, rfl, a, _, 1, .int y1, rfl, rfl, SqL.of (u1 _ _ ha2), e1, _, _, rfl, rfl, (by show (0 : Int) < 4; decide), p, _, _, _, rfl, rfl, SqL.of upd_same, ey, q _ _ (ss2.trans u1) ?_⟩
      have c1 : TxM 2 0 (Str.ofString "::") := txc_ok (by decide +kernel)
      have c2 : TxM 2 0 (Str.ofString ",") := txc_ok (by decide +kernel)
      simp only [List.mem_cons, List.not_mem_nil, or_false] at my
      rcases my with rfl | rfl | rfl | rfl
      · rw [colon_eq]
        exact (hz.repl c1).up (by omega) (by omega)
      · exact (hz.sub (by rw [slice_from]; exact List.drop_sublist _ _)).up (by omega) (by omega)
      · exact (hz.sub (by rw [slice_to]; exact List.dropLast_sublist _)).up (by omega) (by omega)
      · rw [dot_eq]
        exact (hz.repl c2).up (by omega) (by omega)
/-! ### what is told, as data -/
def dLayR (p : Nat) (cs : List (List Nat)) : PyData := .tuple [.str "read", .tuple [.int ((p : Nat) : Int), .tuple (cs.map dTup)]]
def dText : PyData := .tuple [.str "text", .none]
theorem shaped_layR (p : Nat) (cs : List (List Nat)) : PySem.SeqAt.shaped (dLayR p cs) = true := by
  unfold PySem.SeqAt.shaped dLayR
  rw [Bool.and_eq_true]
  have h1 := lay_tps cs
  have h2 := depth_tps cs
  refine ⟨by simp [PyData.canLay0, PyData.canLayAll0, h1, (show PyData.strOk (Str.ofString "read") = true by decide +kernel)], decide_eq_true ?_⟩
  simp only [PyData.depth, PyData.depthAll]
  omega
theorem eqv_layR (p : Nat) (cs : List (List Nat)) : PyData.eqv (dLayR p cs) (dLayR p cs) = true := by
  simp [dLayR, PyData.eqv, PyData.eqvAll, eqv_tpsA cs]
theorem shaped_text : PySem.SeqAt.shaped dText = true := by simp [dText, PySem.SeqAt.shaped, PyData.canLay0, PyData.canLayAll0, PyData.depth, PyData.depthAll, (show PyData.strOk (Str.ofString "text") = true by decide +kernel)]
theorem eqv_text : PyData.eqv dText dText = true := by simp [dText, PyData.eqv, PyData.eqvAll]
theorem text_isD {K : PySem.W.Frag} {H : Hp} {t : Addr} (h : H t = some (.tup [.str "text", .non])) : IsD K H dText (.ref t) := by
  simp only [dText, IsD]
  refine ⟨t, _, rfl, SqT.of h, ?_⟩
  simp only [IsDs, IsD]
  exact ⟨_, _, rfl, rfl, _, _, rfl, rfl, rfl⟩
theorem due_data {v : V} {bs : List (List V)} {pl : V} (h : dueV v bs = some pl) : ∃ d : PyData, (∀ (K : PySem.W.Frag) (H : Hp), IsD K H d pl) ∧ PySem.SeqAt.shaped (.tuple [.str "layout", d]) = true ∧ PyData.eqv (.tuple [.str "layout", d]) (.tuple [.str "layout", d]) = true := by
  unfold dueV at h
  split at h
  · obtain ⟨k, _, rfl⟩ := Option.map_eq_some_iff.mp h
    exact ⟨.int ((k : Nat) : Int), fun K H => by simp only [IsD], by simp [PySem.SeqAt.shaped, PyData.canLay0, PyData.canLayAll0, PyData.depth, PyData.depthAll, (show PyData.strOk (Str.ofString "layout") = true by decide +kernel)], by simp [PyData.eqv, PyData.eqvAll]⟩
  · cases h
    exact ⟨.none, fun K H => by simp only [IsD], by simp [PySem.SeqAt.shaped, PyData.canLay0, PyData.canLayAll0, PyData.depth, PyData.depthAll, (show PyData.strOk (Str.ofString "layout") = true by decide +kernel)], by simp [PyData.eqv, PyData.eqvAll]⟩
theorem out_same {K : PySem.W.Frag} {H : Hp} {r r' : V} {s : Str} (h : OutAt H r s) (h' : OutAt H r' s) : ∃ d, IsD K H d r ∧ IsD K H d r' ∧ PySem.SeqAt.shaped d = true ∧ PyData.eqv d d = true := by
  obtain ⟨t, rfl, h⟩ := h
  obtain ⟨t', rfl, h'⟩ := h'
  rcases h with ⟨n, h⟩ | ⟨p, bs, hR, h⟩
  · rcases h' with ⟨_, h'⟩ | ⟨p, bs, hR, _⟩
    · exact ⟨dText, text_isD h, text_isD h', shaped_text, eqv_text⟩
    · exact absurd hR (n p bs)
  · rcases h' with ⟨n, _⟩ | ⟨p', bs', hR', h'⟩
    · exact absurd hR (n p bs)
    obtain ⟨rfl, rfl⟩ := rd_un hR hR'
    rcases h with ⟨pl, e, h⟩ | ⟨e, u, h, hL⟩
    · rcases h' with ⟨pl', e', h'⟩ | ⟨e', _⟩
      rotate_left
      · rw [e] at e'; cases e'
      rw [e] at e'
      cases e'
      obtain ⟨d, h1, h2, h3⟩ := due_data e
      have mk : ∀ {t : Addr}, H t = some (.tup [.str "layout", pl]) → IsD K H (.tuple [.str "layout", d]) (.ref t) := fun ht => by
        simp only [IsD]
        refine ⟨_, _, rfl, SqT.of ht, ?_⟩
        simp only [IsDs, IsD]
        exact ⟨_, _, rfl, rfl, _, _, rfl, h1 K H, rfl⟩
      exact ⟨_, mk h, mk h', h2, h3⟩
    · rcases h' with ⟨pl', e', h'⟩ | ⟨e', u', h', hL'⟩
      · rw [e] at e'; cases e'
      obtain ⟨lb, vs, cs, h1, h2, h3, h4⟩ := hL.it
      have mk : ∀ {t u : Addr}, H t = some (.tup [.str "read", .ref u]) → LayAt H u p bs → IsD K H (dLayR p cs) (.ref t) := fun ht hl => by
        obtain ⟨lb, vs, cs', h1, h2, h3, h5⟩ := hl.it
        cases h4.uniq h5
        simp only [dLayR, IsD]
        refine ⟨_, _, rfl, SqT.of ht, ?_⟩
        simp only [IsDs, IsD]
        exact ⟨_, _, rfl, rfl, _, _, rfl, ⟨_, _, rfl, SqT.of h1, _, _, rfl, rfl, _, _, rfl, ⟨lb, vs, rfl, SqT.of h2, tps_isD h3⟩, rfl⟩, rfl⟩
      exact ⟨_, mk h hL, mk h' hL', shaped_layR p cs, eqv_layR p cs⟩
theorem kit_no_str (K : PySem.W.Frag) : PySem.W.kitOne K (.type "NoneType") (.type "str") = some false ∧ PySem.W.kitOne K (.type "int") (.type "str") = some false ∧ PySem.W.kitOne K (.type "bool") (.type "str") = some false ∧ PySem.W.kitOne K (.type "list") (.type "str") = some false ∧ PySem.W.kitOne K (.type "tuple") (.type "str") = some false ∧ PySem.W.kitOne K (.type "dict") (.type "str") = some false := ⟨by kernel_rfl, by kernel_rfl, by kernel_rfl, by kernel_rfl, by kernel_rfl, by kernel_rfl⟩
/-- things that are no texts, whatever is added to the heap -/
def Odd7 (H : Hp) (v : V) : Prop := v = .non ∨ v = .int 3 ∨ v = .bl true ∨ (∃ a xs, v = .ref a ∧ H a = some (.lst xs)) ∨ (∃ a xs, v = .ref a ∧ H a = some (.tup xs)) ∨ ∃ a, v = .ref a ∧ H a = some (.dK [])
theorem Odd7.no {K : PySem.W.Frag} {H : Hp} {v : V} (h : Odd7 H v) : NoStr K H v := by
  obtain ⟨k1, k2, k3, k4, k5, k6⟩ := kit_no_str K
  rcases h with rfl | rfl | rfl | ⟨a, xs, rfl, h⟩ | ⟨a, xs, rfl, h⟩ | ⟨a, rfl, h⟩
  · exact ⟨_, .non, k1⟩
  · exact ⟨_, .int _, k2⟩
  · exact ⟨_, .bl _, k3⟩
  · exact ⟨_, .lst h, k4⟩
  · exact ⟨_, .tup h, k5⟩
  · exact ⟨_, .dK h, k6⟩
theorem Odd7.sm {H H' : Hp} {v : V} (h : Odd7 H v) (e : Same H H') : Odd7 H' v := by
  rcases h with h | h | h | ⟨a, xs, h1, h2⟩ | ⟨a, xs, h1, h2⟩ | ⟨a, h1, h2⟩
  · exact .inl h
  · exact .inr (.inl h)
  · exact .inr (.inr (.inl h))
  · exact .inr (.inr (.inr (.inl ⟨a, xs, h1, e _ _ h2⟩)))
  · exact .inr (.inr (.inr (.inr (.inl ⟨a, xs, h1, e _ _ h2⟩))))
  · exact .inr (.inr (.inr (.inr (.inr ⟨a, h1, e _ _ h2⟩))))
def mmS : Nat → Nat
  | 0 => 40000
  | i + 1 => 2 * mmS i + 100
def ddS : Nat → Nat
  | 0 => 900
  | i + 1 => 2 * ddS i + 10
theorem scLaw : FnScope ["_law_script", "_law_cell_here", "_law_points", "_law_blocks", "_law_xs", "_law_text_here", "_law_k"] ["_law_script"] (defScope sLaw) := ⟨rfl, rfl, rfl, by decide +kernel, rfl, by decide +kernel, by decide +kernel⟩
theorem ok_law {f : Addr} {fd : FuncData} (F : Fun K "law" "law" sLaw f fd) (T : TxtB mg) (pCell : Pm P w K mg base CX0 1 "_law_cell" ["_law_script", "_law_k"] (spCell2 K)) (pLDrawn : Pm P w K mg base CX0 2 "_law_drawn" ["_law_cell_here"] (spDrawn K)) (pLNumbers : Pm P w K mg base CX0 1 "_law_numbers" ["_law_cell_here", "_law_many"] spNums)
    (pLText : Pm P w K mg base CX0 1 "_law_text" ["_law_points", "_law_blocks"] spText) (pLSpoilt : Pm P w K mg base CX0 1 "_law_spoilt" ["_law_text_here", "_law_xs"] spSpoilt) (pLTold : Pm P w K mg base CX0 6 "_law_told" ["_law_text_here"] (spToldT K)) (pLReading : Pm P w K mg base CX0 2 "_law_reading" ["_law_text_here"] spReading) : FnOk P w K mg base CX0 12 f fd ["_law_script"] (spLaw K) := by
  refine F.okQ scLaw (fun vs H Q E h => ?_) (fun cdv A outer s H vs Q E hr h => ?_)
  · obtain ⟨a, ns, rfl, _⟩ := h
    rfl
  · obtain ⟨a, ns, rfl, hS, hlen, k⟩ := h
    have hr1 : Room 1 _ := hr.mono (by decide)
    have hr2 : Room 2 _ := hr.mono (by decide)
    have hr6 : Room 6 _ := hr.mono (by decide)
    have hu := hr.units
    refine ⟨_, (qss_cons (qs_for PassesOwn.never rfl (qi_list (qe_op op_cat (qe_lst (qac (qe_callP pCell hr1 rfl pass0 (qac (qv 0) (qac qe_int qa_nil))) qa_nil)) (qe_slice sl_list (qv 0) (qo_some qe_int) (qo_some qe_int)))) (qg_name (i := 1) scLaw.nd rfl (Or.inl rfl))
        (qss_cons (qs_asg (qe_callP pLDrawn hr2 rfl pass0 (qac (qv 1) qa_nil)) (qg_tup rfl (qgs_cons (qg_name (i := 2) scLaw.nd rfl (Or.inl rfl)) (qgs_cons (qg_name (i := 3) scLaw.nd rfl (Or.inl rfl)) qgs_nil))))
        (qss_cons (qs_set (i := 4) scLaw.nd rfl (Or.inl rfl) (qe_slice sl_list (qe_callP pLNumbers hr1 rfl pass0 (qac (qv 1) (qac qe_int qa_nil))) (qo_some qe_int) qo_none))
        (qss_cons (qs_if (qt_cmpR op_eq (qe_op op_mod (qe_ix ix_list (qv 4) qe_int (fun _ _ => rfl)) qe_int) qe_int (nomark _)) (qss_one (qs_set (i := 3) scLaw.nd rfl (Or.inl rfl) (qe_slice sl_list (qe_op op_mulL (qe_lst (qac (qe_lst (qac qe_int qa_nil)) qa_nil)) qe_int) qo_none (qo_some (qe_op op_add qe_int (qe_op op_mod (qe_ix ix_list (qv 4) qe_int (fun _ _ => rfl)) qe_int)))))) qss_nil)
        (qss_cons (qs_set (i := 5) scLaw.nd rfl (Or.inl rfl) (qe_callP pLText hr1 rfl pass0 (qac (qv 2) (qac (qv 3) qa_nil))))
        (qss_cons (qs_for PassesOwn.never rfl (qi_range1 rfl T.range (qac (qe_op op_mod (qe_ix ix_list (qv 4) qe_int (fun _ _ => rfl)) qe_int) qa_nil)) (qg_name (i := 6) scLaw.nd rfl (Or.inl rfl))
          (qss_one (qs_set (i := 5) scLaw.nd rfl (Or.inl rfl) (qe_callP pLSpoilt hr1 rfl pass0 (qac (qv 5) (qac (qe_slice sl_list (qv 4) (qo_some (qe_op op_add (qe_op op_mul qe_int (qv 6)) qe_int)) qo_none) qa_nil))))))
        (qss_one (qs_if (qt_cmpR (op_neD hu) (qe_callP pLTold hr6 rfl pass0 (qac (qv 5) qa_nil)) (qe_callP pLReading hr2 rfl pass0 (qac (qv 5) qa_nil)) (nomark _)) (qss_one (qs_ret qe_bl)) qss_nil))))))))
      (qss_one (qs_ret (qe_callB (call_all rfl) (by rfl) T.all (by decide +kernel) (qac (qe_comp (g := gName 0) (N := ["_law_thing"]) (src := [none]) rfl (comp_scope (defScope sLaw) ["_law_script", "_law_cell_here", "_law_points", "_law_blocks", "_law_xs", "_law_text_here", "_law_k"] rfl rfl (by decide +kernel) rfl) (qi_list (qe_lst (qac qe_non (qac qe_int (qac qe_bl (qac (qe_lst (qac qe_str qa_nil)) (qac (qe_tup (qac qe_str qa_nil)) (qac qe_dnewK (qac (qe_tup (qac qe_int (qac (qe_tup qa_nil) qa_nil))) qa_nil))))))))) (fun _ _ _ _ _ => (qg_name (i := 0) (show (["_law_thing"] : List Str).Nodup by decide +kernel) rfl (Or.inl rfl) (Or.inr rfl))) (fun _ _ _ _ _ => qif_nil) (fun _ _ _ _ _ => (qe_cmpR (show OpR _ _ (rEqD K false) from op_eqD hu) (qe_callP pLTold hr6 rfl pass0 (qac (qv 0) qa_nil)) (qe_tup (qac qe_str (qac qe_non qa_nil))) (nomark _)))) qa_nil))))), ?_⟩
    refine cells_for2 rfl hS hlen (fun σ => ∃ (x1 x2 x3 x4 x5 x6 : Option V), σ = [some (.ref a), x1, x2, x3, x4, x5, x6]) ⟨_, _, _, _, _, _, rfl⟩ ?_ ?_
    · rintro Hq sq c σ H2 ⟨x1, x2, x3, x4, x5, x6, rfl⟩ s2
      refine ⟨_, rfl, c, rfl, fun t l p ws bs H3 hl0 s3 ht hl hB hp1 hp2 hlb hbb => ?_⟩
      refine ⟨t, _, rfl, SqT.of ht, rfl, _, _, rfl, _, _, rfl, rfl, ?_⟩
      refine ⟨_, rfl, c, 100, rfl, by decide, fun ln ms H4 hln s4 hln4 hml hms => ⟨_, rfl, ln, _, rfl, SqL.of hln4, fun lx hlx => ?_⟩⟩
      have ec : cutV (ms.map V.int) (some 84) none = (ms.drop 84).map V.int := by
        rw [show cutV (ms.map V.int) (some 84) none = (ms.map V.int).drop 84 from cut_from (k := 84) (by rw [List.length_map]; omega), List.map_drop]
      rw [ec]
      have hxl : (ms.drop 84).length = 16 := by rw [List.length_drop]; omega
      have hxn : ∀ x ∈ ms.drop 84, 0 ≤ x ∧ x < 2000000000 := fun x hx => hms x (List.mem_of_mem_drop hx)
      generalize ms.drop 84 = ys at hxl hxn ⊢
      have w4 := same_new (o := .lst (ys.map V.int)) hlx
      have s35 := s4.trans w4
      have hlx5 : upd H4 lx (.lst (ys.map V.int)) lx = some (.lst (ys.map V.int)) := upd_same
      generalize upd H4 lx (.lst (ys.map V.int)) = H5 at s35 hlx5 ⊢
      obtain ⟨y0, e0, m0⟩ := at_ok (ns := ys) (i := 0) (by omega)
      obtain ⟨y1, e1, m1⟩ := at_ok (ns := ys) (i := 1) (by omega)
      obtain ⟨y2, e2, m2⟩ := at_ok (ns := ys) (i := 2) (by omega)
      have hl5 := s35 _ _ hl
      have hB5 := hB.same s35
      have hsum : (bs.map List.length).sum ≤ 900 := by
        have : ∀ {l : List (List Nat)}, (∀ b ∈ l, b.length ≤ 60) → (l.map List.length).sum ≤ 60 * l.length := fun {l} => by
          induction l with
          | nil => intro _; exact Nat.zero_le _
          | cons b l ih =>
            intro h
            have h1 := h b (List.mem_cons_self ..)
            have h2 := ih fun b hb => h b (List.mem_cons_of_mem _ hb)
            rw [List.map_cons, List.sum_cons, List.length_cons]
            omega
        have := this fun b hb => (bk_of (hbb b hb) hp2).2
        omega
      refine ⟨_, rfl, lx, _, 0, .int y0, rfl, rfl, SqL.of hlx5, e0, _, _, rfl, rfl, (by decide : (0 : Int) < 9), rfl, _, rfl, ?_⟩
      refine iteV (fun σ' H' => Same H5 H' ∧ ∃ (l' : Addr) (ws' : List V) (bs' : List (List Nat)), σ' = [some (.ref a), some (.int c), some (.int ((p : Nat) : Int)), some (.ref l'), some (.ref lx), x5, x6] ∧ H' l' = some (.lst ws') ∧ BlAt H' ws' bs' ∧ bs'.length ≤ 201 ∧ (∀ b ∈ bs', Bk b) ∧ (bs'.map List.length).sum ≤ 900) ?_ (fun hw go => ?_) (fun hw go => go _ _ ⟨Same.refl _, l, ws, bs, rfl, hl5, hB5, by omega, fun b hb => bk_of (hbb b hb) hp2, hsum⟩)
      rotate_left
      · refine ⟨by show 1 ≤ sizeLine; decide, fun u hu => ⟨by show 1 ≤ sizeLine; decide, fun d hd => ?_⟩⟩
        have v1 := same_new (o := .lst [.int 0]) hu
        have v2 := same_new (o := .lst [.ref u]) hd
        have v12 := v1.trans v2
        have hu7 := v2 _ _ (upd_same (H := H5) (a := u) (o := .lst [.int 0]))
        have hd7 : upd (upd H5 u (.lst [.int 0])) d (.lst [.ref u]) d = some (.lst [.ref u]) := upd_same
        generalize upd (upd H5 u (.lst [.int 0])) d (.lst [.ref u]) = H7 at v12 hu7 hd7 ⊢
        refine ⟨d, [.ref u], 201, rfl, rfl, SqL.of hd7, by decide, by decide, (by show 1 * Int.toNat 201 ≤ 65536; decide), fun e he => ?_⟩
        have hrl : (List.replicate (201 : Int).toNat [V.ref u]).flatten = List.replicate 201 (V.ref u) := by
          have : ∀ m : Nat, (List.replicate m [V.ref u]).flatten = List.replicate m (V.ref u) := fun m => by
            induction m with
            | zero => rfl
            | succ m ih => rw [List.replicate_succ, List.flatten_cons, ih, List.replicate_succ]; rfl
          exact this 201
        rw [hrl]
        have v3 := same_new (o := .lst (List.replicate 201 (V.ref u))) he
        have v14 := v12.trans v3
        have hg8 : upd H7 e (.lst (List.replicate 201 (V.ref u))) e = some (.lst (List.replicate 201 (V.ref u))) := upd_same
        have hu8 := v3 _ _ hu7
        generalize upd H7 e (.lst (List.replicate 201 (V.ref u))) = H8 at v14 hg8 hu8 ⊢
        refine ⟨_, rfl, lx, _, 1, .int y1, rfl, rfl, SqL.of (v14 _ _ hlx5), e1, _, _, rfl, rfl, (by decide : (0 : Int) < 2), _, _, rfl, rfl, _, rfl, e, _, rfl, SqL.of hg8, fun r hr' => ?_⟩
        have v5 := same_new (o := .lst (cutV (List.replicate 201 (V.ref u)) none (some (200 + y1 % 2)))) hr'
        have hcut : ∃ j : Nat, cutV (List.replicate 201 (V.ref u)) none (some (200 + y1 % 2)) = List.replicate j (V.ref u) ∧ j ≤ 201 := by
          have q0 := Int.emod_nonneg y1 (show (2 : Int) ≠ 0 by decide)
          have q1 := Int.emod_lt_of_pos y1 (show (0 : Int) < 2 by decide)
          refine ⟨(200 + y1 % 2).toNat, ?_, by omega⟩
          have := cut_le (xs := List.replicate 201 (V.ref u)) (k := (200 + y1 % 2).toNat)
          rw [Int.toNat_of_nonneg (by omega)] at this
          rw [this, List.take_replicate]
          congr 1
          omega
        obtain ⟨j, ej, hj⟩ := hcut
        rw [ej] at v5 ⊢
        have hbl : ∀ {H : Hp} (n : Nat), H u = some (.lst [.int 0]) → BlAt H (List.replicate n (V.ref u)) (List.replicate n [0]) := fun {H} n h => by
          induction n with
          | zero => exact trivial
          | succ n ih => exact ⟨⟨u, rfl, h⟩, ih⟩
        refine go _ _ ⟨v14.trans v5, r, _, List.replicate j [0], rfl, upd_same, hbl j (v5 _ _ hu8), by rw [List.length_replicate]; exact hj, fun b hb => by rw [List.eq_of_mem_replicate hb]; exact ⟨by decide, by decide⟩, ?_⟩
        rw [List.map_replicate, List.sum_replicate_nat]
        show j * 1 ≤ 900
        omega
      rintro σ' H7 ⟨s7, l7, ws7, bs7, rfl, hl7, hB7, hn7, hb7, hs7⟩
      have hlx7 := s7 _ _ hlx5
      refine ⟨_, rfl, _, rfl, l7, p, ws7, bs7, rfl, hl7, hB7, hp2, hn7, hb7, fun H8 s8 => ?_⟩
      have hlx8 := s8 _ _ hlx7
      have hT := tx_bound hp2 hb7 hn7 hs7
      have h3a := Int.emod_nonneg y2 (show (3 : Int) ≠ 0 by decide)
      have h3b := Int.emod_lt_of_pos y2 (show (0 : Int) < 3 by decide)
      have hmd : ∀ i, i ≤ 2 → mmS i ≤ 160300 ∧ ddS i ≤ 3630 := fun i hi => by
        rcases (show i = 0 ∨ i = 1 ∨ i = 2 by omega) with rfl | rfl | rfl <;> decide
      refine ⟨_, rfl, lx, _, 2, .int y2, rfl, rfl, SqL.of hlx8, e2, _, _, rfl, rfl, (by decide : (0 : Int) < 3), _, rfl, by omega, by omega, for_range (lo := 0) (n := (y2 % 3).toNat)
        (fun i σ Hx => Same H8 Hx ∧ ∃ (z : Str) (x6 : Option V), σ = [some (.ref a), some (.int c), some (.int ((p : Nat) : Int)), some (.ref l7), some (.ref lx), some (.str z), x6] ∧ TxM (mmS i) (ddS i) z)
        ⟨Same.refl _, _, _, rfl, hT⟩ ?_ ?_⟩
      · rintro i σ Hx hi ⟨sx, z, x6, rfl, hz⟩
        have hi2 : i ≤ 1 := by omega
        have cm : CMul 4 (0 + (i : Int)) := .inl ⟨by decide, by decide⟩
        have k3 : (4 * (0 + (i : Int)) + 3) = ((4 * i + 3 : Nat) : Int) := by omega
        refine ⟨_, rfl, _, rfl, _, rfl, _, _, rfl, rfl, cm, _, _, rfl, rfl, _, rfl, lx, _, rfl, SqL.of (sx _ _ hlx8), fun u hu => ?_⟩
        have ecut : cutV (ys.map V.int) (some (4 * (0 + (i : Int)) + 3)) none = (ys.drop (4 * i + 3)).map V.int := by
          rw [k3, cut_from (by rw [List.length_map]; omega), List.map_drop]
        rw [ecut]
        have q1 := same_new (o := .lst ((ys.drop (4 * i + 3)).map V.int)) hu
        have hm := hmd i (by omega)
        exact ⟨u, z, ys.drop (4 * i + 3), mmS i, ddS i, rfl, upd_same, by rw [List.length_drop]; omega, hz, by omega, fun y H9 s9 hy => ⟨sx.trans (q1.trans s9), y, _, rfl, hy⟩⟩
      rintro σ Hx ⟨sx, z, x6, rfl, hz⟩
      have hm := hmd (y2 % 3).toNat (by omega)
      have hzB : TxB z := ⟨hz.asc, Nat.le_trans hz.len (by omega), Nat.le_trans hz.dots (by omega)⟩
      refine ⟨_, rfl, _, rfl, .inl ⟨z, rfl, hzB, fun r H9 s9 hr9 => ?_⟩⟩
      refine ⟨_, rfl, z, rfl, hzB, fun r' H10 s10 hr10 => ?_⟩
      obtain ⟨d, d1, d2, d3, d4⟩ := out_same (K := K) (hr9.sm s10) hr10
      refine ⟨d, d, d1, d2, d3, d3, _, rfl, ?_⟩
      show if (!PyData.eqv d d) = true then _ else _
      rw [d4]
      exact iteF ⟨s2.trans (s3.trans (s35.trans (s7.trans (s8.trans (sx.trans (s9.trans s10)))))), _, _, _, _, _, _, rfl⟩
    rintro σ' H2 ⟨x1, x2, x3, x4, x5, x6, rfl⟩
    refine ⟨by show 1 ≤ sizeLine; decide, fun l1 hl1 => ?_⟩
    have v1 := same_new (o := .lst [.str "3:"]) hl1
    refine ⟨by show 1 ≤ sizeLine; decide, fun l2 hl2 => ?_⟩
    have v2 := same_new (o := .tup [.str "3:"]) hl2
    refine fun l3 hl3 => ?_
    have v3 := same_new (o := .dK []) hl3
    refine ⟨by show 0 ≤ sizeLine; decide, fun l4 hl4 => ?_⟩
    have v4 := same_new (o := .tup []) hl4
    refine ⟨by show 2 ≤ sizeLine; decide, fun l5 hl5 => ?_⟩
    have v5 := same_new (o := .tup [.int 3, .ref l4]) hl5
    refine ⟨by show 7 ≤ sizeLine; decide, fun l6 hl6 => ?_⟩
    have v6 := same_new (o := .lst [.non, .int 3, .bl true, .ref l1, .ref l2, .ref l3, .ref l5]) hl6
    have v35 := v3.trans (v4.trans (v5.trans v6))
    have hodd : ∀ v ∈ [V.non, .int 3, .bl true, .ref l1, .ref l2, .ref l3, .ref l5], Odd7 (upd (upd (upd (upd (upd (upd H2 l1 (.lst [.str "3:"])) l2 (.tup [.str "3:"])) l3 (.dK [])) l4 (.tup [])) l5 (.tup [.int 3, .ref l4])) l6 (.lst [.non, .int 3, .bl true, .ref l1, .ref l2, .ref l3, .ref l5])) v := fun v hv => by
      simp only [List.mem_cons, List.not_mem_nil, or_false] at hv
      rcases hv with rfl | rfl | rfl | rfl | rfl | rfl | rfl
      · exact .inl rfl
      · exact .inr (.inl rfl)
      · exact .inr (.inr (.inl rfl))
      · exact .inr (.inr (.inr (.inl ⟨l1, _, rfl, (v2.trans v35) _ _ upd_same⟩)))
      · exact .inr (.inr (.inr (.inr (.inl ⟨l2, _, rfl, v35 _ _ upd_same⟩))))
      · exact .inr (.inr (.inr (.inr (.inr ⟨l3, rfl, (v4.trans (v5.trans v6)) _ _ upd_same⟩))))
      · exact .inr (.inr (.inr (.inr (.inl ⟨l5, _, rfl, v6 _ _ upd_same⟩))))
    have hl6' : (upd (upd (upd (upd (upd (upd H2 l1 (.lst [.str "3:"])) l2 (.tup [.str "3:"])) l3 (.dK [])) l4 (.tup [])) l5 (.tup [.int 3, .ref l4])) l6 (.lst [.non, .int 3, .bl true, .ref l1, .ref l2, .ref l3, .ref l5])) l6 = some (.lst [.non, .int 3, .bl true, .ref l1, .ref l2, .ref l3, .ref l5]) := upd_same
    clear v1 v2 v3 v4 v5 v6 v35
    generalize (upd (upd (upd (upd (upd (upd H2 l1 (.lst [.str "3:"])) l2 (.tup [.str "3:"])) l3 (.dK [])) l4 (.tup [])) l5 (.tup [.int 3, .ref l4])) l6 (.lst [.non, .int 3, .bl true, .ref l1, .ref l2, .ref l3, .ref l5])) = H3 at hodd hl6' ⊢
    refine ⟨l6, rfl, ⟨_, SqL.of hl6'⟩, comp_list (K := K) (xs := [V.non, .int 3, .bl true, .ref l1, .ref l2, .ref l3, .ref l5]) (fun j zs H4 => Same H3 H4 ∧ zs = (List.replicate j true).map V.bl) ⟨Same.refl _, rfl⟩ (fun j zs H4 _ ⟨e, _⟩ => SqL.of (e _ _ hl6')) ?_ ?_⟩
    · rintro j v zs H4 N hj ⟨s4, rfl⟩ nx
      have hv := (hodd v (List.mem_of_getElem? hj)).sm s4
      have hj7 : j < 7 := (List.getElem?_eq_some_iff.mp hj).1
      refine ⟨Weak.set (by intro v z; cases z), ⟨_, rfl, v, rfl, .inr ⟨hv.no, fun t H5 s5 ht => ?_⟩⟩⟩
      refine ⟨by show 2 ≤ sizeLine; decide, fun t2 ht2 => ?_⟩
      have w5 := same_new (o := .tup [.str "text", .non]) ht2
      refine ⟨dText, dText, text_isD (w5 _ _ ht), text_isD upd_same, shaped_text, shaped_text, ?_⟩
      refine ⟨?_, nx _ _ ⟨s4.trans (s5.trans w5), ?_⟩⟩
      · rw [List.length_map, List.length_replicate]
        exact Nat.lt_of_lt_of_le hj7 (by decide)
      · show _ ++ [V.bl (PyData.eqv dText dText)] = _
        rw [eqv_text, List.replicate_succ', List.map_append]
        rfl
    rintro zs H4 ⟨s4, rfl⟩
    refine ⟨by show 7 ≤ sizeLine; decide, fun r hr => ?_⟩
    exact ⟨r, List.replicate 7 true, rfl, SqL.of upd_same, k _⟩
end
end E1
namespace E1
open PySem L2
theorem all_mk {l : PySem.W.OpenLaw} {w : World} {K : PySem.W.Frag} {h : Heap} {mg : Str → Option Value} {fa : Addr} (X : K.In h) (G : h.Ns mainGlobals mg) (hfa : mg "law" = some (.ref fa))
    (N : PySem.W.nsIn K mainGlobals "isinstance" = some none ∧ PySem.W.nsIn K mainGlobals "int" = some none ∧ PySem.W.nsIn K mainGlobals "bool" = some none ∧ PySem.W.nsIn K mainGlobals "abs" = some none ∧ PySem.W.nsIn K mainGlobals "len" = some none ∧ PySem.W.nsIn K mainGlobals "range" = some none ∧ PySem.W.nsIn K mainGlobals "tuple" = some none ∧ PySem.W.nsIn K mainGlobals "list" = some none ∧ PySem.W.nsIn K mainGlobals "sorted" = some none ∧ PySem.W.nsIn K mainGlobals "all" = some none ∧ PySem.W.nsIn K mainGlobals "set" = some none ∧ PySem.W.nsIn K mainGlobals "zip" = some none ∧ PySem.W.nsIn K mainGlobals "enumerate" = some none ∧ PySem.W.nsIn K mainGlobals "any" = some none ∧ PySem.W.nsIn K mainGlobals "max" = some none ∧ PySem.W.nsIn K mainGlobals "min" = some none ∧ PySem.W.nsIn K mainGlobals "str" = some none ∧ PySem.W.nsIn K mainGlobals "sum" = some none)
    (CMostPoints : ∃ t, PySem.W.nsIn K mainGlobals "MOST_POINTS" = some (some (.int 60 t)))
    (CMostBlocks : ∃ t, PySem.W.nsIn K mainGlobals "MOST_BLOCKS" = some (some (.int 200 t)))
    (CMostFigures : ∃ t, PySem.W.nsIn K mainGlobals "MOST_FIGURES" = some (some (.int 4 t)))
    (CFigures : ∃ t, PySem.W.nsIn K mainGlobals "FIGURES" = some (some (.str "0123456789" t)))
    (CEmptyBlock : ∃ t, PySem.W.nsIn K mainGlobals "EMPTY_BLOCK" = some (some (.str "-" t)))
    (R : ∃ (M C fI o1 o2 o3 o4 o5 o6 o7 o8 o9 o10 o11 o12 o13 : Addr) (fd : FuncData), RefsX K M C fI o1 o2 o3 o4 o5 o6 o7 o8 o9 o10 o11 o12 o13 fd)
    (AWhole : At K "is_whole" sWhole) (AIsBelow : At K "is_below" sIsBelow) (ALayoutOf : At K "layout_of" sLayoutOf) (AIsPointsNumber : At K "is_points_number" sIsPointsNumber) (AInOrder : At K "in_order" sInOrder) (AAreUnlikePoints : At K "are_unlike_points" sAreUnlikePoints) (AReadLayout : At K "read_layout" sReadLayout) (ABlocksRead : At K "blocks_read" sBlocksRead) (ABlockRead : At K "block_read" sBlockRead) (ANumberRead : At K "number_read" sNumberRead) (AIsNumber : At K "is_number" sIsNumber) (ACell : At K "_law_cell" sCell) (ALNumbers : At K "_law_numbers" sLNumbers) (ALBits : At K "_law_bits" sLBits) (ALTurned : At K "_law_turned" sLTurned) (ALDrawn : At K "_law_drawn" sLDrawn) (ALText : At K "_law_text" sLText) (ALFigures : At K "_law_figures" sLFigures) (ALReading : At K "_law_reading" sLReading) (ALTold : At K "_law_told" sLTold) (ALSpoilt : At K "_law_spoilt" sLSpoilt) (ALaw : At K "law" sLaw) :
    ∃ fd : FuncData, (∀ (s : Shared) (v : Value), BindsTo s fd ⟨[v], []⟩ [("_law_script", v)]) ∧ ∀ base : Heap, K.In base → base.Ns mainGlobals mg → FnOk l.prog w K mg base CX0 12 fa fd ["_law_script"] (spLaw K) := by
  obtain ⟨n0, n1, n2, n3, n4, n5, n6, n7, n8, n9, n10, n11, n12, n13, n14, n15, n16, n17⟩ := N
  have T : TxtB mg := ⟨PySem.W.mg_none_of X G n0, PySem.W.mg_none_of X G n1, PySem.W.mg_none_of X G n2, PySem.W.mg_none_of X G n3, PySem.W.mg_none_of X G n4, PySem.W.mg_none_of X G n5, PySem.W.mg_none_of X G n6, PySem.W.mg_none_of X G n7, PySem.W.mg_none_of X G n8, PySem.W.mg_none_of X G n9, PySem.W.mg_none_of X G n10, PySem.W.mg_none_of X G n11, PySem.W.mg_none_of X G n12, PySem.W.mg_none_of X G n13, PySem.W.mg_none_of X G n14, PySem.W.mg_none_of X G n15, PySem.W.mg_none_of X G n16, PySem.W.mg_none_of X G n17⟩
  obtain ⟨M, C, fI, o1, o2, o3, o4, o5, o6, o7, o8, o9, o10, o11, o12, o13, fdI, R⟩ := R
  have D := marksX_of X G R
  obtain ⟨tMostPoints, cMostPoints⟩ := CMostPoints
  have mMostPoints := PySem.W.mg_of X G cMostPoints
  obtain ⟨tMostBlocks, cMostBlocks⟩ := CMostBlocks
  have mMostBlocks := PySem.W.mg_of X G cMostBlocks
  obtain ⟨tMostFigures, cMostFigures⟩ := CMostFigures
  have mMostFigures := PySem.W.mg_of X G cMostFigures
  obtain ⟨tFigures, cFigures⟩ := CFigures
  have mFigures := PySem.W.mg_of X G cFigures
  obtain ⟨tEmptyBlock, cEmptyBlock⟩ := CEmptyBlock
  have mEmptyBlock := PySem.W.mg_of X G cEmptyBlock
  obtain ⟨fWhole, fdWhole, aWhole, FWhole⟩ := AWhole
  obtain ⟨fIsBelow, fdIsBelow, aIsBelow, FIsBelow⟩ := AIsBelow
  obtain ⟨fLayoutOf, fdLayoutOf, aLayoutOf, FLayoutOf⟩ := ALayoutOf
  obtain ⟨fIsPointsNumber, fdIsPointsNumber, aIsPointsNumber, FIsPointsNumber⟩ := AIsPointsNumber
  obtain ⟨fInOrder, fdInOrder, aInOrder, FInOrder⟩ := AInOrder
  obtain ⟨fAreUnlikePoints, fdAreUnlikePoints, aAreUnlikePoints, FAreUnlikePoints⟩ := AAreUnlikePoints
  obtain ⟨fReadLayout, fdReadLayout, aReadLayout, FReadLayout⟩ := AReadLayout
  obtain ⟨fBlocksRead, fdBlocksRead, aBlocksRead, FBlocksRead⟩ := ABlocksRead
  obtain ⟨fBlockRead, fdBlockRead, aBlockRead, FBlockRead⟩ := ABlockRead
  obtain ⟨fNumberRead, fdNumberRead, aNumberRead, FNumberRead⟩ := ANumberRead
  obtain ⟨fIsNumber, fdIsNumber, aIsNumber, FIsNumber⟩ := AIsNumber
  obtain ⟨fCell, fdCell, aCell, FCell⟩ := ACell
  obtain ⟨fLNumbers, fdLNumbers, aLNumbers, FLNumbers⟩ := ALNumbers
  obtain ⟨fLBits, fdLBits, aLBits, FLBits⟩ := ALBits
  obtain ⟨fLTurned, fdLTurned, aLTurned, FLTurned⟩ := ALTurned
  obtain ⟨fLDrawn, fdLDrawn, aLDrawn, FLDrawn⟩ := ALDrawn
  obtain ⟨fLText, fdLText, aLText, FLText⟩ := ALText
  obtain ⟨fLFigures, fdLFigures, aLFigures, FLFigures⟩ := ALFigures
  obtain ⟨fLReading, fdLReading, aLReading, FLReading⟩ := ALReading
  obtain ⟨fLTold, fdLTold, aLTold, FLTold⟩ := ALTold
  obtain ⟨fLSpoilt, fdLSpoilt, aLSpoilt, FLSpoilt⟩ := ALSpoilt
  obtain ⟨fLaw, fdLaw, aLaw, FLaw⟩ := ALaw
  have e := hfa.symm.trans (PySem.W.mg_of X G aLaw)
  cases e
  have bWhole := FWhole.binds (ps := ["thing"]) fun _ _ _ _ _ _ us hl => match us, hl with | [_], _ => rfl
  have mWhole := PySem.W.mg_of X G aWhole
  have bIsBelow := FIsBelow.binds (ps := ["thing", "many"]) fun _ _ _ _ _ _ us hl => match us, hl with | [_, _], _ => rfl
  have mIsBelow := PySem.W.mg_of X G aIsBelow
  have bLayoutOf := FLayoutOf.binds (ps := ["points", "blocks"]) fun _ _ _ _ _ _ us hl => match us, hl with | [_, _], _ => rfl
  have mLayoutOf := PySem.W.mg_of X G aLayoutOf
  have bIsPointsNumber := FIsPointsNumber.binds (ps := ["thing"]) fun _ _ _ _ _ _ us hl => match us, hl with | [_], _ => rfl
  have mIsPointsNumber := PySem.W.mg_of X G aIsPointsNumber
  have bInOrder := FInOrder.binds (ps := ["block"]) fun _ _ _ _ _ _ us hl => match us, hl with | [_], _ => rfl
  have mInOrder := PySem.W.mg_of X G aInOrder
  have bAreUnlikePoints := FAreUnlikePoints.binds (ps := ["things", "points"]) fun _ _ _ _ _ _ us hl => match us, hl with | [_, _], _ => rfl
  have mAreUnlikePoints := PySem.W.mg_of X G aAreUnlikePoints
  have bReadLayout := FReadLayout.binds (ps := ["text"]) fun _ _ _ _ _ _ us hl => match us, hl with | [_], _ => rfl
  have mReadLayout := PySem.W.mg_of X G aReadLayout
  have bBlocksRead := FBlocksRead.binds (ps := ["tail"]) fun _ _ _ _ _ _ us hl => match us, hl with | [_], _ => rfl
  have mBlocksRead := PySem.W.mg_of X G aBlocksRead
  have bBlockRead := FBlockRead.binds (ps := ["word"]) fun _ _ _ _ _ _ us hl => match us, hl with | [_], _ => rfl
  have mBlockRead := PySem.W.mg_of X G aBlockRead
  have bNumberRead := FNumberRead.binds (ps := ["word"]) fun _ _ _ _ _ _ us hl => match us, hl with | [_], _ => rfl
  have mNumberRead := PySem.W.mg_of X G aNumberRead
  have bIsNumber := FIsNumber.binds (ps := ["word", "most_figures"]) fun _ _ _ _ _ _ us hl => match us, hl with | [_, _], _ => rfl
  have mIsNumber := PySem.W.mg_of X G aIsNumber
  have bCell := FCell.binds (ps := ["_law_script", "_law_k"]) fun _ _ _ _ _ _ us hl => match us, hl with | [_, _], _ => rfl
  have mCell := PySem.W.mg_of X G aCell
  have bLNumbers := FLNumbers.binds (ps := ["_law_cell_here", "_law_many"]) fun _ _ _ _ _ _ us hl => match us, hl with | [_, _], _ => rfl
  have mLNumbers := PySem.W.mg_of X G aLNumbers
  have bLBits := FLBits.binds (ps := ["_law_xs", "_law_points"]) fun _ _ _ _ _ _ us hl => match us, hl with | [_, _], _ => rfl
  have mLBits := PySem.W.mg_of X G aLBits
  have bLTurned := FLTurned.binds (ps := ["_law_some", "_law_x"]) fun _ _ _ _ _ _ us hl => match us, hl with | [_, _], _ => rfl
  have mLTurned := PySem.W.mg_of X G aLTurned
  have bLDrawn := FLDrawn.binds (ps := ["_law_cell_here"]) fun _ _ _ _ _ _ us hl => match us, hl with | [_], _ => rfl
  have mLDrawn := PySem.W.mg_of X G aLDrawn
  have bLText := FLText.binds (ps := ["_law_points", "_law_blocks"]) fun _ _ _ _ _ _ us hl => match us, hl with | [_, _], _ => rfl
  have mLText := PySem.W.mg_of X G aLText
  have bLFigures := FLFigures.binds (ps := ["_law_word"]) fun _ _ _ _ _ _ us hl => match us, hl with | [_], _ => rfl
  have mLFigures := PySem.W.mg_of X G aLFigures
  have bLReading := FLReading.binds (ps := ["_law_text_here"]) fun _ _ _ _ _ _ us hl => match us, hl with | [_], _ => rfl
  have mLReading := PySem.W.mg_of X G aLReading
  have bLTold := FLTold.binds (ps := ["_law_text_here"]) fun _ _ _ _ _ _ us hl => match us, hl with | [_], _ => rfl
  have mLTold := PySem.W.mg_of X G aLTold
  have bLSpoilt := FLSpoilt.binds (ps := ["_law_text_here", "_law_xs"]) fun _ _ _ _ _ _ us hl => match us, hl with | [_, _], _ => rfl
  have mLSpoilt := PySem.W.mg_of X G aLSpoilt
  refine ⟨fdLaw, ?_, fun base _ _ => ?_⟩
  · obtain ⟨oc, od, kV, doc, pm, an, cdv, ct, osl, rfl, lk, hcd⟩ := FLaw.ex
    exact fun s v => .of_eq rfl
  · have pN : Pm l.prog w K mg base CX0 1 "_law_numbers" ["_law_cell_here", "_law_many"] spNums := ⟨fLNumbers, fdLNumbers, mLNumbers, FLNumbers.kp, bLNumbers, ok_numbers FLNumbers T⟩
    have pC : Pm l.prog w K mg base CX0 1 "_law_cell" ["_law_script", "_law_k"] (spCell2 K) := ⟨fCell, fdCell, mCell, FCell.kp, bCell, ok_cell2 FCell T⟩
    have pB : Pm l.prog w K mg base CX0 1 "_law_bits" ["_law_xs", "_law_points"] (spBits K) := ⟨fLBits, fdLBits, mLBits, FLBits.kp, bLBits, ok_bits FLBits T⟩
    have pTu : Pm l.prog w K mg base CX0 1 "_law_turned" ["_law_some", "_law_x"] spTurned := ⟨fLTurned, fdLTurned, mLTurned, FLTurned.kp, bLTurned, ok_turned FLTurned T⟩
    have pDr : Pm l.prog w K mg base CX0 2 "_law_drawn" ["_law_cell_here"] (spDrawn K) := ⟨fLDrawn, fdLDrawn, mLDrawn, FLDrawn.kp, bLDrawn, ok_drawn FLDrawn T pN pB pTu⟩
    have pW : Pm l.prog w K mg base CX0 1 "is_whole" ["thing"] (spWhole K) := ⟨fWhole, fdWhole, mWhole, FWhole.kp, bWhole, ok_whole FWhole T⟩
    have pBl : Pm l.prog w K mg base CX0 2 "is_below" ["thing", "many"] (spBelowX K) := ⟨fIsBelow, fdIsBelow, mIsBelow, FIsBelow.kp, bIsBelow, ok_belowX FIsBelow pW⟩
    have pPN : Pm l.prog w K mg base CX0 2 "is_points_number" ["thing"] (spPnX K) := ⟨fIsPointsNumber, fdIsPointsNumber, mIsPointsNumber, FIsPointsNumber.kp, bIsPointsNumber, ok_pnX FIsPointsNumber mMostPoints pW⟩
    have pU : Pm l.prog w K mg base CX0 3 "are_unlike_points" ["things", "points"] (spUnlikeM K) := ⟨fAreUnlikePoints, fdAreUnlikePoints, mAreUnlikePoints, FAreUnlikePoints.kp, bAreUnlikePoints, ok_unlikeM FAreUnlikePoints T pBl⟩
    have pO : Pm l.prog w K mg base CX0 1 "in_order" ["block"] spOrder := ⟨fInOrder, fdInOrder, mInOrder, FInOrder.kp, bInOrder, ok_order FInOrder T⟩
    have pL : Pm l.prog w K mg base (CXD l.prog w) 4 "layout_of" ["points", "blocks"] (spLayX K C) := ⟨fLayoutOf, fdLayoutOf, mLayoutOf, FLayoutOf.kp, bLayoutOf, ok_layX FLayoutOf T mMostBlocks D.R.O (ok_xinit D.R.F D.R.B D.mM) (bindsXI D.R.F) D.mC pPN pU pO⟩
    have pIn : Pm l.prog w K mg base CX0 1 "is_number" ["word", "most_figures"] spIsNumG := ⟨fIsNumber, fdIsNumber, mIsNumber, FIsNumber.kp, bIsNumber, ok_isnumG FIsNumber T mFigures⟩
    have pNr : Pm l.prog w K mg base (CXD l.prog w) 2 "number_read" ["word"] (spNumReadG _) := ⟨fNumberRead, fdNumberRead, mNumberRead, FNumberRead.kp, bNumberRead, ok_numreadG FNumberRead T mMostFigures D.R.eT D.m12 pIn⟩
    have pBr : Pm l.prog w K mg base (CXD l.prog w) 3 "block_read" ["word"] (spBlockReadG _) := ⟨fBlockRead, fdBlockRead, mBlockRead, FBlockRead.kp, bBlockRead, ok_blockreadG FBlockRead mEmptyBlock pNr⟩
    have pBs : Pm l.prog w K mg base (CXD l.prog w) 4 "blocks_read" ["tail"] (spBlocksReadG _) := ⟨fBlocksRead, fdBlocksRead, mBlocksRead, FBlocksRead.kp, bBlocksRead, ok_blocksreadG FBlocksRead D.R.eT D.m12 pBr⟩
    have pRd : Pm l.prog w K mg base (CXD l.prog w) 5 "read_layout" ["text"] (spReadG K _ C) := ⟨fReadLayout, fdReadLayout, mReadLayout, FReadLayout.kp, bReadLayout, ok_readG FReadLayout T D.R.eT D.m12 pNr pBs pL⟩
    have pTx : Pm l.prog w K mg base CX0 1 "_law_text" ["_law_points", "_law_blocks"] spText := ⟨fLText, fdLText, mLText, FLText.kp, bLText, ok_text FLText T⟩
    have pFi : Pm l.prog w K mg base CX0 1 "_law_figures" ["_law_word"] spFig := ⟨fLFigures, fdLFigures, mLFigures, FLFigures.kp, bLFigures, ok_fig FLFigures T⟩
    have pRe : Pm l.prog w K mg base CX0 2 "_law_reading" ["_law_text_here"] spReading := ⟨fLReading, fdLReading, mLReading, FLReading.kp, bLReading, ok_reading FLReading T pFi⟩
    have pTo : Pm l.prog w K mg base CX0 6 "_law_told" ["_law_text_here"] (spToldT K) := ⟨fLTold, fdLTold, mLTold, FLTold.kp, bLTold, ok_toldT FLTold T D pRd⟩
    have pSp : Pm l.prog w K mg base CX0 1 "_law_spoilt" ["_law_text_here", "_law_xs"] spSpoilt := ⟨fLSpoilt, fdLSpoilt, mLSpoilt, FLSpoilt.kp, bLSpoilt, ok_spoilt FLSpoilt T⟩
    exact ok_law FLaw T pC pDr pN pTx pSp pTo pRe
end E1
def PySem.W.Fast.tw10084066038840295153 : Nat := 0
def PySem.W.Fast.tw10939610162129937160 : Nat := 0
def PySem.W.Fast.tw11556876923715999119 : Nat := 0
def PySem.W.Fast.tw12084539368844105190 : Nat := 0
def PySem.W.Fast.tw12578648220322469066 : Nat := 0
def PySem.W.Fast.tw12688039313845192339 : Nat := 0
def PySem.W.Fast.tw13026907874114782230 : Nat := 0
def PySem.W.Fast.tw13052890180278453212 : Nat := 0
def PySem.W.Fast.tw1472751905486890438 : Nat := 0
def PySem.W.Fast.tw16235290038086074206 : Nat := 0
def PySem.W.Fast.tw16517730431596040379 : Nat := 0
def PySem.W.Fast.tw17549756202303192842 : Nat := 0
def PySem.W.Fast.tw1800703388175657998 : Nat := 0
def PySem.W.Fast.tw18441868150887909017 : Nat := 0
def PySem.W.Fast.tw2259654006459171092 : Nat := 0
def PySem.W.Fast.tw2354060782418363584 : Nat := 0
def PySem.W.Fast.tw2880992939709068775 : Nat := 0
def PySem.W.Fast.tw2934527166466724851 : Nat := 0
def PySem.W.Fast.tw3640669843269303167 : Nat := 0
def PySem.W.Fast.tw4166123949437736168 : Nat := 0
def PySem.W.Fast.tw4360324712125631082 : Nat := 0
def PySem.W.Fast.tw4509731873173690917 : Nat := 0
def PySem.W.Fast.tw5005867801552588557 : Nat := 0
def PySem.W.Fast.tw5484272589970985323 : Nat := 0
def PySem.W.Fast.tw5739628166984690544 : Nat := 0
def PySem.W.Fast.tw5958350129630455120 : Nat := 0
def PySem.W.Fast.tw6209651425501988191 : Nat := 0
def PySem.W.Fast.tw6210186387536695974 : Nat := 0
def PySem.W.Fast.tw6607416470927170949 : Nat := 0
def PySem.W.Fast.tw7232065715354648424 : Nat := 0
def PySem.W.Fast.tw812063332807440863 : Nat := 0
def PySem.W.Fast.tw9257611370716503656 : Nat := 0
def PySem.W.Fast.tw9293254963402064115 : Nat := 0
def PySem.W.Fast.tw9462017319755881715 : Nat := 0
def PySem.W.Fast.tw9656683859602755146 : Nat := 0
open PySem PySem.W PyProof.Rows
set_option maxRecDepth 100000 in
set_option maxHeartbeats 0 in
theorem PySem.Challenge.cw_evenmeet_k13_texts_refused_holds : PySem.Challenge.rw_evenmeet_k13_texts_refused.Holds := by
  w_on; o_law; k_head; (case hw => w_witness2)
  k_fill
  refine E1.walk (l := PySem.Challenge.rw_evenmeet_k13_texts_refused) (k := 12) ⟨rfl, by decide, by decide, rfl⟩ rfl rfl (fun w h Y => PySem.W.kIn_of Y) ?F
  case F =>
    intro w mg fa h KX G hmg
    have N : PySem.W.nsIn (L2.KOf KX) mainGlobals "isinstance" = some none ∧ PySem.W.nsIn (L2.KOf KX) mainGlobals "int" = some none ∧ PySem.W.nsIn (L2.KOf KX) mainGlobals "bool" = some none ∧ PySem.W.nsIn (L2.KOf KX) mainGlobals "abs" = some none ∧ PySem.W.nsIn (L2.KOf KX) mainGlobals "len" = some none ∧ PySem.W.nsIn (L2.KOf KX) mainGlobals "range" = some none ∧ PySem.W.nsIn (L2.KOf KX) mainGlobals "tuple" = some none ∧ PySem.W.nsIn (L2.KOf KX) mainGlobals "list" = some none ∧ PySem.W.nsIn (L2.KOf KX) mainGlobals "sorted" = some none ∧ PySem.W.nsIn (L2.KOf KX) mainGlobals "all" = some none ∧ PySem.W.nsIn (L2.KOf KX) mainGlobals "set" = some none ∧ PySem.W.nsIn (L2.KOf KX) mainGlobals "zip" = some none ∧ PySem.W.nsIn (L2.KOf KX) mainGlobals "enumerate" = some none ∧ PySem.W.nsIn (L2.KOf KX) mainGlobals "any" = some none ∧ PySem.W.nsIn (L2.KOf KX) mainGlobals "max" = some none ∧ PySem.W.nsIn (L2.KOf KX) mainGlobals "min" = some none ∧ PySem.W.nsIn (L2.KOf KX) mainGlobals "str" = some none ∧ PySem.W.nsIn (L2.KOf KX) mainGlobals "sum" = some none := by
      dsimp only [L2.KOf]
      refine' ⟨?z0, ?z1, ?z2, ?z3, ?z4, ?z5, ?z6, ?z7, ?z8, ?z9, ?z10, ?z11, ?z12, ?z13, ?z14, ?z15, ?z16, ?z17⟩
      (case z0 => k_is)
      (case z1 => k_is)
      (case z2 => k_is)
      (case z3 => k_is)
      (case z4 => k_is)
      (case z5 => k_is)
      (case z6 => k_is)
      (case z7 => k_is)
      (case z8 => k_is)
      (case z9 => k_is)
      (case z10 => k_is)
      (case z11 => k_is)
      (case z12 => k_is)
      (case z13 => k_is)
      (case z14 => k_is)
      (case z15 => k_is)
      (case z16 => k_is)
      (case z17 => k_is)
    have CMostPoints : ∃ t, PySem.W.nsIn (L2.KOf KX) mainGlobals "MOST_POINTS" = some (some (.int 60 t)) := by
      dsimp only [L2.KOf]
      refine' E1.cint_mk ?a
      (case a => k_is)
    have CMostBlocks : ∃ t, PySem.W.nsIn (L2.KOf KX) mainGlobals "MOST_BLOCKS" = some (some (.int 200 t)) := by
      dsimp only [L2.KOf]
      refine' E1.cint_mk ?a
      (case a => k_is)
    have CMostFigures : ∃ t, PySem.W.nsIn (L2.KOf KX) mainGlobals "MOST_FIGURES" = some (some (.int 4 t)) := by
      dsimp only [L2.KOf]
      refine' E1.cint_mk ?a
      (case a => k_is)
    have CFigures : ∃ t, PySem.W.nsIn (L2.KOf KX) mainGlobals "FIGURES" = some (some (.str "0123456789" t)) := by
      dsimp only [L2.KOf]
      refine' E1.cstr_mk ?a
      (case a => k_is)
    have CEmptyBlock : ∃ t, PySem.W.nsIn (L2.KOf KX) mainGlobals "EMPTY_BLOCK" = some (some (.str "-" t)) := by
      dsimp only [L2.KOf]
      refine' E1.cstr_mk ?a
      (case a => k_is)
    have AWhole : E1.At (L2.KOf KX) "is_whole" E1.sWhole := by
      dsimp only [L2.KOf]
      refine' E1.fn_mk ?a ?l ?c ?k
      (case a => k_is); (case l => k_is); (case c => k_is); (case k => k_is)
    have AIsBelow : E1.At (L2.KOf KX) "is_below" E1.sIsBelow := by
      dsimp only [L2.KOf]
      refine' E1.fn_mk ?a ?l ?c ?k
      (case a => k_is); (case l => k_is); (case c => k_is); (case k => k_is)
    have ALayoutOf : E1.At (L2.KOf KX) "layout_of" E1.sLayoutOf := by
      dsimp only [L2.KOf]
      refine' E1.fn_mk ?a ?l ?c ?k
      (case a => k_is); (case l => k_is); (case c => k_is); (case k => k_is)
    have AIsPointsNumber : E1.At (L2.KOf KX) "is_points_number" E1.sIsPointsNumber := by
      dsimp only [L2.KOf]
      refine' E1.fn_mk ?a ?l ?c ?k
      (case a => k_is); (case l => k_is); (case c => k_is); (case k => k_is)
    have AInOrder : E1.At (L2.KOf KX) "in_order" E1.sInOrder := by
      dsimp only [L2.KOf]
      refine' E1.fn_mk ?a ?l ?c ?k
      (case a => k_is); (case l => k_is); (case c => k_is); (case k => k_is)
    have AAreUnlikePoints : E1.At (L2.KOf KX) "are_unlike_points" E1.sAreUnlikePoints := by
      dsimp only [L2.KOf]
      refine' E1.fn_mk ?a ?l ?c ?k
      (case a => k_is); (case l => k_is); (case c => k_is); (case k => k_is)
    have AReadLayout : E1.At (L2.KOf KX) "read_layout" E1.sReadLayout := by
      dsimp only [L2.KOf]
      refine' E1.fn_mk ?a ?l ?c ?k
      (case a => k_is); (case l => k_is); (case c => k_is); (case k => k_is)
    have ABlocksRead : E1.At (L2.KOf KX) "blocks_read" E1.sBlocksRead := by
      dsimp only [L2.KOf]
      refine' E1.fn_mk ?a ?l ?c ?k
      (case a => k_is); (case l => k_is); (case c => k_is); (case k => k_is)
    have ABlockRead : E1.At (L2.KOf KX) "block_read" E1.sBlockRead := by
      dsimp only [L2.KOf]
      refine' E1.fn_mk ?a ?l ?c ?k
      (case a => k_is); (case l => k_is); (case c => k_is); (case k => k_is)
    have ANumberRead : E1.At (L2.KOf KX) "number_read" E1.sNumberRead := by
      dsimp only [L2.KOf]
      refine' E1.fn_mk ?a ?l ?c ?k
      (case a => k_is); (case l => k_is); (case c => k_is); (case k => k_is)
    have AIsNumber : E1.At (L2.KOf KX) "is_number" E1.sIsNumber := by
      dsimp only [L2.KOf]
      refine' E1.fn_mk ?a ?l ?c ?k
      (case a => k_is); (case l => k_is); (case c => k_is); (case k => k_is)
    have ACell : E1.At (L2.KOf KX) "_law_cell" E1.sCell := by
      dsimp only [L2.KOf]
      refine' E1.fn_mk ?a ?l ?c ?k
      (case a => k_is); (case l => k_is); (case c => k_is); (case k => k_is)
    have ALNumbers : E1.At (L2.KOf KX) "_law_numbers" E1.sLNumbers := by
      dsimp only [L2.KOf]
      refine' E1.fn_mk ?a ?l ?c ?k
      (case a => k_is); (case l => k_is); (case c => k_is); (case k => k_is)
    have ALBits : E1.At (L2.KOf KX) "_law_bits" E1.sLBits := by
      dsimp only [L2.KOf]
      refine' E1.fn_mk ?a ?l ?c ?k
      (case a => k_is); (case l => k_is); (case c => k_is); (case k => k_is)
    have ALTurned : E1.At (L2.KOf KX) "_law_turned" E1.sLTurned := by
      dsimp only [L2.KOf]
      refine' E1.fn_mk ?a ?l ?c ?k
      (case a => k_is); (case l => k_is); (case c => k_is); (case k => k_is)
    have ALDrawn : E1.At (L2.KOf KX) "_law_drawn" E1.sLDrawn := by
      dsimp only [L2.KOf]
      refine' E1.fn_mk ?a ?l ?c ?k
      (case a => k_is); (case l => k_is); (case c => k_is); (case k => k_is)
    have ALText : E1.At (L2.KOf KX) "_law_text" E1.sLText := by
      dsimp only [L2.KOf]
      refine' E1.fn_mk ?a ?l ?c ?k
      (case a => k_is); (case l => k_is); (case c => k_is); (case k => k_is)
    have ALFigures : E1.At (L2.KOf KX) "_law_figures" E1.sLFigures := by
      dsimp only [L2.KOf]
      refine' E1.fn_mk ?a ?l ?c ?k
      (case a => k_is); (case l => k_is); (case c => k_is); (case k => k_is)
    have ALReading : E1.At (L2.KOf KX) "_law_reading" E1.sLReading := by
      dsimp only [L2.KOf]
      refine' E1.fn_mk ?a ?l ?c ?k
      (case a => k_is); (case l => k_is); (case c => k_is); (case k => k_is)
    have ALTold : E1.At (L2.KOf KX) "_law_told" E1.sLTold := by
      dsimp only [L2.KOf]
      refine' E1.fn_mk ?a ?l ?c ?k
      (case a => k_is); (case l => k_is); (case c => k_is); (case k => k_is)
    have ALSpoilt : E1.At (L2.KOf KX) "_law_spoilt" E1.sLSpoilt := by
      dsimp only [L2.KOf]
      refine' E1.fn_mk ?a ?l ?c ?k
      (case a => k_is); (case l => k_is); (case c => k_is); (case k => k_is)
    have ALaw : E1.At (L2.KOf KX) "law" E1.sLaw := by
      dsimp only [L2.KOf]
      refine' E1.fn_mk ?a ?l ?c ?k
      (case a => k_is); (case l => k_is); (case c => k_is); (case k => k_is)
    have R : ∃ (M C fI o1 o2 o3 o4 o5 o6 o7 o8 o9 o10 o11 o12 o13 : Addr) (fd : FuncData), E1.RefsX (L2.KOf KX) M C fI o1 o2 o3 o4 o5 o6 o7 o8 o9 o10 o11 o12 o13 fd := by
      dsimp only [L2.KOf]
      refine' E1.refsX_mk ?nM ?nC ?nV ?n1 ?n2 ?n3 ?n4 ?n5 ?n6 ?n7 ?n8 ?n9 ?n10 ?n11 ?n12 ?n13 ?lk ?tl ?nk ?ik ?fn ?cls ?ok ?obj ?bex ?dct ?sa ?fdl ?kp ?sp ?rdM ?fcM ?lf ?lT ?cf ?exM ?gaM ?noM ?clM ?obM ?beM ?gaC ?noC ?clC ?obC ?beC ?gt ?tk ?sub ?kC ?kV ?q1 ?q2 ?q3 ?q4 ?q5 ?q6 ?q7 ?q8 ?q9 ?q10 ?q11 ?q12 ?q13 ?exT ?gaT ?noT ?clT ?obT ?beT ?subT ?tT ?tV ?tC ?t1 ?t2 ?t3 ?t4 ?t5 ?t6 ?t7 ?t8 ?t9 ?t10 ?t11 ?t13
      (case nM => k_is)
      (case nC => k_is)
      (case nV => k_is)
      (case n1 => k_is)
      (case n2 => k_is)
      (case n3 => k_is)
      (case n4 => k_is)
      (case n5 => k_is)
      (case n6 => k_is)
      (case n7 => k_is)
      (case n8 => k_is)
      (case n9 => k_is)
      (case n10 => k_is)
      (case n11 => k_is)
      (case n12 => k_is)
      (case n13 => k_is)
      (case lk => k_is)
      (case tl => kernel_rfl)
      (case nk => kernel_rfl)
      (case ik => k_is)
      (case fn => k_is)
      (case cls => k_is)
      (case ok => kernel_rfl)
      (case obj => kernel_rfl)
      (case bex => kernel_rfl)
      (case dct => kernel_rfl)
      (case sa => k_is)
      (case fdl => k_is)
      (case kp => k_is)
      (case sp => k_is)
      (case rdM => k_is)
      (case fcM => k_is)
      (case lf => k_is)
      (case lT => k_is)
      (case cf => k_is)
      (case exM => k_exc)
      (case gaM => k_is)
      (case noM => k_is)
      (case clM => k_is)
      (case obM => k_is)
      (case beM => k_is)
      (case gaC => k_is)
      (case noC => k_is)
      (case clC => k_is)
      (case obC => k_is)
      (case beC => k_is)
      (case gt => k_is)
      (case tk => k_is)
      (case sub => k_is)
      (case kC => kit_is)
      (case kV => kit_is)
      (case q1 => kit_is)
      (case q2 => kit_is)
      (case q3 => kit_is)
      (case q4 => kit_is)
      (case q5 => kit_is)
      (case q6 => kit_is)
      (case q7 => kit_is)
      (case q8 => kit_is)
      (case q9 => kit_is)
      (case q10 => kit_is)
      (case q11 => kit_is)
      (case q12 => kit_is)
      (case q13 => kit_is)
      (case exT => k_exc)
      (case gaT => k_is)
      (case noT => k_is)
      (case clT => k_is)
      (case obT => k_is)
      (case beT => k_is)
      (case subT => k_is)
      (case tT => kit_is)
      (case tV => kit_is)
      (case tC => kit_is)
      (case t1 => kit_is)
      (case t2 => kit_is)
      (case t3 => kit_is)
      (case t4 => kit_is)
      (case t5 => kit_is)
      (case t6 => kit_is)
      (case t7 => kit_is)
      (case t8 => kit_is)
      (case t9 => kit_is)
      (case t10 => kit_is)
      (case t11 => kit_is)
      (case t13 => kit_is)
    exact E1.all_mk KX G hmg N CMostPoints CMostBlocks CMostFigures CFigures CEmptyBlock R AWhole AIsBelow ALayoutOf AIsPointsNumber AInOrder AAreUnlikePoints AReadLayout ABlocksRead ABlockRead ANumberRead AIsNumber ACell ALNumbers ALBits ALTurned ALDrawn ALText ALFigures ALReading ALTold ALSpoilt ALaw


