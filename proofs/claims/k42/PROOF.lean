import PyProof.Rows.All
import Wide.All
import OpenK.AllK
import Wide.FinOn
import Lean
import PyProof.EqAt
import PyProof.EqKinds
import PyProof.TupleCall
import PySem.Challenge.RW_evenmeet_k42_whole_grown_arcs
set_option Elab.async false
set_option linter.all false
set_option maxRecDepth 100000
/-! THE HAND LAYER, for ints, bools, texts, own classes, LISTS and tuples (index, slices, in, append, pop ..), calls, loops. Paste it whole ahead of your own text; what your proof does not reach may be deleted. -/
namespace L2
open PySem PySem.Spec PyProof.Rows

/-- a key: an int or a str -/
abbrev Key := Sum Int Str
def keyIs : Key → Value → Bool
  | .inl k, v => Value.isInt k v
  | .inr x, v => Value.isStrOf x v
def keyH (w : World) : Key → Int
  | .inl k => hashInt k
  | .inr x => hashStr w x
theorem keyIs_shape : ∀ {k : Key} {v : Value}, keyIs k v = true → (∃ i t, k = Sum.inl i ∧ v = Value.int i t) ∨ (∃ x t, k = Sum.inr x ∧ v = Value.str x t)
  | .inl i, v, h => by
    obtain ⟨t, e⟩ := Value.isInt_shape (k := i) (v := v) h
    exact .inl ⟨i, t, rfl, e⟩
  | .inr x, v, h => by
    obtain ⟨t, e⟩ := Value.isStrOf_shape (x := x) (v := v) h
    exact .inr ⟨x, t, rfl, e⟩
theorem key_ll (a b : Int) : decide ((Sum.inl a : Key) = Sum.inl b) = (a == b) := by
  by_cases e : a = b
  · subst e; simp
  · have h : ¬ (Sum.inl a : Key) = Sum.inl b := fun q => e (Sum.inl.inj q)
    rw [decide_eq_false h]
    exact (beq_eq_false_iff_ne.mpr e).symm
theorem key_rr (a b : Str) : decide ((Sum.inr a : Key) = Sum.inr b) = decide (a = b) := by
  by_cases e : a = b
  · subst e; simp
  · have h : ¬ (Sum.inr a : Key) = Sum.inr b := fun q => e (Sum.inr.inj q)
    rw [decide_eq_false h, decide_eq_false e]
theorem key_lr (a : Int) (b : Str) : decide ((Sum.inl a : Key) = Sum.inr b) = false := decide_eq_false (fun q => nomatch q)
theorem key_rl (a : Str) (b : Int) : decide ((Sum.inr a : Key) = Sum.inl b) = false := decide_eq_false (fun q => nomatch q)

def mixKind (prog : Program) (w : World) : PySem.KeyKind prog w Key where
  is := keyIs
  hash := keyH w
  inj := fun v a b ha hb => by
    rcases keyIs_shape ha with ⟨i, t, rfl, rfl⟩ | ⟨x, t, rfl, rfl⟩
    · rcases keyIs_shape hb with ⟨j, u, rfl, e⟩ | ⟨y, u, rfl, e⟩
      · injection e with e1 _; rw [e1]
      · exact nomatch e
    · rcases keyIs_shape hb with ⟨j, u, rfl, e⟩ | ⟨y, u, rfl, e⟩
      · exact nomatch e
      · injection e with e1 _; rw [e1]
  byValue := fun k v h => by
    rcases keyIs_shape h with ⟨i, t, rfl, rfl⟩ | ⟨x, t, rfl, rfl⟩ <;> rfl
  pyHash := fun hv h => by
    rcases keyIs_shape hv with ⟨i, t, rfl, rfl⟩ | ⟨x, t, rfl, rfl⟩
    · exact wpAny_pyHash_int h
    · exact wpAny_pyHash_str h
  eqBool := fun hu hv h => by
    rcases keyIs_shape hu with ⟨i, t, rfl, rfl⟩ | ⟨x, t, rfl, rfl⟩
    · rcases keyIs_shape hv with ⟨j, u, rfl, rfl⟩ | ⟨y, u, rfl, rfl⟩
      · rw [key_ll] at h; exact wpAny_eqBool_int h
      · rw [key_lr] at h; exact SeqAt.EqAt.int_str i t y u _ _ _ _ h
    · rcases keyIs_shape hv with ⟨j, u, rfl, rfl⟩ | ⟨y, u, rfl, rfl⟩
      · rw [key_rl] at h; exact SeqAt.EqAt.str_int x t j u _ _ _ _ h
      · rw [key_rr] at h; exact wpAny_eqBool_str h
  «strs» := fun k x t v h => by
    rcases keyIs_shape h with ⟨i, u, rfl, e⟩ | ⟨y, u, rfl, e⟩
    · exact nomatch e
    · injection e with e1 _
      subst e1
      cases v <;> rfl

end L2

namespace L2
open PySem PySem.Spec PyProof.Rows

/-- a value, without the heap -/
inductive V where
  | non | bl (b : Bool) | int (i : Int) | str (x : Str) | byt (b : Array UInt8) | flt (b : UInt64) | ref (a : Addr) | ty (n : String)
  deriving DecidableEq

def RelV : V → Value → Prop
  | .non, u => u = Value.none
  | .bl b, u => u = Value.bool b
  | .int i, u => ∃ t, u = Value.int i t
  | .str x, u => ∃ t, u = Value.str x t
  | .byt b, u => ∃ t, u = Value.bytes b t
  | .flt b, u => ∃ t, u = Value.float b t
  | .ref a, u => u = Value.ref a
  | .ty n, u => u = Value.type n

abbrev Vals : List V → List Value → Prop := Paired RelV
theorem Vals.length {xs : List V} {us : List Value} (r : Vals xs us) : xs.length = us.length := Paired.length r
theorem Vals.get : ∀ {xs : List V} {us : List Value} {i : Nat} {x : V}, Vals xs us → xs[i]? = some x → ∃ u, us[i]? = some u ∧ RelV x u
  | _, _, _, _, .nil, e => by simp at e
  | _, _, 0, _, .cons r _, e => by simp at e; subst e; exact ⟨_, rfl, r⟩
  | _, _, i + 1, x, .cons _ t, e => by
    obtain ⟨u, h1, h2⟩ := Vals.get (i := i) (x := x) t (by simpa using e)
    exact ⟨u, by simpa using h1, h2⟩
theorem Vals.set {x : V} {u : Value} (r : RelV x u) : ∀ {xs : List V} {us : List Value} (i : Nat), Vals xs us → Vals (xs.set i x) (us.set i u)
  | _, _, _, .nil => .nil
  | _, _, 0, .cons _ t => .cons r t
  | _, _, i + 1, .cons q t => .cons q (Vals.set r i t)
theorem Vals.append : ∀ {xs ys : List V} {us ws : List Value}, Vals xs us → Vals ys ws → Vals (xs ++ ys) (us ++ ws)
  | _, _, _, _, .nil, s => s
  | _, _, _, _, .cons r t, s => .cons r (Vals.append t s)
theorem Vals.take : ∀ {xs : List V} {us : List Value} (n : Nat), Vals xs us → Vals (xs.take n) (us.take n)
  | _, _, 0, _ => .nil
  | _, _, _ + 1, .nil => .nil
  | _, _, n + 1, .cons r t => .cons r (Vals.take n t)
theorem Vals.drop : ∀ {xs : List V} {us : List Value} (n : Nat), Vals xs us → Vals (xs.drop n) (us.drop n)
  | _, _, 0, r => r
  | _, _, _ + 1, .nil => .nil
  | _, _, n + 1, .cons _ t => Vals.drop n t
def RelO : Option V → Option Value → Prop
  | some v, some u => RelV v u
  | none, none => True
  | _, _ => False
def KV {κ : Type} : List (κ × V) → List (κ × Value) → Prop := Paired fun (p : κ × V) (q : κ × Value) => p.1 = q.1 ∧ RelV p.2 q.2

/-- a key of a dict (00_mix): an int or a text -/
def kV : Key → V
  | .inl i => .int i
  | .inr x => .str x

/-- what stands at a tracked address -/
inductive HO where
  /-- a list -/
  | lst (xs : List V)
  /-- a tuple (never changes) -/
  | tup (xs : List V)
  /-- a dict whose keys are ints and texts; one whose keys are tuples of ints and texts (the empty one is both) -/
  | dK (kvs : List (Key × V)) | dT (kvs : List (List Key × V))
  /-- a set of ints: its members, its size -/
  | set (S : Int → Bool) (n : Nat)
  /-- an instance of the class at C, its dict at dx, its attributes -/
  | ins (C dx : Addr) (fs : List (Str × V))
  /-- the dict of the instance at x -/
  | own (x : Addr)
  /-- the dict of an exception -/
  | xd (fs : List (Str × V))
  /-- a bound method, f of x -/
  | met (f x : Addr)
  /-- a range object lo, lo + 1, .. below hi -/
  | rng (lo hi : Int)
  /-- a thing that is known to the object (the script; a dict while a loop walks it): read, never written while it is so -/
  | frz (o : Obj) (u : HO)
  /-- a code object's table -/
  | tbl (ps : Array Value)
  /-- any other thing, by what is true of its one object (a def of one's own: SetO a S n := HO.ext fun h => ..) -/
  | ext (φ : Heap → Prop)

abbrev Hp := Addr → Option HO
def upd (H : Hp) (a : Addr) (o : HO) : Hp := fun b => if b = a then some o else H b
theorem upd_same {H : Hp} {a : Addr} {o : HO} : upd H a o a = some o := by unfold upd; rw [if_pos rfl]
theorem upd_ne {H : Hp} {a b : Addr} {o : HO} (h : b ≠ a) : upd H a o b = H b := by unfold upd; rw [if_neg h]
theorem ne_of_none {H : Hp} {a b : Addr} {o : HO} (h : H a = some o) (h' : H b = none) : a ≠ b := by
  intro e; subst e; rw [h] at h'; cases h'

section
variable (P : Program) (w : World)
def ObjOk (H : Hp) (h : Heap) (a : Addr) : HO → Prop
  | .lst xs => xs.length ≤ sizeLine ∧ ∃ (its : List Value) (n : Nat), Vals xs its ∧ h.get? a = some { cls := .type "list", data := .seq its.toArray n }
  | .tup xs => xs.length ≤ sizeLine ∧ ∃ its : List Value, Vals xs its ∧ IsTup h a its.toArray
  | .dK kvs => kvs.length ≤ sizeLine ∧ (a == sysModules) = false ∧ ∃ vs, KV kvs vs ∧ h.DictOf (mixKind P w) a vs
  | .dT kvs => kvs.length ≤ sizeLine ∧ (a == sysModules) = false ∧ ∃ xs : List (List Key × Addr × Value),
      Paired (fun (p : List Key × V) (q : List Key × Addr × Value) => p.1 = q.1 ∧ H q.2.1 = some (.tup (p.1.map kV)) ∧ RelV p.2 q.2.2) kvs xs ∧
      ∃ o es ep, h.get? a = some o ∧ o.ExactDict ∧ o.data = .dict es ep ∧ es.toList = xs.map (entryOfKey (tupleKind (mixKind P w))) ∧ (xs.map (·.1)).Nodup
  | .set S n => h.SetOf (intKind P w) a S n
  | .ins C dx fs => H dx = some (.own a) ∧ fs.length ≤ 1000 ∧ dx ≠ a ∧ h.get? a = some (PySem.W.instObj C dx) ∧
      ∃ mA, h.Ns1 dx mA ∧ (∀ f, RelO (fs.lookup f) (mA f)) ∧ PySem.Within mA (fs.map (·.1))
  | .own _ => ∃ o, h.get? a = some o
  | .xd fs => ∃ mA, h.Ns1 a mA ∧ ∀ f, RelO (fs.lookup f) (mA f)
  | .rng lo hi => ∃ t u v, h.get? a = some { cls := .type "range", data := .fields #[.int lo t, .int hi u, .int 1 v] }
  | .frz o u => h.get? a = some o ∧ ObjOk H h a u
  | .tbl ps => h.get? a = some { cls := .none, data := .fields ps }
  | .met f x => h.get? a = some (PySem.W.methodObj (.ref f) (.ref x))
  | .ext φ => φ h ∧ (∃ o, h.get? a = some o) ∧ ∀ h1 h2 : Heap, φ h1 → (∀ o, h1.get? a = some o → h2.get? a = some o) → φ h2
/-- the abstract heap is held -/
def HOk (H : Hp) (h : Heap) : Prop := ∀ a o, H a = some o → ObjOk P w H h a o
end

section
variable {P : Program} {w : World} {H H' : Hp} {h h' : Heap} {a : Addr} {o : HO}
theorem ObjOk.lt (x : ObjOk P w H h a o) : a < h.objs.size := by
  cases o with
  | lst xs => obtain ⟨_, _, _, _, e⟩ := x; exact Heap.lt_size e
  | tup xs => obtain ⟨_, _, _, p⟩ := x; exact p.lt
  | dK kvs => obtain ⟨_, _, _, _, o, _, _, e, _⟩ := x; exact Heap.lt_size e
  | dT kvs => obtain ⟨_, _, _, _, o, _, _, e, _⟩ := x; exact Heap.lt_size e
  | set S n => obtain ⟨o, _, _, _, e, _⟩ := x; exact Heap.lt_size e
  | ins C dx fs => obtain ⟨_, _, _, e, _⟩ := x; exact Heap.lt_size e
  | own y => obtain ⟨_, e⟩ := x; exact Heap.lt_size e
  | xd fs => obtain ⟨_, ⟨_, _, _, e, _⟩, _⟩ := x; exact Heap.lt_size e
  | rng lo hi => obtain ⟨_, _, _, e⟩ := x; exact Heap.lt_size e
  | frz ob u => obtain ⟨e, _⟩ := x; exact Heap.lt_size e
  | tbl ps => exact Heap.lt_size (show h.get? a = some _ from x)
  | met f y => exact Heap.lt_size (show h.get? a = some _ from x)
  | ext φ => obtain ⟨_, ⟨_, e⟩, _⟩ := x; exact Heap.lt_size e
theorem Paired.mapP {α β : Type} {F G : α → β → Prop} : ∀ {l₁ : List α} {l₂ : List β}, Paired F l₁ l₂ → (∀ a b, F a b → G a b) → Paired G l₁ l₂
  | _, _, .nil, _ => .nil
  | _, _, .cons r t, f => .cons (f _ _ r) (Paired.mapP t f)
/-- what an object's description leans on: its own object, its own dict, the tuples -/
theorem ObjOk.stay (x : ObjOk P w H h a o) (k : ∀ b u, (b = a ∨ H b = some (.own a)) → h.get? b = some u → h'.get? b = some u)
    (ho : ∀ b, H b = some (.own a) → H' b = some (.own a)) (ht : ∀ b xs, H b = some (.tup xs) → H' b = some (.tup xs)) : ObjOk P w H' h' a o := by
  induction o with
  | lst xs => obtain ⟨z, its, n, r, e⟩ := x; exact ⟨z, its, n, r, k _ _ (.inl rfl) e⟩
  | tup xs => obtain ⟨z, its, r, ob, e, c⟩ := x; exact ⟨z, its, r, ob, k _ _ (.inl rfl) e, c⟩
  | dK kvs => obtain ⟨z, y, vs, r, ob, es, ep, e, c⟩ := x; exact ⟨z, y, vs, r, ob, es, ep, k _ _ (.inl rfl) e, c⟩
  | dT kvs =>
    obtain ⟨z, y, xs, r, ob, es, ep, e, c⟩ := x
    exact ⟨z, y, xs, Paired.mapP r fun p q z => ⟨z.1, ht _ _ z.2.1, z.2.2⟩, ob, es, ep, k _ _ (.inl rfl) e, c⟩
  | set S n => obtain ⟨ob, es, ep, t, e, c⟩ := x; exact ⟨ob, es, ep, t, k _ _ (.inl rfl) e, c⟩
  | ins C dx fs =>
    obtain ⟨d, z, ne, e, mA, ⟨od, es, ep, e2, c⟩, r⟩ := x
    exact ⟨ho _ d, z, ne, k _ _ (.inl rfl) e, mA, ⟨od, es, ep, k _ _ (.inr d) e2, c⟩, r⟩
  | own y => obtain ⟨ob, e⟩ := x; exact ⟨ob, k _ _ (.inl rfl) e⟩
  | xd fs => obtain ⟨mA, ⟨od, es, ep, e, c⟩, r⟩ := x; exact ⟨mA, ⟨od, es, ep, k _ _ (.inl rfl) e, c⟩, r⟩
  | rng lo hi => obtain ⟨t, u, v, e⟩ := x; exact ⟨t, u, v, k _ _ (.inl rfl) e⟩
  | frz ob u ih => obtain ⟨e, q⟩ := x; exact ⟨k _ _ (.inl rfl) e, ih q⟩
  | tbl ps =>
    have e : h.get? a = some { cls := .none, data := .fields ps } := x
    show h'.get? a = some { cls := .none, data := .fields ps }
    exact k a _ (.inl rfl) e
  | met f y =>
    have e : h.get? a = some (PySem.W.methodObj (.ref f) (.ref y)) := x
    show h'.get? a = some (PySem.W.methodObj (.ref f) (.ref y))
    exact k a _ (.inl rfl) e
  | ext φ => obtain ⟨p, ⟨o, e⟩, st⟩ := x; exact ⟨st _ _ p fun o q => k _ _ (.inl rfl) q, ⟨o, k _ _ (.inl rfl) e⟩, st⟩
theorem HOk.lt (x : HOk P w H h) (e : H a = some o) : a < h.objs.size := (x a o e).lt
theorem HOk.fresh (x : HOk P w H h) (e : h.objs.size ≤ a) : H a = none := by
  cases q : H a with
  | none => rfl
  | some u => exact absurd (Nat.lt_of_lt_of_le (x.lt q) e) (Nat.lt_irrefl _)
/-- every object of the heap is kept -/
theorem HOk.kept (x : HOk P w H h) (k : ∀ b u, h.get? b = some u → h'.get? b = some u) : HOk P w H h' := fun a o e =>
  (x a o e).stay (fun b u _ q => k b u q) (fun _ q => q) fun _ _ q => q
/-- a new object is laid and tracked -/
theorem HOk.laid (x : HOk P w H h) (k : ∀ b u, h.get? b = some u → h'.get? b = some u) (hp : h.objs.size ≤ a) (new : ObjOk P w (upd H a o) h' a o) : HOk P w (upd H a o) h' := fun b u e => by
  have hn := x.fresh hp
  by_cases hb : b = a
  · subst hb; rw [upd_same] at e; cases e; exact new
  · rw [upd_ne hb] at e
    exact (x b u e).stay (fun c v _ q => k c v q) (fun c q => by rw [upd_ne (ne_of_none q hn)]; exact q) fun c xs q => by rw [upd_ne (ne_of_none q hn)]; exact q
end

/-- what may be read as u: it is u, or a known u -/
def Rd (H : Hp) (a : Addr) (u : HO) : Prop := H a = some u ∨ ∃ o, H a = some (.frz o u)
theorem Rd.ok {P : Program} {w : World} {H : Hp} {h : Heap} {a : Addr} {u : HO} (r : Rd H a u) (x : HOk P w H h) : ObjOk P w H h a u := by
  rcases r with r | ⟨o, r⟩
  · exact x a u r
  · obtain ⟨_, q⟩ := x a _ r
    exact q
/-- what may be written -/
def Mut : Option HO → Prop
  | some (.lst _) => True
  | some (.dK _) => True
  | some (.dT _) => True
  | some (.set _ _) => True
  | some (.ins _ _ _) => True
  | some (.ext _) => True
  | _ => False
section
variable {P : Program} {w : World} {H : Hp} {h h' : Heap} {x e : Addr} {o' : HO}
/-- the object at e is changed: x itself, or the dict of the instance x -/
theorem HOk.write (ok : HOk P w H h) (mu : Mut (H x)) (he : e = x ∨ H e = some (.own x)) (k : ∀ b u, b ≠ e → h.get? b = some u → h'.get? b = some u) (heo : ∃ u, h'.get? e = some u)
    (new : ObjOk P w (upd H x o') h' x o') : HOk P w (upd H x o') h' := fun b u q => by
  have nown : ∀ c y, H c = some (.own y) → c ≠ x := fun c y r z => by subst z; rw [r] at mu; exact mu
  have ntup : ∀ c xs, H c = some (.tup xs) → c ≠ x := fun c xs r z => by subst z; rw [r] at mu; exact mu
  by_cases hb : b = x
  · subst hb; rw [upd_same] at q; cases q; exact new
  · rw [upd_ne hb] at q
    by_cases hbe : b = e
    · have q' : H b = some (.own x) := by
        rcases he with z | z
        · exact absurd (hbe.trans z) hb
        · rw [hbe]; exact z
      rw [q] at q'; cases q'
      obtain ⟨v, hv⟩ := heo
      exact ⟨v, by rw [hbe]; exact hv⟩
    · refine (ok b u q).stay (fun c v hc r => k c v ?_ r) (fun c r => by rw [upd_ne (nown c b r)]; exact r) fun c xs r => by rw [upd_ne (ntup c xs r)]; exact r
      rcases hc with rfl | hc
      · exact hbe
      · rintro rfl
        rcases he with z | z
        · exact nown c b hc z
        · rw [hc] at z; cases z; exact hb rfl
end

/-! ### kept unless tracked; of the frames at fs (the callers') the slots may change (an exception that passes writes there); of the records at ex (iterators) nothing is said -/
structure Un (fs ex : List Addr) (H H' : Hp) (h h' : Heap) : Prop where
  keep : ∀ b o, h.get? b = some o → H b = none → b ∉ fs → b ∉ ex → h'.get? b = some o
  slot : ∀ b o, h.get? b = some o → H b = none → b ∈ fs → b ∉ ex → ∃ sl, h'.get? b = some { o with slots := sl }
  free : ∀ b o, h.get? b = some o → H b = none → b ∉ ex → H' b = none
  there : ∀ b o, h.get? b = some o → b ∉ ex → ∃ o', h'.get? b = some o'
  tups : ∀ b xs, H b = some (.tup xs) → H' b = some (.tup xs)
  frzs : ∀ b o u, H b = some (.frz o u) → H' b = some (.frz o u)
  tbls : ∀ b ps, H b = some (.tbl ps) → ∃ more, H' b = some (.tbl (ps ++ more))
section
variable {fs fs' ex ex' : List Addr} {H H1 H2 : Hp} {h h1 h2 h' : Heap} {a x e : Addr} {o : HO}
theorem Un.any (u : Un fs ex H H1 h h1) {b : Addr} {ob : Obj} (q : h.get? b = some ob) (n : H b = none) (hx : b ∉ ex) : ∃ sl, h1.get? b = some { ob with slots := sl } := by
  by_cases hb : b ∈ fs
  · exact u.slot b ob q n hb hx
  · exact ⟨ob.slots, u.keep b ob q n hb hx⟩
theorem Un.kept (k : ∀ b u, h.get? b = some u → h'.get? b = some u) : Un fs ex H H h h' :=
  ⟨fun b ob q _ _ _ => k b ob q, fun b ob q _ _ _ => ⟨ob.slots, k b ob q⟩, fun _ _ _ n _ => n, fun b ob q _ => ⟨ob, k b ob q⟩, fun _ _ q => q, fun _ _ _ q => q, fun _ ps q => ⟨#[], by rw [q]; simp⟩⟩
theorem Un.refl : Un fs ex H H h h := Un.kept fun _ _ q => q
theorem Un.laid (k : ∀ b u, h.get? b = some u → h'.get? b = some u) (hp : h.objs.size ≤ a) (hn : H a = none) : Un fs ex H (upd H a o) h h' where
  keep := fun b u q _ _ _ => k b u q
  slot := fun b u q _ _ _ => ⟨u.slots, k b u q⟩
  free := fun b u q n _ => by rw [upd_ne (Nat.ne_of_lt (Nat.lt_of_lt_of_le (Heap.lt_size q) hp))]; exact n
  there := fun b u q _ => ⟨u, k b u q⟩
  tups := fun b xs q => by rw [upd_ne (ne_of_none q hn)]; exact q
  frzs := fun b u xs q => by rw [upd_ne (ne_of_none q hn)]; exact q
  tbls := fun b ps q => ⟨#[], by rw [upd_ne (ne_of_none q hn), q]; simp⟩
theorem Un.write (mu : Mut (H x)) (he : e = x ∨ H e = some (.own x)) (k : ∀ b u, b ≠ e → h.get? b = some u → h'.get? b = some u) (heo : ∃ u, h'.get? e = some u) : Un fs ex H (upd H x o) h h' := by
  have hx : ∀ b, H b = none → b ≠ x := fun b n z => by subst z; rw [n] at mu; exact mu
  have hb : ∀ b, H b = none → b ≠ e := fun b n z => by
    subst z
    rcases he with r | r
    · exact hx b n r
    · rw [n] at r; cases r
  have hm : ∀ b u, H b = some u → ¬ Mut (some u) → b ≠ x := fun b u q nm z => by subst z; rw [q] at mu; exact nm mu
  refine ⟨fun b u q n _ _ => k b u (hb b n) q, fun b u q n _ _ => ⟨u.slots, k b u (hb b n) q⟩, fun b u q n _ => by rw [upd_ne (hx b n)]; exact n, fun b u q _ => ?_,
    fun b xs q => by rw [upd_ne (hm b _ q fun z => z)]; exact q, fun b u xs q => by rw [upd_ne (hm b _ q fun z => z)]; exact q, fun b ps q => ⟨#[], by rw [upd_ne (hm b _ q fun z => z), q]; simp⟩⟩
  by_cases hbe : b = e
  · subst hbe; exact heo
  · exact ⟨u, k b u hbe q⟩
end

/-! ### the heap without what is tracked -/
def trk (h : Heap) (H : Hp) : List Addr := (List.range h.objs.size).filter fun a => (H a).isSome
def hidT (h : Heap) (H : Hp) : Heap := PySem.W.hideAll h (trk h H)
theorem hidT_size (h : Heap) (H : Hp) : (hidT h H).objs.size = h.objs.size := PySem.W.hideAll_size _ _
theorem hidT_get {h : Heap} {H : Hp} {b : Addr} {o : Obj} (e : h.get? b = some o) (n : H b = none) : (hidT h H).get? b = some o :=
  PySem.W.hideAll_get _ e fun hm => by
    have q : (H b).isSome = true := (List.mem_filter.mp hm).2
    rw [n] at q; simp at q
theorem of_hidT {h : Heap} {H : Hp} {b : Addr} {o : Obj} (e : (hidT h H).get? b = some o) : h.get? b = some o ∧ H b = none := by
  have e' : h.get? b = some o := PySem.W.of_hideAll (trk h H) e
  refine ⟨e', ?_⟩
  cases q : H b with
  | none => rfl
  | some x =>
    have hm : b ∈ trk h H := List.mem_filter.mpr ⟨List.mem_range.mpr (Heap.lt_size e'), by simp [q]⟩
    have z : (hidT h H).get? b = none := PySem.W.hideAll_none (trk h H) hm
    rw [z] at e; cases e

/-! ### OpenK's ledger, filled with every new object but one -/
end L2

namespace L2
open PySem PySem.Spec PyProof.Rows

/-- the module's facts, over the base: the heap at the law's entry without what is tracked there -/
structure Mod (K : PySem.W.Frag) (mg : Str → Option Value) (base : Heap) : Prop where
  kin : K.In base
  glob : base.Ns mainGlobals mg
  blt : ∃ mb, base.Ns builtinsNs mb ∧ ∀ x : Str, x ≠ "__name__" → mb x = bootBuiltins x
  nolimit : base.NoLimit

/-- the context: a def's body (or a comprehension's block) running. base: fixed through the whole law; s₀, H₀: the entry; outer: the frames whose slots others may change (a def's callers); stack: all frames that run;
   ex: iterators that were made ahead of the entry and are walked here (a comprehension's); fn: the names whose cells were made at the entry (a def: all; a comprehension's block: its own); calm: not within an except suite; pn: pins that every state bears; xe: what is wanted of an exception that leaves the code -/
structure Cx where
  prog : Program
  w : World
  K : PySem.W.Frag
  mg : Str → Option Value
  base : Heap
  A : Around
  N : List Str
  s₀ : Shared
  H₀ : Hp
  env : Env
  outer : List Env
  stack : List Env
  ex : List Addr
  fn : Str → Bool
  calm : Bool
  pn : List (Addr × Obj)
  xe : Value → Shared → Prop
/-- the callers' frames -/
def frs (l : List Env) : List Addr := l.filterMap (·.frame)
abbrev Cx.fs (X : Cx) : List Addr := frs X.outer

def Vis (sc : Scope) (x : Str) : Prop := sc.names.lookup x = some .local ∨ sc.names.lookup x = some .cell ∨ sc.names.lookup x = some .free
def Loc (sc : Scope) (x : Str) : Prop := sc.names.lookup x = some .local ∨ sc.names.lookup x = some .cell
def Look (env : Env) (h : Heap) (m : Str → Option Value) (x : Str) (u : Value) : Prop :=
  (env.kindOf x = some .local ∧ m x = some u) ∨ ((env.kindOf x = some .cell ∨ env.kindOf x = some .free) ∧ ∃ c, env.cells.lookup x = some c ∧ h.IsCell c (some u))

structure Cx.Ok (X : Cx) : Prop where
  mod : Mod X.K X.mg X.base
  kind : X.env.scope.kind = .function
  glob : X.env.globals = mainGlobals
  blt : X.env.builtins = builtinsNs
  above : X.s₀.heap.objs.size ≤ X.env.locals
  inj : ∀ x y c, X.env.cells.lookup x = some c → X.env.cells.lookup y = some c → x = y
  has : ∀ x, (X.env.kindOf x = some .cell ∨ X.env.kindOf x = some .free) → ∃ c, X.env.cells.lookup x = some c
  cab : ∀ x c, X.fn x = true → X.env.cells.lookup x = some c → X.s₀.heap.objs.size ≤ c
  hd : X.calm = true → X.A.handled = none
  frames : X.A.frames = some X.stack
  stk : X.stack = X.outer ∨ (X.stack = X.env :: X.outer ∧ X.env.frame = some X.env.locals)
  exf : ∀ b ∈ X.ex, b ≠ X.env.locals ∧ ∀ x c, X.env.cells.lookup x = some c → c ≠ b
  bs : ∀ b o, X.base.get? b = some o → X.s₀.heap.get? b = some o ∧ X.H₀ b = none
  bsz : X.base.objs.size ≤ X.s₀.heap.objs.size
  noex : ∀ b o, X.base.get? b = some o → b ∉ X.ex
  exfs : ∀ b ∈ X.ex, b ∉ X.fs
  funs : X.s₀.heap.FunFrames X.base X.outer
  frf : ∀ b ∈ X.fs, X.H₀ b = none

structure Inv (X : Cx) (pins : List (Addr × Obj)) (σ : List (Option V)) (H : Hp) (s : Shared) : Prop where
  ok : X.Ok
  os : s.os = X.s₀.os
  bare : AllBare s.gens
  base : Un X.fs X.ex X.H₀ H X.s₀.heap s.heap
  loc : ∃ m, s.heap.Ns X.env.locals m ∧ ∀ (i : Nat) (x : Str) (v : V), X.N[i]? = some x → σ[i]? = some (some v) → Vis X.env.scope x → ∃ u, RelV v u ∧ Look X.env s.heap m x u
  cell : ∀ x c, X.env.cells.lookup x = some c → ∃ v, s.heap.IsCell c v
  free : H X.env.locals = none
  freeC : ∀ x c, X.env.cells.lookup x = some c → H c = none
  pin : ∀ p ∈ X.pn ++ pins, s.heap.get? p.1 = some p.2 ∧ H p.1 = none ∧ p.1 ≠ X.env.locals ∧ p.1 ∉ X.fs ∧ ∀ v, p.2.data ≠ .cell v
  hok : HOk X.prog X.w H s.heap
  len : σ.length = X.N.length

section
variable {X : Cx} {pins : List (Addr × Obj)} {σ : List (Option V)} {H H' : Hp} {s : Shared} {h' : Heap}

theorem Cx.Ok.nofr (ok : X.Ok) {b : Addr} {o : Obj} (e : X.base.get? b = some o) : b ∉ X.fs := fun hb => by
  have := (ok.funs.mem hb).1
  rw [e] at this; cases this
theorem Inv.bs (I : Inv X pins σ H s) : ∀ b o, X.base.get? b = some o → s.heap.get? b = some o ∧ H b = none := fun b o e =>
  ⟨I.base.keep b o (I.ok.bs b o e).1 (I.ok.bs b o e).2 (I.ok.nofr e) (I.ok.noex b o e), I.base.free b o (I.ok.bs b o e).1 (I.ok.bs b o e).2 (I.ok.noex b o e)⟩
theorem Inv.bk (I : Inv X pins σ H s) : ∀ b o, X.base.get? b = some o → s.heap.get? b = some o := fun b o e => (I.bs b o e).1
theorem Inv.mod (I : Inv X pins σ H s) : Mod X.K X.mg X.base := I.ok.mod
theorem Inv.kIn (I : Inv X pins σ H s) : X.K.In s.heap := I.ok.mod.kin.keeps I.bk
theorem Inv.lt (I : Inv X pins σ H s) : X.env.locals < s.heap.objs.size := let ⟨_, hn, _⟩ := I.loc; hn.lt
theorem Inv.sz (I : Inv X pins σ H s) : X.s₀.heap.objs.size ≤ s.heap.objs.size := Nat.le_trans I.ok.above (Nat.le_of_lt I.lt)
theorem Inv.nofs (I : Inv X pins σ H s) {a : Addr} (h : s.heap.objs.size ≤ a) : a ∉ X.fs := fun hb => by
  obtain ⟨_, o, ho, _⟩ := I.ok.funs.mem hb
  exact absurd (Nat.lt_of_lt_of_le (Heap.lt_size ho) (Nat.le_trans I.sz h)) (Nat.lt_irrefl _)
theorem Inv.cne (I : Inv X pins σ H s) : ∀ x c, X.env.cells.lookup x = some c → c ≠ X.env.locals := fun x c e z => by
  obtain ⟨v, o, ho, hd⟩ := I.cell x c e
  obtain ⟨m, ⟨o', es, ep, ho', hd', _⟩, _⟩ := I.loc
  rw [z, ho'] at ho; cases ho; rw [hd'] at hd; cases hd
theorem Inv.funs (I : Inv X pins σ H s) : s.heap.FunFrames X.base X.outer := by
  have all : ∀ (l : List Env), (∀ b ∈ frs l, b ∈ X.fs) → X.s₀.heap.FunFrames X.base l → s.heap.FunFrames X.base l := by
    intro l
    induction l with
    | nil => intro _ _; trivial
    | cons env r ih =>
      intro hs hl
      obtain ⟨hk, ⟨L, o, hf, hn, ho, hd⟩, hr⟩ := hl
      have hL : L ∈ X.fs := hs L (by unfold frs; rw [List.filterMap_cons, hf]; exact List.mem_cons_self)
      obtain ⟨sl, e⟩ := I.base.slot L o ho (I.ok.frf L hL) hL fun z => I.ok.exfs L z hL
      exact ⟨hk, ⟨L, _, hf, hn, e, hd⟩, ih (fun b hb => hs b (by unfold frs; rw [List.filterMap_cons, hf]; exact List.mem_cons_of_mem _ hb)) hr⟩
  exact all X.outer (fun _ hb => hb) I.ok.funs

/-- the frames that run, for a call -/
theorem Inv.stack (I : Inv X pins σ H s) : s.heap.FunFrames X.base X.stack := by
  rcases I.ok.stk with e | ⟨e, hf⟩
  · rw [e]; exact I.funs
  · rw [e]
    obtain ⟨m, hn, _⟩ := I.loc
    refine .cons (by rw [I.ok.kind]; decide) hf hn ?_ I.funs
    exact Heap.get?_none_of_le (Nat.le_trans I.ok.bsz I.ok.above)
theorem Inv.stkSub (I : Inv X pins σ H s) : ∀ b ∈ frs X.stack, b ∈ X.env.locals :: X.fs := fun b hb => by
  rcases I.ok.stk with e | ⟨e, hf⟩
  · rw [e] at hb; exact List.mem_cons_of_mem _ hb
  · rw [e] at hb
    unfold frs at hb
    rw [List.filterMap_cons, hf] at hb
    exact hb
theorem Inv.stkFree (I : Inv X pins σ H s) : ∀ b ∈ frs X.stack, H b = none := fun b hb => by
  rcases List.mem_cons.mp (I.stkSub b hb) with e | hb
  · rw [e]; exact I.free
  · obtain ⟨_, o, ho, _⟩ := I.ok.funs.mem hb
    exact I.base.free b o ho (I.ok.frf b hb) fun z => I.ok.exfs b z hb

/-- THE STEP: the untracked objects but the frame and the records at ch are kept (the callers' frames up to slots), the frame's map is kept, the new abstract heap is held -/
theorem Inv.step {g' : Array GenState} {t' : Nat} {d' : Drawn} {ch : List Addr} (I : Inv X pins σ H s)
    (hch : ∀ b ∈ ch, (b ∈ X.ex ∨ X.s₀.heap.objs.size ≤ b) ∧ b ≠ X.env.locals ∧ (∀ x c, X.env.cells.lookup x = some c → c ≠ b) ∧ ∀ p ∈ X.pn ++ pins, p.1 ≠ b)
    (keep : ∀ b o, b ≠ X.env.locals → b ∉ X.fs → b ∉ ch → s.heap.get? b = some o → H b = none → h'.get? b = some o)
    (slot : ∀ b o, b ≠ X.env.locals → b ∈ X.fs → b ∉ ch → s.heap.get? b = some o → H b = none → ∃ sl, h'.get? b = some { o with slots := sl }) (free : ∀ b o, b ∉ ch → s.heap.get? b = some o → H b = none → H' b = none)
    (there : ∀ b o, b ∉ ch → s.heap.get? b = some o → ∃ o', h'.get? b = some o')
    (tups : ∀ b xs, H b = some (.tup xs) → H' b = some (.tup xs)) (frzs : ∀ b o u, H b = some (.frz o u) → H' b = some (.frz o u)) (tbls : ∀ b ps, H b = some (.tbl ps) → ∃ more, H' b = some (.tbl (ps ++ more)))
    (ns : ∀ m, s.heap.Ns X.env.locals m → h'.Ns X.env.locals m) (hok : HOk X.prog X.w H' h') (hg : AllBare g') :
    Inv X pins σ H' { s with heap := h', gens := g', drawn := d', toks := t' } := by
  have neL : ∀ b o, X.s₀.heap.get? b = some o → b ≠ X.env.locals := fun b o e => Nat.ne_of_lt (Nat.lt_of_lt_of_le (Heap.lt_size e) I.ok.above)
  have neC : ∀ b o, X.s₀.heap.get? b = some o → b ∉ X.ex → b ∉ ch := fun b o e hx hb => by
    rcases (hch b hb).1 with z | z
    · exact hx z
    · exact absurd (Nat.lt_of_lt_of_le (Heap.lt_size e) z) (Nat.lt_irrefl _)
  have cellK : ∀ x c, X.env.cells.lookup x = some c → ∀ v, s.heap.IsCell c v → h'.IsCell c v := fun x c e v ⟨o, ho, hd⟩ => by
    have nch : c ∉ ch := fun z => (hch c z).2.2.1 x c e rfl
    by_cases hc : c ∈ X.fs
    · obtain ⟨sl, q⟩ := slot c o (I.cne x c e) hc nch ho (I.freeC x c e)
      exact ⟨_, q, hd⟩
    · exact ⟨o, keep c o (I.cne x c e) hc nch ho (I.freeC x c e), hd⟩
  refine ⟨I.ok, I.os, hg, ⟨fun b o e n hb hx => ?_, fun b o e n hb hx => ?_, fun b o e n hx => ?_, fun b o e hx => ?_, fun b xs e => tups b xs (I.base.tups b xs e), fun b o xs e => frzs b o xs (I.base.frzs b o xs e), fun b ps e => ?_⟩, ?_, fun x c e => ?_, ?_, fun x c e => ?_, fun p hp => ?_, hok, I.len⟩
  · exact keep b o (neL b o e) hb (neC b o e hx) (I.base.keep b o e n hb hx) (I.base.free b o e n hx)
  · obtain ⟨sl, e1⟩ := I.base.slot b o e n hb hx
    obtain ⟨sl', e2⟩ := slot b _ (neL b o e) hb (neC b o e hx) e1 (I.base.free b o e n hx)
    exact ⟨sl', e2⟩
  · obtain ⟨o', e1⟩ := I.base.there b o e hx
    exact free b o' (neC b o e hx) e1 (I.base.free b o e n hx)
  · obtain ⟨o', e1⟩ := I.base.there b o e hx
    exact there b o' (neC b o e hx) e1
  · obtain ⟨m1, e1⟩ := I.base.tbls b ps e
    obtain ⟨m2, e2⟩ := tbls b _ e1
    exact ⟨m1 ++ m2, by rw [e2, Array.append_assoc]⟩
  · obtain ⟨m, hn, hl⟩ := I.loc
    refine ⟨m, ns m hn, fun i x v e1 e2 e3 => ?_⟩
    obtain ⟨u, r, l⟩ := hl i x v e1 e2 e3
    refine ⟨u, r, ?_⟩
    rcases l with l | ⟨k, c, e, z⟩
    · exact .inl l
    · exact .inr ⟨k, c, e, cellK x c e _ z⟩
  · obtain ⟨v, z⟩ := I.cell x c e
    exact ⟨v, cellK x c e v z⟩
  · obtain ⟨m, ⟨o, _, _, ho, _⟩, _⟩ := I.loc
    exact free _ o (fun z => (hch _ z).2.1 rfl) ho I.free
  · obtain ⟨v, o, ho, hd⟩ := I.cell x c e
    exact free c o (fun z => (hch c z).2.2.1 x c e rfl) ho (I.freeC x c e)
  · obtain ⟨e, n, ne, nf, d⟩ := I.pin p hp
    have nch : p.1 ∉ ch := fun z => (hch p.1 z).2.2.2 p hp rfl
    exact ⟨keep p.1 p.2 ne nf nch e n, free p.1 p.2 nch e n, ne, nf, d⟩
/-- .. where the frame's own object is kept too -/
theorem Inv.un {t' : Nat} (I : Inv X pins σ H s) (u : Un X.fs [] H H' s.heap h') (hok : HOk X.prog X.w H' h') : Inv X pins σ H' { s with heap := h', toks := t' } := by
  obtain ⟨m, ⟨o, es, ep, ho, r⟩, _⟩ := id I.loc
  obtain ⟨sl, hL⟩ := u.any ho I.free (by simp)
  exact I.step (g' := s.gens) (d' := s.drawn) (ch := []) (fun _ z => nomatch z) (fun b o _ hb _ e n => u.keep b o e n hb (by simp)) (fun b o _ hb _ e n => u.slot b o e n hb (by simp)) (fun b o _ e n => u.free b o e n (by simp)) (fun b o _ e => u.there b o e (by simp)) u.tups u.frzs u.tbls (fun m' hm => by
    obtain ⟨o', es', ep', ho', r'⟩ := hm
    rw [ho] at ho'; cases ho'
    exact ⟨_, es', ep', hL, r'⟩) hok I.bare
/-- behind a call (or a comprehension's block): the slots of this frame may have changed too, the records at ch may have turned -/
theorem Inv.call {g' : Array GenState} {t' : Nat} {d' : Drawn} {ch : List Addr} (I : Inv X pins σ H s) (u : Un (frs X.stack) ch H H' s.heap h') (hok : HOk X.prog X.w H' h') (hg : AllBare g')
    (hch : ∀ b ∈ ch, (b ∈ X.ex ∨ X.s₀.heap.objs.size ≤ b) ∧ b ≠ X.env.locals ∧ (∀ x c, X.env.cells.lookup x = some c → c ≠ b) ∧ ∀ p ∈ X.pn ++ pins, p.1 ≠ b) :
    Inv X pins σ H' { s with heap := h', gens := g', drawn := d', toks := t' } := by
  obtain ⟨m, ⟨o, es, ep, ho, r⟩, _⟩ := id I.loc
  obtain ⟨sl, hL⟩ := u.any ho I.free fun z => (hch _ z).2.1 rfl
  exact I.step (ch := ch) hch (fun b o hL hb hc e n => u.keep b o e n (fun z => (List.mem_cons.mp (I.stkSub b z)).elim hL hb) hc) (fun b o _ _ hc e n => u.any e n hc) (fun b o hc e n => u.free b o e n hc) (fun b o hc e => u.there b o e hc) u.tups u.frzs u.tbls (fun m' hm => by
    obtain ⟨o', es', ep', ho', r'⟩ := hm
    rw [ho] at ho'; cases ho'
    exact ⟨_, es', ep', hL, r'⟩) hok hg
/-- an untracked record of ours (an iterator) has turned -/
theorem Inv.turned {t' : Nat} {it : Addr} (I : Inv X pins σ H s) (k : ∀ b o, b ≠ it → s.heap.get? b = some o → h'.get? b = some o) (hn : H it = none) (hL : it ≠ X.env.locals)
    (h1 : it ∈ X.ex ∨ X.s₀.heap.objs.size ≤ it) (h2 : ∀ x c, X.env.cells.lookup x = some c → c ≠ it) (h3 : ∀ p ∈ X.pn ++ pins, p.1 ≠ it) : Inv X pins σ H { s with heap := h', toks := t' } := by
  have nit : ∀ b u, H b = some u → b ≠ it := fun b u e z => by rw [z, hn] at e; cases e
  refine I.step (g' := s.gens) (d' := s.drawn) (ch := [it]) (fun b hb => ?_) (fun b o _ _ hc e _ => k b o (fun z => hc (by simp [z])) e) (fun b o _ _ hc e _ => ⟨o.slots, k b o (fun z => hc (by simp [z])) e⟩) (fun _ _ _ _ n => n)
    (fun b o hc e => ⟨o, k b o (fun z => hc (by simp [z])) e⟩) (fun _ _ e => e) (fun _ _ _ e => e) (fun b ps e => ⟨#[], by rw [e]; simp⟩) (fun m hm => ?_) (fun b u e => ?_) I.bare
  · have e : b = it := by simpa using hb
    subst e
    exact ⟨h1, hL, h2, h3⟩
  · obtain ⟨o, es, ep, ho, r⟩ := hm
    exact ⟨o, es, ep, k _ o (Ne.symm hL) ho, r⟩
  · refine (I.hok b u e).stay (fun c v hc q => k c v ?_ q) (fun _ q => q) fun _ _ q => q
    rcases hc with z | z
    · rw [z]; exact nit b u e
    · exact nit c _ z
theorem Inv.tok (I : Inv X pins σ H s) (t : Nat) : Inv X pins σ H { s with toks := t } := I.un (h' := s.heap) (t' := t) Un.refl I.hok
/-- all objects kept -/
theorem Inv.kept {t' : Nat} (I : Inv X pins σ H s) (k : ∀ b u, s.heap.get? b = some u → h'.get? b = some u) : Inv X pins σ H { s with heap := h', toks := t' } := I.un (Un.kept k) (I.hok.kept k)
/-- a new object laid and tracked -/
theorem Inv.laid {a : Addr} {o : HO} {t' : Nat} (I : Inv X pins σ H s) (k : ∀ b u, s.heap.get? b = some u → h'.get? b = some u) (hp : s.heap.objs.size ≤ a) (new : ObjOk X.prog X.w (upd H a o) h' a o) :
    Inv X pins σ (upd H a o) { s with heap := h', toks := t' } := I.un (Un.laid k hp (I.hok.fresh hp)) (I.hok.laid k hp new)
/-- an object written -/
theorem Inv.write {x e : Addr} {o : HO} {t' : Nat} (I : Inv X pins σ H s) (mu : Mut (H x)) (he : e = x ∨ H e = some (.own x)) (k : ∀ b u, b ≠ e → s.heap.get? b = some u → h'.get? b = some u) (heo : ∃ u, h'.get? e = some u)
    (new : ObjOk X.prog X.w (upd H x o) h' x o) : Inv X pins σ (upd H x o) { s with heap := h', toks := t' } := I.un (Un.write mu he k heo) (I.hok.write mu he k heo new)
/-- forgetting slots, pins -/
theorem Inv.weak {σ' : List (Option V)} (I : Inv X pins σ H s) (hl : σ'.length = σ.length) (w : ∀ (i : Nat) v, σ'[i]? = some (some v) → σ[i]? = some (some v)) : Inv X pins σ' H s :=
  ⟨I.ok, I.os, I.bare, I.base, let ⟨m, hn, hl'⟩ := I.loc; ⟨m, hn, fun i x v e1 e2 e3 => hl' i x v e1 (w i v e2) e3⟩, I.cell, I.free, I.freeC, I.pin, I.hok, hl.trans I.len⟩
theorem Inv.pins_of {pins' : List (Addr × Obj)} (I : Inv X pins σ H s) (h : ∀ p ∈ pins', s.heap.get? p.1 = some p.2 ∧ H p.1 = none ∧ p.1 ≠ X.env.locals ∧ p.1 ∉ X.fs ∧ ∀ v, p.2.data ≠ .cell v) : Inv X pins' σ H s :=
  ⟨I.ok, I.os, I.bare, I.base, I.loc, I.cell, I.free, I.freeC, fun p hp => (List.mem_append.mp hp).elim (fun z => I.pin p (List.mem_append_left _ z)) (h p), I.hok, I.len⟩

theorem nodup_ix {N : List Str} (hN : N.Nodup) {i j : Nat} {x : Str} (a : N[i]? = some x) (b : N[j]? = some x) : i = j := by
  obtain ⟨h1, e1⟩ := List.getElem?_eq_some_iff.mp a
  obtain ⟨h2, e2⟩ := List.getElem?_eq_some_iff.mp b
  exact (List.getElem_inj hN).mp (e1.trans e2.symm)

/-- a name is stored; what changed -/
theorem store_ok2 {M : Model} {A : Around} {E : Value → Shared → Prop} {i : Nat} {x : Str} {v : V} {u : Value} {Q : Unit → Shared → Prop} (I : Inv X pins σ H s) (hN : X.N.Nodup) (hi : X.N[i]? = some x) (hx : Loc X.env.scope x) (r : RelV v u)
    (h : ∀ s', Inv X pins (σ.set i (some v)) H s' → (∃ a, Heap.SameBut a s.heap s'.heap ∧ (a = X.env.locals ∨ X.env.cells.lookup x = some a)) → Q () s') (hf : X.fn x = true ∨ X.env.scope.names.lookup x = some .local := by first | exact .inl rfl | exact .inr rfl | assumption) : wpAny M A (storeName X.env x u) Q E s := by
  obtain ⟨m, hn, hl⟩ := id I.loc
  have hcls : (X.env.scope.kind == .class || (X.env.scope.kind == .module && X.env.locals != X.env.globals)) = false := by rw [I.ok.kind]; rfl
  have hiσ : i < σ.length := by rw [I.len]; exact (List.getElem?_eq_some_iff.mp hi).1
  have cne := I.cne
  have tracked : ∀ {a : Addr} {h' : Heap}, (∃ o, s.heap.get? a = some o ∧ H a = none) → Heap.SameBut a s.heap h' → HOk X.prog X.w H h' := fun {a h'} ha hs b ob e => by
    obtain ⟨_, _, hfree⟩ := ha
    refine (I.hok b ob e).stay (fun c w' hc q => (hs.2 c ?_).trans q) (fun _ q => q) fun _ _ q => q
    rintro rfl
    rcases hc with rfl | hc
    · rw [hfree] at e; cases e
    · rw [hfree] at hc; cases hc
  rcases hx with hk | hk
  · refine wpAny_storeName_local hk hn (fun h' hn' hs => ?_) hcls
    obtain ⟨oL, _, _, hoL, _⟩ := id hn
    refine h _ ⟨I.ok, I.os, I.bare, ⟨fun b o e n hb hx => ?_, fun b o e n hb hx => ?_, I.base.free, fun b o e hx => ?_, I.base.tups, I.base.frzs, I.base.tbls⟩, ⟨_, hn', fun j y v' e1 e2 e3 => ?_⟩, fun y c e => ?_, I.free, I.freeC, fun p hp => ?_, tracked ⟨oL, hoL, I.free⟩ hs, by simpa using I.len⟩ ⟨_, hs, .inl rfl⟩
    · exact (hs.2 b (Nat.ne_of_lt (Nat.lt_of_lt_of_le (Heap.lt_size e) I.ok.above))).trans (I.base.keep b o e n hb hx)
    · obtain ⟨sl, e1⟩ := I.base.slot b o e n hb hx
      exact ⟨sl, (hs.2 b (Nat.ne_of_lt (Nat.lt_of_lt_of_le (Heap.lt_size e) I.ok.above))).trans e1⟩
    · obtain ⟨o', e1⟩ := I.base.there b o e hx
      exact ⟨o', (hs.2 b (Nat.ne_of_lt (Nat.lt_of_lt_of_le (Heap.lt_size e) I.ok.above))).trans e1⟩
    · by_cases hj : j = i
      · subst hj
        rw [hi] at e1; cases e1
        rw [List.getElem?_set_self hiσ] at e2
        cases e2
        exact ⟨u, r, .inl ⟨hk, by simp⟩⟩
      · rw [List.getElem?_set_ne (Ne.symm hj)] at e2
        obtain ⟨u', r', q⟩ := hl j y v' e1 e2 e3
        refine ⟨u', r', ?_⟩
        rcases q with ⟨k, e⟩ | ⟨k, c, e, z⟩
        · refine .inl ⟨k, ?_⟩
          have : y ≠ x := fun e => hj (nodup_ix hN e1 (e ▸ hi))
          simp [this, e]
        · exact .inr ⟨k, c, e, z.sameBut hs (cne y c e)⟩
    · obtain ⟨w', z⟩ := I.cell y c e
      exact ⟨w', z.sameBut hs (cne y c e)⟩
    · obtain ⟨e, n, ne, nf, d⟩ := I.pin p hp
      exact ⟨(hs.2 p.1 ne).trans e, n, ne, nf, d⟩
  · have hfn : X.fn x = true := by
      rcases hf with z | z
      · exact z
      · rw [z] at hk; cases hk
    obtain ⟨c, hc⟩ := I.ok.has x (.inl hk)
    obtain ⟨w', z⟩ := I.cell x c hc
    refine wpAny_storeName_cell I.ok.kind hk hc z (fun h' hc' hs => ?_)
    obtain ⟨oc, hoc, hocd⟩ := id z
    refine h { s with heap := h' } ⟨I.ok, I.os, I.bare, ⟨fun b o e n hb hx => ?_, fun b o e n hb hx => ?_, I.base.free, fun b o e hx => ?_, I.base.tups, I.base.frzs, I.base.tbls⟩, ⟨m, hn.sameBut hs (Ne.symm (cne x c hc)), fun j y v' e1 e2 e3 => ?_⟩, fun y c' e => ?_, I.free, I.freeC, fun p hp => ?_, tracked ⟨oc, hoc, I.freeC x c hc⟩ hs, by simpa using I.len⟩ ⟨c, hs, .inr hc⟩
    · exact (hs.2 b (Nat.ne_of_lt (Nat.lt_of_lt_of_le (Heap.lt_size e) (I.ok.cab x c hfn hc)))).trans (I.base.keep b o e n hb hx)
    · obtain ⟨sl, e1⟩ := I.base.slot b o e n hb hx
      exact ⟨sl, (hs.2 b (Nat.ne_of_lt (Nat.lt_of_lt_of_le (Heap.lt_size e) (I.ok.cab x c hfn hc)))).trans e1⟩
    · obtain ⟨o', e1⟩ := I.base.there b o e hx
      exact ⟨o', (hs.2 b (Nat.ne_of_lt (Nat.lt_of_lt_of_le (Heap.lt_size e) (I.ok.cab x c hfn hc)))).trans e1⟩
    · by_cases hj : j = i
      · subst hj
        rw [hi] at e1; cases e1
        rw [List.getElem?_set_self hiσ] at e2
        cases e2
        exact ⟨u, r, .inr ⟨.inl hk, c, hc, hc'⟩⟩
      · rw [List.getElem?_set_ne (Ne.symm hj)] at e2
        obtain ⟨u', r', q⟩ := hl j y v' e1 e2 e3
        refine ⟨u', r', ?_⟩
        rcases q with q | ⟨k, c', e, z'⟩
        · exact .inl q
        · refine .inr ⟨k, c', e, z'.sameBut hs ?_⟩
          rintro rfl
          exact hj (nodup_ix hN e1 (I.ok.inj _ _ _ e hc ▸ hi))
    · by_cases hcc : c' = c
      · subst hcc; exact ⟨_, hc'⟩
      · obtain ⟨w2, z2⟩ := I.cell y c' e
        exact ⟨w2, z2.sameBut hs hcc⟩
    · obtain ⟨e, n, ne, nf, d⟩ := I.pin p hp
      refine ⟨(hs.2 p.1 ?_).trans e, n, ne, nf, d⟩
      intro q
      rw [q, hoc] at e
      have q' : oc = p.2 := Option.some.inj e
      exact d w' (by rw [← q']; exact hocd)
theorem store_ok {M : Model} {A : Around} {E : Value → Shared → Prop} {i : Nat} {x : Str} {v : V} {u : Value} {Q : Unit → Shared → Prop} (I : Inv X pins σ H s) (hN : X.N.Nodup) (hi : X.N[i]? = some x) (hx : Loc X.env.scope x) (r : RelV v u)
    (h : ∀ s', Inv X pins (σ.set i (some v)) H s' → Q () s') (hf : X.fn x = true ∨ X.env.scope.names.lookup x = some .local := by first | exact .inl rfl | exact .inr rfl | assumption) : wpAny M A (storeName X.env x u) Q E s :=
  store_ok2 I hN hi hx r (fun s' I' _ => h s' I') hf
/-- behind a call or a block, the state as it is -/
theorem Inv.call' {s' : Shared} {ch : List Addr} (I : Inv X pins σ H s) (ho : s'.os = s.os) (u : Un (frs X.stack) ch H H' s.heap s'.heap) (hok : HOk X.prog X.w H' s'.heap) (hg : AllBare s'.gens)
    (hch : ∀ b ∈ ch, (b ∈ X.ex ∨ X.s₀.heap.objs.size ≤ b) ∧ b ≠ X.env.locals ∧ (∀ x c, X.env.cells.lookup x = some c → c ≠ b) ∧ ∀ p ∈ X.pn ++ pins, p.1 ≠ b) : Inv X pins σ H' s' := by
  obtain ⟨h', g', d', t', o'⟩ := s'
  have e : o' = s.os := ho
  subst e
  exact I.call (g' := g') (t' := t') (d' := d') u hok hg hch
end

/-! ### the judgements -/
/-- an exception: its class, its own dict's address (where it has one), the abstract heap behind it -/
abbrev XK := Value → Option Addr → Hp → Prop
abbrev St := List (Option V)
abbrev VK := V → Hp → Prop
/-- an expression's reading; a test's; an argument list's -/
abbrev TE := St → Hp → VK → Prop
abbrev TT := St → Hp → (Bool → Hp → Prop) → Prop
abbrev TA := St → Hp → (List V → Hp → Prop) → Prop
/-- what is wanted behind a statement -/
structure Ends where
  nx : St → Hp → Prop
  rt : VK
  bk : St → Hp → Prop := fun _ _ => False
  ct : St → Hp → Prop := fun _ _ => False
abbrev TS := Ends → St → Hp → Prop

def EP (X : Cx) (pins : List (Addr × Obj)) (σ : St) (Q : VK) (u : Value) (s' : Shared) : Prop := ∃ v H', Inv X pins σ H' s' ∧ RelV v u ∧ Q v H'
def TP (X : Cx) (pins : List (Addr × Obj)) (σ : St) (Q : Bool → Hp → Prop) (b : Bool) (s' : Shared) : Prop := ∃ H', Inv X pins σ H' s' ∧ Q b H'
def AP (X : Cx) (pins : List (Addr × Obj)) (σ : St) (Q : List V → Hp → Prop) (us : List Value) (s' : Shared) : Prop := ∃ vs H', Inv X pins σ H' s' ∧ Vals vs us ∧ Q vs H'
def SP (X : Cx) (pins : List (Addr × Obj)) (D : Ends) (f : Flow) (s' : Shared) : Prop :=
  match f with
  | .next => ∃ σ' H', Inv X pins σ' H' s' ∧ D.nx σ' H'
  | .brk => ∃ σ' H', Inv X pins σ' H' s' ∧ D.bk σ' H'
  | .cont => ∃ σ' H', Inv X pins σ' H' s' ∧ D.ct σ' H'
  | .ret u => ∃ v σ' H', Inv X pins σ' H' s' ∧ RelV v u ∧ D.rt v H'

def PE (X : Cx) (e : Expr) (t : TE) : Prop :=
  ∀ (pins : List (Addr × Obj)) (s : Shared) (σ : St) (H : Hp) (Q : VK), Inv X pins σ H s → t σ H Q → wpAny (model X.prog X.w) X.A (eval e X.env) (EP X pins σ Q) X.xe s
def PT (X : Cx) (e : Expr) (t : TT) : Prop :=
  ∀ (pins : List (Addr × Obj)) (s : Shared) (σ : St) (H : Hp) (Q : Bool → Hp → Prop), Inv X pins σ H s → t σ H Q → wpAny (model X.prog X.w) X.A (isTrue e X.env (eval e X.env)) (TP X pins σ Q) X.xe s
/-- a test whatever its 'whole' is (and, or) -/
def PW (X : Cx) (e : Expr) (t : TT) : Prop :=
  ∀ (whole : Sem Value) (pins : List (Addr × Obj)) (s : Shared) (σ : St) (H : Hp) (Q : Bool → Hp → Prop), Inv X pins σ H s → t σ H Q → wpAny (model X.prog X.w) X.A (isTrue e X.env whole) (TP X pins σ Q) X.xe s
theorem PW.pt {X : Cx} {e : Expr} {t : TT} (h : PW X e t) : PT X e t := h _
/-- an argument list (no star), from the left -/
def PA (X : Cx) (es : List Expr) (t : TA) : Prop :=
  ∀ (pos : Pos) (pins : List (Addr × Obj)) (s : Shared) (σ : St) (H : Hp) (Q : List V → Hp → Prop), Inv X pins σ H s → t σ H Q → wpAny (model X.prog X.w) X.A (spliced (backTo pos (starEach es X.env))) (AP X pins σ Q) X.xe s
def PS (X : Cx) (st : Stmt) (t : TS) : Prop :=
  ∀ (pins : List (Addr × Obj)) (s : Shared) (σ : St) (H : Hp) (D : Ends), Inv X pins σ H s → t D σ H → wpAny (model X.prog X.w) X.A (exec st X.env) (SP X pins D) X.xe s
def PSs (X : Cx) (st : List Stmt) (t : TS) : Prop :=
  ∀ (pins : List (Addr × Obj)) (s : Shared) (σ : St) (H : Hp) (D : Ends), Inv X pins σ H s → t D σ H → wpAny (model X.prog X.w) X.A (execs st X.env) (SP X pins D) X.xe s
/-- weaken the end -/
theorem thn {α : Type} {t : Sem α} {Q Q' : α → Shared → Prop} {M : Model} {A : Around} {E : Value → Shared → Prop} {s : Shared} (h : wpAny M A t Q E s) (hQ : ∀ a s, Q a s → Q' a s) : wpAny M A t Q' E s := wpAny_mono h hQ fun _ _ x => x
end L2

namespace L2
open PySem PySem.Spec PyProof.Rows
section
variable {X : Cx}

/-! ### names and constants -/
def tVar (i : Nat) : TE := fun σ H Q => ∃ v, σ[i]? = some (some v) ∧ Q v H
def tC (v : V) : TE := fun _ H Q => Q v H
theorem pe_var {i : Nat} {x : Str} {pos : Pos} (hN : X.N[i]? = some x) (hv : Vis X.env.scope x) (hd : (x == ("__debug__" : Str)) = false := by decide) (hcd : (x == ("__classdict__" : Str)) = false := by decide) : PE X (.Name x pos) (tVar i) := by
  intro pins s σ H Q I h
  obtain ⟨v, e, h⟩ := h
  obtain ⟨m, hn, hl⟩ := I.loc
  obtain ⟨u, r, l⟩ := hl i x v hN e hv
  have fin : EP X pins σ Q u s := ⟨v, H, I, r, h⟩
  rcases l with ⟨hk, hm⟩ | ⟨hk, c, hc, hcell⟩
  · exact wpAny_Name (wpAny_loadName_local I.ok.kind hk hn hm fin) hd
  · rcases hk with hk | hk
    · exact wpAny_Name (wpAny_loadName_cell I.ok.kind hk hc hcell fin) hd
    · exact wpAny_Name (wpAny_loadName_free I.ok.kind hk hc hcell fin hcd) hd
theorem pe_int {i j pos} : PE X (.Constant (.int i) j pos) (tC (.int i)) := fun _ _ _ H _ I h => wpAny_Constant_int ⟨.int i, H, I.tok _, ⟨_, rfl⟩, h⟩
theorem pe_bl {b j pos} : PE X (.Constant (.bool b) j pos) (tC (.bl b)) := fun _ _ _ H _ I h => Constant_bool ⟨.bl b, H, I, rfl, h⟩
theorem pe_non {j pos} : PE X (.Constant .none j pos) (tC .non) := fun _ _ _ H _ I h => Constant_none ⟨.non, H, I, rfl, h⟩
theorem pe_str {x j pos} : PE X (.Constant (.str x) j pos) (tC (.str x)) := fun _ _ _ H _ I h => Calls.Constant_str ⟨.str x, H, I.tok _, ⟨_, rfl⟩, h⟩

/-- a global name of the def -/
def Gl (X : Cx) (x : Str) : Prop := X.env.kindOf x = some .globalImplicit
theorem ld_glob {E : Value → Shared → Prop} {pins : List (Addr × Obj)} {s : Shared} {σ : St} {H : Hp} {x : Str} {u : Value} {pos : Pos} {Q : Value → Shared → Prop} (I : Inv X pins σ H s) (hg : Gl X x) (hm : X.mg x = some u) (h : Q u s)
    (hd : (x == ("__debug__" : Str)) = false := by decide) : wpAny (model X.prog X.w) X.A (eval (.Name x pos) X.env) Q E s :=
  Calls.Name_function_global I.ok.kind hg (Calls.loadGlobal_global (by rw [I.ok.glob]; exact I.mod.glob.keeps I.bk) hm h) hd
theorem ld_blt {E : Value → Shared → Prop} {pins : List (Addr × Obj)} {s : Shared} {σ : St} {H : Hp} {x : Str} {u : Value} {pos : Pos} {Q : Value → Shared → Prop} (I : Inv X pins σ H s) (hg : Gl X x) (hm : X.mg x = none) (hv : bootBuiltins x = some u) (h : Q u s)
    (hn : x ≠ "__name__" := by decide) (hd : (x == ("__debug__" : Str)) = false := by decide) : wpAny (model X.prog X.w) X.A (eval (.Name x pos) X.env) Q E s := by
  obtain ⟨mb, h1, h2⟩ := I.mod.blt
  exact Calls.Name_function_global I.ok.kind hg (Calls.loadGlobal_builtin (by rw [I.ok.glob]; exact I.mod.glob.keeps I.bk) hm (by rw [I.ok.blt]; exact h1.keeps I.bk) ((h2 x hn).trans hv) h) hd
/-- a module's constant, a class, a function, as a value -/
theorem pe_glob {x : Str} {v : V} {u : Value} {pos : Pos} (hg : Gl X x) (hm : X.mg x = some u) (r : RelV v u) (hd : (x == ("__debug__" : Str)) = false := by decide) : PE X (.Name x pos) (tC v) :=
  fun _ _ _ H _ I h => ld_glob I hg hm ⟨v, H, I, r, h⟩ hd
theorem pe_bltn {x : Str} {v : V} {u : Value} {pos : Pos} (hg : Gl X x) (hm : X.mg x = none) (hv : bootBuiltins x = some u) (r : RelV v u) (hn : x ≠ "__name__" := by decide) (hd : (x == ("__debug__" : Str)) = false := by decide) : PE X (.Name x pos) (tC v) :=
  fun _ _ _ H _ I h => ld_blt I hg hm hv ⟨v, H, I, r, h⟩ hn hd

/-! ### arithmetic -/
variable {a b : Expr} {ta tb : TE} {pos : Pos}
/-! ### comparisons -/
def PC (X : Cx) (op : CmpOp) (a b : Expr) (t : TE) : Prop :=
  ∀ (pins : List (Addr × Obj)) (s : Shared) (σ : St) (H : Hp) (Q : VK), Inv X pins σ H s → t σ H Q →
    wpAny (model X.prog X.w) X.A (eval a X.env) (fun v s₁ => wpAny (model X.prog X.w) X.A (eval b X.env) (fun u s₂ => wpAny (model X.prog X.w) X.A (compareOp op v u) (EP X pins σ Q) X.xe s₂) X.xe s₁) X.xe s
theorem nobehind (b : Expr) {op : CmpOp} (h : op ≠ .In) (h2 : op ≠ .NotIn) : behindInMarks op b = false := by
  have e1 : (op == CmpOp.In) = false := by cases op <;> first | rfl | exact absurd rfl h
  have e2 : (op == CmpOp.NotIn) = false := by cases op <;> first | rfl | exact absurd rfl h2
  cases b <;> simp [behindInMarks, e1, e2]
/-- is None -/
def tIsN (ta : TE) : TE := fun σ H Q => ta σ H fun x H1 => Q (.bl (decide (x = .non))) H1
def tNotN (ta : TE) : TE := fun σ H Q => ta σ H fun x H1 => Q (.bl (!decide (x = .non))) H1
theorem RelV.none_iff {x : V} {v : Value} (r : RelV x v) : (v == Value.none) = decide (x = .non) := by
  cases x with
  | non => cases r; rfl
  | bl _ => cases r; rfl
  | int _ => obtain ⟨t, rfl⟩ := r; rfl
  | str _ => obtain ⟨t, rfl⟩ := r; rfl
  | byt _ => obtain ⟨t, rfl⟩ := r; rfl
  | flt _ => obtain ⟨t, rfl⟩ := r; rfl
  | ref _ => cases r; rfl
  | ty _ => cases r; rfl
theorem pc_isN {j pos'} (ha : PE X a ta) : PC X .Is a (.Constant .none j pos') (tIsN ta) := by
  intro pins s σ H Q I h
  refine thn (ha pins s σ H _ I h) fun v s1 ⟨x, H1, I1, r1, q1⟩ => ?_
  exact Constant_none (is_none_gen ⟨.bl _, H1, I1, by rw [r1.none_iff]; rfl, q1⟩)
theorem pc_notN {j pos'} (ha : PE X a ta) : PC X .IsNot a (.Constant .none j pos') (tNotN ta) := by
  intro pins s σ H Q I h
  refine thn (ha pins s σ H _ I h) fun v s1 ⟨x, H1, I1, r1, q1⟩ => ?_
  exact Constant_none (isnot_none_gen ⟨.bl _, H1, I1, by rw [r1.none_iff]; rfl, q1⟩)
/-- a comparison as a value, as a test -/
def tB (t : TE) : TT := fun σ H Q => t σ H fun x H1 => ∃ c, x = .bl c ∧ Q c H1
theorem pt_cmp {op : CmpOp} {t : TE} (h : PC X op a b t) (h1 : behindInMarks op b = false := by first | exact nobehind _ (by decide) (by decide) | rfl) : PT X (.Compare a [op] [b] pos) (tB t) := by
  intro pins s σ H Q I hw
  refine wpAny_isTrue_Compare1 (thn (h pins s σ H _ I hw) fun v s1 h1 => thn h1 fun u s2 h2 => thn h2 fun c s3 ⟨x, H1, I1, r1, q1⟩ => ?_) h1
  obtain ⟨d, rfl, q⟩ := q1
  cases r1
  exact wpAny_truthy_bool ⟨H1, I1, q⟩
/-- an expression whose value is a bool, as a test -/
theorem pt_val {e : Expr} {t : TE} (h : PE X e t) (he : ∀ whole, isTrue e X.env whole = (do let v ← whole; standAt e.pos; holding [v] (truthy v)) := by intro _; rfl) : PT X e (tB t) := by
  intro pins s σ H Q I hw
  refine isTrue_plain (thn (h pins s σ H _ I hw) fun v s1 ⟨x, H1, I1, r1, q1⟩ => ?_) (he _)
  obtain ⟨d, rfl, q⟩ := q1
  cases r1
  exact wpAny_truthy_bool ⟨H1, I1, q⟩

/-! ### and, or, not -/
variable {tA tB' : TT} {rest : List Expr}
def tAnd (t u : TT) : TT := fun σ H Q => t σ H fun c H1 => if c = true then u σ H1 Q else Q false H1
def tOr (t u : TT) : TT := fun σ H Q => t σ H fun c H1 => if c = true then Q true H1 else u σ H1 Q
def tNot (t : TT) : TT := fun σ H Q => t σ H fun c H1 => Q (!c) H1
theorem pw_and1 (ha : PT X a tA) : PW X (.BoolOp .And [a] pos) tA := by
  intro wh pins s σ H Q I h
  refine isTrue_and (thn (ha pins s σ H Q I h) fun c s1 e => ?_)
  cases c with
  | true => exact isTrue_and_nil e
  | false => exact e
theorem pw_or1 (ha : PT X a tA) : PW X (.BoolOp .Or [a] pos) tA := by
  intro wh pins s σ H Q I h
  refine isTrue_or (thn (ha pins s σ H Q I h) fun c s1 e => ?_)
  cases c with
  | false => exact isTrue_or_nil e
  | true => exact e
theorem pw_and (ha : PT X a tA) (hb : PW X (.BoolOp .And (b :: rest) pos) tB') : PW X (.BoolOp .And (a :: b :: rest) pos) (tAnd tA tB') := by
  intro wh pins s σ H Q I h
  refine isTrue_and (thn (ha pins s σ H _ I h) fun c s1 ⟨H1, I1, q1⟩ => ?_)
  cases c with
  | true => exact hb wh pins s1 σ H1 Q I1 q1
  | false => exact ⟨H1, I1, q1⟩
theorem pw_or (ha : PT X a tA) (hb : PW X (.BoolOp .Or (b :: rest) pos) tB') : PW X (.BoolOp .Or (a :: b :: rest) pos) (tOr tA tB') := by
  intro wh pins s σ H Q I h
  refine isTrue_or (thn (ha pins s σ H _ I h) fun c s1 ⟨H1, I1, q1⟩ => ?_)
  cases c with
  | true => exact ⟨H1, I1, q1⟩
  | false => exact hb wh pins s1 σ H1 Q I1 q1
theorem pt_not (ha : PT X a tA) : PT X (.UnaryOp .Not a pos) (tNot tA) := by
  intro pins s σ H Q I h
  exact isTrue_not (ha pins s σ H (fun c H1 => Q (!c) H1) I h)
def tOrV (ta tb : TE) : TE := fun σ H Q => ta σ H fun x H1 => ∃ c, x = .bl c ∧ if c = true then Q (.bl true) H1 else tb σ H1 Q
theorem pe_one {op} {t : TE} (h : PE X a t) : PE X (.BoolOp op [a] pos) t := fun pins s σ H Q I hw => BoolOp_one (h pins s σ H Q I hw)
theorem pe_or (ha : PE X a ta) (hb : PE X (.BoolOp .Or (b :: rest) pos) tb) : PE X (.BoolOp .Or (a :: b :: rest) pos) (tOrV ta tb) := by
  intro pins s σ H Q I h
  refine BoolOp_or (thn (ha pins s σ H _ I h) fun v s1 ⟨x, H1, I1, r1, q1⟩ => ?_)
  obtain ⟨c, rfl, q1⟩ := q1
  cases r1
  refine wpAny_truthy_bool ?_
  cases c with
  | false => exact hb pins s1 σ H1 Q I1 q1
  | true => exact ⟨.bl true, H1, I1, rfl, q1⟩
end
end L2

namespace L2
open PySem PySem.Spec PyProof.Rows

/-! ### a list, a tuple that is read: tracked, frozen, or an object of the module -/
def SqL (K : PySem.W.Frag) (H : Hp) (a : Addr) (xs : List V) : Prop :=
  Rd H a (.lst xs) ∨
    ∃ (o : Obj) (its : Array Value) (n : Nat), K.lookup a = some o ∧ o.cls = .type "list" ∧ o.dict = none ∧ o.data = .seq its n ∧ its.size ≤ sizeLine ∧ Vals xs its.toList
def SqT (K : PySem.W.Frag) (H : Hp) (a : Addr) (xs : List V) : Prop :=
  Rd H a (.tup xs) ∨
    ∃ (o : Obj) (its : Array Value) (n : Nat), K.lookup a = some o ∧ o.cls = .type "tuple" ∧ o.data = .seq its n ∧ its.size ≤ sizeLine ∧ Vals xs its.toList
def absV : Value → Option V
  | .none => some .non
  | .bool b => some (.bl b)
  | .int i _ => some (.int i)
  | .str x _ => some (.str x)
  | .bytes b _ => some (.byt b)
  | .float b _ => some (.flt b)
  | .ref a => some (.ref a)
  | .type n => some (.ty n)
  | _ => none
theorem RelV.abs {x : V} {u : Value} (r : RelV x u) : absV u = some x := by
  cases x with
  | non => cases r; rfl
  | bl _ => cases r; rfl
  | int _ => obtain ⟨t, rfl⟩ := r; rfl
  | str _ => obtain ⟨t, rfl⟩ := r; rfl
  | byt _ => obtain ⟨t, rfl⟩ := r; rfl
  | flt _ => obtain ⟨t, rfl⟩ := r; rfl
  | ref _ => cases r; rfl
  | ty _ => cases r; rfl
theorem RelV.inj {x y : V} {u : Value} (r : RelV x u) (q : RelV y u) : x = y := Option.some.inj (r.abs.symm.trans q.abs)
theorem Vals.inj : ∀ {xs ys : List V} {us : List Value}, Vals xs us → Vals ys us → xs = ys
  | _, _, _, .nil, .nil => rfl
  | _, _, _, .cons r t, .cons r' t' => by rw [r.inj r', Vals.inj t t']
section
variable {X : Cx} {pins : List (Addr × Obj)} {σ : St} {H : Hp} {s : Shared} {a : Addr} {xs ys : List V}
theorem SqL.of {K : PySem.W.Frag} (h : H a = some (.lst xs)) : SqL K H a xs := .inl (.inl h)
theorem SqT.of {K : PySem.W.Frag} (h : H a = some (.tup xs)) : SqT K H a xs := .inl (.inl h)
theorem Inv.list (I : Inv X pins σ H s) (h : SqL X.K H a xs) : ∃ its : List Value, Vals xs its ∧ PlainL s.heap a its.toArray ∧ xs.length ≤ sizeLine := by
  rcases h with h | ⟨o, its, n, hk, hc, hd, hs, hz, r⟩
  · obtain ⟨z, its, n, r, e⟩ := h.ok I.hok
    exact ⟨its, r, ⟨_, n, e, rfl, rfl, rfl⟩, z⟩
  · refine ⟨its.toList, r, ⟨o, n, I.kIn a o hk, hc, hd, by simpa using hs⟩, ?_⟩
    have e := r.length
    simp only [Array.length_toList] at e
    omega
theorem Inv.tuple (I : Inv X pins σ H s) (h : SqT X.K H a xs) : ∃ its : List Value, Vals xs its ∧ IsTup s.heap a its.toArray ∧ xs.length ≤ sizeLine := by
  rcases h with h | ⟨o, its, n, hk, hc, hs, hz, r⟩
  · obtain ⟨z, its, r, p⟩ := h.ok I.hok
    exact ⟨its, r, p, z⟩
  · refine ⟨its.toList, r, ⟨o, I.kIn a o hk, hc, n, by simpa using hs⟩, ?_⟩
    have e := r.length
    simp only [Array.length_toList] at e
    omega
theorem Inv.list_inj (I : Inv X pins σ H s) (h : SqL X.K H a xs) (h' : SqL X.K H a ys) : xs = ys := by
  obtain ⟨its, r, ⟨o, n, e, _, _, d⟩, _⟩ := I.list h
  obtain ⟨its', r', ⟨o', n', e', _, _, d'⟩, _⟩ := I.list h'
  rw [e] at e'; cases e'
  rw [d] at d'
  injection d' with d1 _
  have : its = its' := by simpa using congrArg Array.toList d1
  subst this
  exact r.inj r'
theorem Inv.tuple_inj (I : Inv X pins σ H s) (h : SqT X.K H a xs) (h' : SqT X.K H a ys) : xs = ys := by
  obtain ⟨its, r, ⟨o, e, _, n, d⟩, _⟩ := I.tuple h
  obtain ⟨its', r', ⟨o', e', _, n', d'⟩, _⟩ := I.tuple h'
  rw [e] at e'; cases e'
  rw [d] at d'
  injection d' with d1 _
  have : its = its' := by simpa using congrArg Array.toList d1
  subst this
  exact r.inj r'
end

/-! ### another wish about exceptions -/
abbrev Cx.wish (X : Cx) (E : Value → Shared → Prop) : Cx := { X with xe := E }
/-- no exception leaves -/
abbrev Cx.nox (X : Cx) : Cx := X.wish fun _ _ => False
theorem Cx.Ok.wish {X : Cx} (ok : X.Ok) (E : Value → Shared → Prop) : (X.wish E).Ok :=
  ⟨ok.mod, ok.kind, ok.glob, ok.blt, ok.above, ok.inj, ok.has, ok.cab, ok.hd, ok.frames, ok.stk, ok.exf, ok.bs, ok.bsz, ok.noex, ok.exfs, ok.funs, ok.frf⟩
theorem Cx.Ok.unwish {X : Cx} {E : Value → Shared → Prop} (ok : (X.wish E).Ok) : X.Ok :=
  ⟨ok.mod, ok.kind, ok.glob, ok.blt, ok.above, ok.inj, ok.has, ok.cab, ok.hd, ok.frames, ok.stk, ok.exf, ok.bs, ok.bsz, ok.noex, ok.exfs, ok.funs, ok.frf⟩
section
variable {X : Cx} {pins : List (Addr × Obj)} {σ : St} {H : Hp} {s : Shared} {E : Value → Shared → Prop}
theorem Inv.wish (I : Inv X pins σ H s) (E : Value → Shared → Prop) : Inv (X.wish E) pins σ H s := ⟨I.ok.wish E, I.os, I.bare, I.base, I.loc, I.cell, I.free, I.freeC, I.pin, I.hok, I.len⟩
theorem Inv.unwish (I : Inv (X.wish E) pins σ H s) : Inv X pins σ H s := ⟨I.ok.unwish, I.os, I.bare, I.base, I.loc, I.cell, I.free, I.freeC, I.pin, I.hok, I.len⟩
theorem SP.unwish {D : Ends} {f : Flow} {s' : Shared} (h : SP (X.wish E) pins D f s') : SP X pins D f s' := by
  cases f with
  | next => obtain ⟨σ', H', I, q⟩ := h; exact ⟨σ', H', I.unwish, q⟩
  | brk => obtain ⟨σ', H', I, q⟩ := h; exact ⟨σ', H', I.unwish, q⟩
  | cont => obtain ⟨σ', H', I, q⟩ := h; exact ⟨σ', H', I.unwish, q⟩
  | ret u => obtain ⟨v, σ', H', I, r, q⟩ := h; exact ⟨v, σ', H', I.unwish, r, q⟩
theorem PSs.nox {st : List Stmt} {t : TS} (h : PSs X.nox st t) : PSs X st t := fun pins s σ H D I hw =>
  wpAny_mono (h pins s σ H D (I.wish _) hw) (fun _ _ q => q.unwish) fun _ _ z => False.elim z
end

/-! ### blocks and small statements -/
section
variable {X : Cx} {st : Stmt} {rest : List Stmt} {t u : TS} {e : Expr} {te : TE} {pos : Pos}
def tNext : TS := fun D σ H => D.nx σ H
def tSeq (t u : TS) : TS := fun D σ H => t { D with nx := u D } σ H
theorem pss_nil : PSs X [] tNext := fun _ _ σ H _ I h => wpAny_execs_nil ⟨σ, H, I, h⟩
theorem pss_cons (h1 : PS X st t) (h2 : PSs X rest u) : PSs X (st :: rest) (tSeq t u) := by
  intro pins s σ H D I h
  refine wpAny_execs_cons (thn (h1 pins s σ H { D with nx := u D } I h) fun f s1 q => ?_)
  cases f with
  | next =>
    obtain ⟨σ', H', I', q⟩ := q
    exact h2 pins s1 σ' H' D I' q
  | ret v => exact q
  | brk => exact q
  | cont => exact q
theorem pss_one (h1 : PS X st t) : PSs X [st] t := by
  intro pins s σ H D I h
  refine wpAny_execs_cons (thn (h1 pins s σ H D I h) fun f s1 q => ?_)
  cases f with
  | next => exact wpAny_execs_nil q
  | ret v => exact q
  | brk => exact q
  | cont => exact q
/-- in a def's body nothing is shown -/
theorem Inv.quiet {pins : List (Addr × Obj)} {σ : St} {H : Hp} {s : Shared} (I : Inv X pins σ H s) : interactive X.env = false := by simp [interactive, I.ok.kind]
/-- an expression whose value is dropped -/
def tDrop (te : TE) : TS := fun D σ H => te σ H fun _ H1 => D.nx σ H1
theorem ps_expr (he : PE X e te) (hs : swapsWith e none pos.line X.env = pure false := by rfl) : PS X (.Expr e pos) (tDrop te) := by
  intro pins s σ H D I h
  exact wpAny_Expr_any (thn (he pins s σ H _ I h) fun v s1 ⟨x, H1, I1, r1, q1⟩ => ⟨σ, H1, I1, q1⟩) I.quiet hs
def tRet (te : TE) : TS := fun D σ H => te σ H D.rt
theorem ps_ret (he : PE X e te) : PS X (.Return (some e) pos) (tRet te) := by
  intro pins s σ H D I h
  exact wpAny_Return_some (thn (he pins s σ H _ I h) fun v s1 ⟨x, H1, I1, r1, q1⟩ => ⟨x, σ, H1, I1, r1, q1⟩)
def tIfS (c : TT) (t u : TS) : TS := fun D σ H => c σ H fun b H1 => if b = true then t D σ H1 else u D σ H1
theorem ps_if {c : Expr} {a b : List Stmt} {tc : TT} (hc : PT X c tc) (ha : PSs X a t) (hb : PSs X b u) : PS X (.If c a b pos) (tIfS tc t u) := by
  intro pins s σ H D I h
  refine wpAny_If (thn (hc pins s σ H _ I h) fun d s1 ⟨H1, I1, q1⟩ => ?_)
  cases d with
  | true => exact ha pins s1 σ H1 D I1 q1
  | false => exact hb pins s1 σ H1 D I1 q1
end

/-! ### targets -/
abbrev TG := V → St → Hp → (St → Hp → Prop) → Prop
abbrev TGs := List V → St → Hp → (St → Hp → Prop) → Prop
def PG (X : Cx) (target : Expr) (t : TG) : Prop :=
  ∀ (pins : List (Addr × Obj)) (s : Shared) (σ : St) (H : Hp) (v : V) (u : Value) (Q : St → Hp → Prop), Inv X pins σ H s → RelV v u → t v σ H Q →
    wpAny (model X.prog X.w) X.A (assign target X.env u) (fun _ s' => ∃ σ' H', Inv X pins σ' H' s' ∧ Q σ' H') X.xe s
/-- several targets, one after another -/
def PGs (X : Cx) (ts : List Expr) (t : TGs) : Prop :=
  ∀ (pins : List (Addr × Obj)) (s : Shared) (σ : St) (H : Hp) (vs : List V) (us : List Value) (Q : St → Hp → Prop), Inv X pins σ H s → Vals vs us → t vs σ H Q →
    wpAny (model X.prog X.w) X.A (assignInOrder ((assignEach ts X.env).map (·.2)) us) (fun _ s' => ∃ σ' H', Inv X pins σ' H' s' ∧ Q σ' H') X.xe s
/-- o[i] = v, by values -/
abbrev TSet := V → V → V → Hp → (Hp → Prop) → Prop
def PSet (X : Cx) (t : TSet) : Prop :=
  ∀ (pins : List (Addr × Obj)) (s : Shared) (σ : St) (H : Hp) (o i v : V) (ov iv u : Value) (Q : Hp → Prop), Inv X pins σ H s → RelV o ov → RelV i iv → RelV v u → t o i v H Q →
    wpAny (model X.prog X.w) X.A (setItem ov iv u) (fun _ s' => ∃ H', Inv X pins σ H' s' ∧ Q H') X.xe s
section
variable {X : Cx} {pos : Pos}
def gName (i : Nat) : TG := fun v σ H Q => Q (σ.set i (some v)) H
theorem pg_name {i : Nat} {x : Str} (hN : X.N.Nodup) (hi : X.N[i]? = some x) (hx : Loc X.env.scope x) (hf : X.fn x = true ∨ X.env.scope.names.lookup x = some .local := by first | exact .inl rfl | exact .inr rfl | assumption) : PG X (.Name x pos) (gName i) := by
  intro pins s σ H v u Q I r h
  exact wpAny_assign_Name (store_ok I hN hi hx r (fun s' I' => ⟨_, H, I', h⟩) hf)
def gNil : TGs := fun vs σ H Q => vs = [] ∧ Q σ H
def gCons (t : TG) (u : TGs) : TGs := fun vs σ H Q => ∃ v r, vs = v :: r ∧ t v σ H fun σ' H' => u r σ' H' Q
theorem pgs_nil : PGs X [] gNil := by
  intro pins s σ H vs us Q I r h
  obtain ⟨e, h⟩ := h
  subst e
  cases r
  exact assignInOrder_nil ⟨σ, H, I, h⟩
theorem pgs_cons {e : Expr} {es : List Expr} {t : TG} {u : TGs} (h1 : PG X e t) (h2 : PGs X es u)
    (hs : (assignEach (e :: es) X.env).map (·.2) = assign e X.env :: (assignEach es X.env).map (·.2) := by rfl) : PGs X (e :: es) (gCons t u) := by
  intro pins s σ H vs us Q I r h
  obtain ⟨v, vr, e1, h⟩ := h
  subst e1
  cases r with
  | cons r rr =>
    rw [hs]
    refine assignInOrder_cons (thn (h1 pins s σ H _ _ _ I r h) fun _ s1 ⟨σ1, H1, I1, q1⟩ => ?_)
    exact h2 pins s1 σ1 H1 _ _ Q I1 rr q1
/-- (a, b, ..) = a tuple of that length -/
def gTup (K : PySem.W.Frag) (n : Nat) (t : TGs) : TG := fun v σ H Q => ∃ a xs, v = .ref a ∧ SqT K H a xs ∧ xs.length = n ∧ t xs σ H Q
theorem pg_tup {es : List Expr} {k : Nat} {t : TGs} {n : Nat} (hc : X.calm = true) (h : PGs X es t)
    (hn : (assignEach es X.env).length = n := by rfl) (hst : (assignEach es X.env).findIdx? (·.1) = none := by rfl) : PG X (.Tuple es k pos) (gTup X.K n t) := by
  intro pins s σ H v u Q I r hw
  obtain ⟨a, xs, e1, hq, hl, hw⟩ := hw
  subst e1
  cases r
  obtain ⟨its, rv, ht, hz⟩ := I.tuple hq
  refine assign_Tuple_tuple (I.ok.hd hc) ht (by simp [hn, ← hl, rv.length]) hst fun h' hx => ?_
  have I1 : Inv X pins σ H { s with heap := h' } := I.kept (t' := s.toks) fun b o e => hx b o (Nat.ne_of_lt (Heap.lt_size e)) e
  exact h pins _ σ H xs _ Q I1 (by simpa using rv) hw
/-- o[i] = .. -/
def gSub (to ti : TE) (t : TSet) : TG := fun v σ H Q => to σ H fun o H1 => ti σ H1 fun i H2 => t o i v H2 fun H3 => Q σ H3
theorem pg_sub {o i : Expr} {to ti : TE} {t : TSet} (ho : PE X o to) (hi : PE X i ti) (hs : PSet X t)
    (ha : ∀ v, assign (.Subscript o i pos) X.env v = (do
      let ov ← holding [v] (eval o X.env)
      let iv ← holding [v, ov] (eval i X.env)
      standAt pos
      holding [v, ov, iv] (setItem ov iv v)
      release [v, ov, iv] []) := by intro _; rfl) : PG X (.Subscript o i pos) (gSub to ti t) := by
  intro pins s σ H v u Q I r h
  rw [ha]
  refine wpAny_bind (wpAny_holding (thn (ho pins s σ H _ I h) fun ov s1 ⟨x, H1, I1, r1, q1⟩ => ?_))
  refine wpAny_bind (wpAny_holding (thn (hi pins s1 σ H1 _ I1 q1) fun iv s2 ⟨y, H2, I2, r2, q2⟩ => ?_))
  refine wpAny_bind (wpAny_standAt (wpAny_bind (wpAny_holding (thn (hs pins s2 σ H2 x y v ov iv u _ I2 r1 r2 r q2) fun _ s3 ⟨H3, I3, q3⟩ => ?_))))
  exact wpAny_release ⟨σ, H3, I3, q3⟩
/-- target = value -/
def tAsg (te : TE) (g : TG) : TS := fun D σ H => te σ H fun x H1 => g x σ H1 D.nx
theorem ps_asg {tg e : Expr} {te : TE} {g : TG} (he : PE X e te) (hg : PG X tg g) (hs : swapsWithSole [tg] e pos.line X.env = pure false := by rfl) (hw : swappedStores [tg] e X.env = pure none := by rfl)
    (h1 : (assignEach [tg] X.env).map (·.2) = [assign tg X.env] := by rfl) : PS X (.Assign [tg] e pos) (tAsg te g) := by
  intro pins s σ H D I h
  refine wpAny_Assign_stores (thn (he pins s σ H _ I h) fun v s1 ⟨x, H1, I1, r1, q1⟩ => ?_) hs hw
  rw [h1]
  exact thn (hg pins s1 σ H1 x v _ I1 r1 q1) fun _ s2 q => q
/-- name = value -/
theorem ps_set {i : Nat} {x : Str} {e : Expr} {te : TE} {pos' : Pos} (hN : X.N.Nodup) (hi : X.N[i]? = some x) (hx : Loc X.env.scope x) (he : PE X e te) (hs : swapsWith e (some (.Name x pos')) pos.line X.env = pure false := by rfl) (hf : X.fn x = true ∨ X.env.scope.names.lookup x = some .local := by first | exact .inl rfl | exact .inr rfl | assumption) :
    PS X (.Assign [.Name x pos'] e pos) (tAsg te (gName i)) := by
  intro pins s σ H D I h
  refine wpAny_Assign_Name (thn (he pins s σ H _ I h) fun v s1 ⟨y, H1, I1, r1, q1⟩ => ?_) hs
  exact store_ok I1 hN hi hx r1 (fun s2 I2 => ⟨_, H1, I2, q1⟩) hf
end

/-! ### while -/
section
variable {X : Cx} {pos : Pos}
/-- the invariant W with its measure -/
def tWhile (c : TT) (tb : TS) : TS := fun D σ H => ∃ W : Nat → St → Hp → Prop, (∃ m, W m σ H) ∧ ∀ m σ H, W m σ H →
  c σ H fun b H1 => if b = true then ∃ N : St → Hp → Prop, (∀ σ' H', N σ' H' → ∃ m', m' < m ∧ W m' σ' H') ∧ tb { D with nx := N, ct := N, bk := D.nx } σ H1 else D.nx σ H1
theorem ps_while {c : Expr} {body : List Stmt} {tc : TT} {tb : TS} (hp : PassesOwn (model X.prog X.w) X.A X.env X.xe) (hc : PT X c tc) (hb : PSs X body tb) : PS X (.While c body [] pos) (tWhile tc tb) := by
  intro pins s σ H D I h
  obtain ⟨W, ⟨m0, w0⟩, turn⟩ := h
  refine wpAny_While (codeAny_whileLoop (fun n s' => ∃ σ' H', Inv X pins σ' H' s' ∧ W n σ' H') ?_ m0 ⟨σ, H, I, w0⟩)
  rintro n s1 ⟨σ1, H1, I1, w1⟩
  refine wpAny_passesOwn hp (thn (hc pins s1 σ1 H1 _ I1 (turn n σ1 H1 w1)) fun b s2 ⟨H2, I2, q2⟩ => ?_)
  cases b with
  | true =>
    obtain ⟨N, hN, q2⟩ := q2
    rw [if_pos rfl]
    refine wpAny_passesOwn hp (thn (hb pins s2 σ1 H2 _ I2 q2) fun f s3 q3 => ?_)
    cases f with
    | next =>
      obtain ⟨σ3, H3, I3, n3⟩ := q3
      obtain ⟨m', hm, w3⟩ := hN σ3 H3 n3
      exact ⟨m', hm, σ3, H3, I3, w3⟩
    | cont =>
      obtain ⟨σ3, H3, I3, n3⟩ := q3
      obtain ⟨m', hm, w3⟩ := hN σ3 H3 n3
      exact ⟨m', hm, σ3, H3, I3, w3⟩
    | brk => exact q3
    | ret v => exact q3
  | false =>
    rw [if_neg Bool.false_ne_true]
    exact wpAny_execs_nil ⟨σ1, H2, I2, q2⟩
end

/-! ### what a loop or a comprehension walks -/
/-- at turn i: it yields x (the heap may grow), or it stops -/
structure It where
  go : Nat → Hp → Prop
  yld : Nat → Hp → V → Hp → Prop
  stop : Nat → Hp → Prop
/-- the iterator's own objects may turn: they are not the frame's, not pinned, younger than the entry (or a comprehension's own) -/
def FpOk (X : Cx) (pins : List (Addr × Obj)) (H : Hp) (b : Addr) : Prop :=
  H b = none ∧ b ≠ X.env.locals ∧ b ∉ X.fs ∧ (b ∈ X.ex ∨ X.s₀.heap.objs.size ≤ b) ∧ (∀ x c, X.env.cells.lookup x = some c → c ≠ b) ∧ ∀ p ∈ X.pn ++ pins, p.1 ≠ b
theorem Inv.fpOk {X : Cx} {pins : List (Addr × Obj)} {σ : St} {H H' : Hp} {s : Shared} {b : Addr} (I : Inv X pins σ H s) (hb : s.heap.objs.size ≤ b) (hn : H' b = none) : FpOk X pins H' b := by
  refine ⟨hn, Nat.ne_of_gt (Nat.lt_of_lt_of_le I.lt hb), I.nofs hb, .inr (Nat.le_trans I.sz hb), fun x c e z => ?_, fun p hp z => ?_⟩
  · obtain ⟨v, q⟩ := I.cell x c e
    exact absurd (Nat.lt_of_lt_of_le q.lt (by rw [z]; exact hb)) (Nat.lt_irrefl _)
  · exact absurd (Nat.lt_of_lt_of_le (Heap.lt_size (I.pin p hp).1) (by rw [z]; exact hb)) (Nat.lt_irrefl _)
structure Turn (P : Program) (w : World) (K : PySem.W.Frag) (tg : Expr) (J : It) (fp : List Addr) (it : Addr) (tn : Nat → Heap → Prop) : Prop where
  mem : it ∈ fp
  obj : ∀ i h, tn i h → ∀ b ∈ fp, ∃ o, h.get? b = some o ∧ ∀ v, o.data ≠ .cell v
  keep : ∀ i h h', tn i h → (∀ b ∈ fp, ∀ o, h.get? b = some o → h'.get? b = some o) → tn i h'
  item : ∀ (X : Cx), X.prog = P → X.w = w → X.K = K → X.calm = true → ∀ (i : Nat) (pins : List (Addr × Obj)) (s : Shared) (σ : St) (H : Hp) (E : Value → Shared → Prop), Inv X pins σ H s → (∀ b ∈ fp, FpOk X pins H b) → tn i s.heap → J.go i H →
    wpAny (model P w) X.A (pyNext (.ref it)) (fun r s1 => ∃ u, r = some u ∧
      wpAny (model P w) X.A (letOwnedTupleGo tg (.ref it) u) (fun _ s2 => ∃ x H', Inv X pins σ H' s2 ∧ RelV x u ∧ J.yld i H x H' ∧ tn (i + 1) s2.heap ∧ ∀ b ∈ fp, H' b = none) E s1) E s
  done : ∀ (X : Cx), X.prog = P → X.w = w → X.K = K → X.calm = true → ∀ (i : Nat) (pins : List (Addr × Obj)) (s : Shared) (σ : St) (H : Hp) (E : Value → Shared → Prop), Inv X pins σ H s → (∀ b ∈ fp, FpOk X pins H b) → tn i s.heap → J.stop i H →
    wpAny (model P w) X.A (pyNext (.ref it)) (fun r s1 => r = none ∧ Inv X pins σ H s1) E s
  self : ∀ (A : Around) (i : Nat) (s : Shared) (Q : Value → Shared → Prop) (E : Value → Shared → Prop), tn i s.heap → Q (.ref it) s → wpAny (model P w) A (pyIter (.ref it)) Q E s
abbrev TI := St → Hp → (It → Hp → Prop) → Prop
/-- an iterator has come -/
def PIE (X : Cx) (pins : List (Addr × Obj)) (σ : St) (tg : Expr) (R : It → Hp → Prop) (itv : Value) (s2 : Shared) : Prop :=
  ∃ (it : Addr) (fp : List Addr) (tn : Nat → Heap → Prop) (J : It) (H' : Hp), itv = .ref it ∧ Inv X pins σ H' s2 ∧ Turn X.prog X.w X.K tg J fp it tn ∧ tn 0 s2.heap ∧ (∀ b ∈ fp, FpOk X pins H' b) ∧ R J H'
def PI (X : Cx) (tg iter : Expr) (wi : TI) : Prop :=
  ∀ (pins : List (Addr × Obj)) (s : Shared) (σ : St) (H : Hp) (R : It → Hp → Prop), Inv X pins σ H s → wi σ H R →
    wpAny (model X.prog X.w) X.A (eval iter X.env) (fun v s1 => wpAny (model X.prog X.w) X.A (pyIter v) (PIE X pins σ tg R) X.xe s1) X.xe s

/-- the step ahead of the store is nothing for an iterator that keeps no tuple -/
theorem go_of {M : Model} {A : Around} {E : Value → Shared → Prop} {s : Shared} {tg : Expr} {it : Addr} {u : Value} {o : Obj} {n : String} {vs : Array Value} {Q : Unit → Shared → Prop} (ho : s.heap.get? it = some o) (hc : o.cls = .type n) (hd : o.data = .fields vs)
    (hn : ["enumerate", "zip", "dict_itemiterator", "dict_reverseitemiterator", "odict_iterator", "itertools.zip_longest", "itertools.pairwise"].contains n = false) (hQ : Q () s) : wpAny M A (letOwnedTupleGo tg (.ref it) u) Q E s := by
  unfold letOwnedTupleGo
  cases tg <;> first
    | exact wpAny_pure hQ
    | (cases u <;> first
        | exact wpAny_pure hQ
        | (refine wpAny_bind (wpAny_load ho ?_)
           rw [hc, hd]
           show wpAny M A (if (["enumerate", "zip", "dict_itemiterator", "dict_reverseitemiterator", "odict_iterator", "itertools.zip_longest", "itertools.pairwise"].contains n && vs[0]? == some (rawInt _)) = true then _ else _) Q E s
           rw [if_neg (by intro h; rw [hn, Bool.false_and] at h; cases h)]
           exact wpAny_pure hQ))

/-- the list at a, as it stands at each turn (a loop may append to it) -/
def Itl (K : PySem.W.Frag) (a : Addr) : It :=
  ⟨fun i H => ∃ xs x, SqL K H a xs ∧ xs[i]? = some x, fun i H x H' => H' = H ∧ ∀ xs, SqL K H a xs → xs[i]? = some x, fun i H => ∃ xs, SqL K H a xs ∧ xs.length ≤ i⟩
def Itt (K : PySem.W.Frag) (a : Addr) : It :=
  ⟨fun i H => ∃ xs x, SqT K H a xs ∧ xs[i]? = some x, fun i H x H' => H' = H ∧ ∀ xs, SqT K H a xs → xs[i]? = some x, fun i H => ∃ xs, SqT K H a xs ∧ xs.length ≤ i⟩
/-- lo, lo + 1, .. (n of them) -/
def Itr (lo : Int) (n : Nat) : It := ⟨fun i _ => i < n, fun i H x H' => H' = H ∧ x = .int (lo + i), fun i _ => n ≤ i⟩
theorem turn_list {P : Program} {w : World} {K : PySem.W.Frag} {tg : Expr} (a it : Addr) : Turn P w K tg (Itl K a) [it] it (fun i h => h.IsListIter it a i) where
  mem := by simp
  obj := fun i h st b hb => by
    have e : b = it := by simpa using hb
    subst e
    obtain ⟨o, e, c, d⟩ := st
    exact ⟨o, e, fun v z => by rw [d] at z; cases z⟩
  keep := fun i h h' st k => st.at fun o e => k it (by simp) o e
  item := by
    intro X hP hw hK hc i pins s σ H E I hf st hg
    subst hP hw hK
    obtain ⟨xs, x, hq, hx⟩ := hg
    obtain ⟨its, rv, p, hz⟩ := I.list hq
    obtain ⟨u, hu, ru⟩ := rv.get hx
    obtain ⟨f0, f1, f2, f3, f4, f5⟩ := hf it (by simp)
    refine wpAny_pyNext_list_item st p.isList (x := u) (by simpa using hu) fun h' st' sb => ?_
    have I1 : Inv X pins σ H { s with heap := h' } := I.turned (t' := s.toks) (fun b o hb e => (sb.2 b hb).trans e) f0 f1 f3 f4 f5
    obtain ⟨o, e, c, d⟩ := id st'
    exact ⟨u, rfl, go_of (s := { s with heap := h' }) e c d (by decide) ⟨x, H, I1, ru, ⟨rfl, fun ys hy => by rw [I.list_inj hy hq]; exact hx⟩, st', fun b hb => (hf b hb).1⟩⟩
  done := by
    intro X hP hw hK hc i pins s σ H E I hf st hg
    subst hP hw hK
    obtain ⟨xs, hq, hx⟩ := hg
    obtain ⟨its, rv, p, hz⟩ := I.list hq
    obtain ⟨f0, f1, f2, f3, f4, f5⟩ := hf it (by simp)
    have hl := rv.length
    exact wpAny_pyNext_list_end (I.ok.hd hc) st p.isList (by simp; omega) fun h' eb => ⟨rfl, I.turned (t' := s.toks) (fun b o hb e => eb b o hb e) f0 f1 f3 f4 f5⟩
  self := fun _ _ _ _ _ st h => wpAny_pyIter_listiter st h
theorem turn_tuple {P : Program} {w : World} {K : PySem.W.Frag} {tg : Expr} (a it : Addr) : Turn P w K tg (Itt K a) [it] it (fun i h => h.IsTupleIter it a i) where
  mem := by simp
  obj := fun i h st b hb => by
    have e : b = it := by simpa using hb
    subst e
    obtain ⟨o, e, c, d⟩ := st
    exact ⟨o, e, fun v z => by rw [d] at z; cases z⟩
  keep := fun i h h' st k => st.at fun o e => k it (by simp) o e
  item := by
    intro X hP hw hK hc i pins s σ H E I hf st hg
    subst hP hw hK
    obtain ⟨xs, x, hq, hx⟩ := hg
    obtain ⟨its, rv, p, hz⟩ := I.tuple hq
    obtain ⟨u, hu, ru⟩ := rv.get hx
    obtain ⟨f0, f1, f2, f3, f4, f5⟩ := hf it (by simp)
    refine wpAny_pyNext_tuple_item st (show s.heap.IsTuple a its.toArray from p) (x := u) (by simpa using hu) fun h' st' sb => ?_
    have I1 : Inv X pins σ H { s with heap := h' } := I.turned (t' := s.toks) (fun b o hb e => (sb.2 b hb).trans e) f0 f1 f3 f4 f5
    obtain ⟨o, e, c, d⟩ := id st'
    exact ⟨u, rfl, go_of (s := { s with heap := h' }) e c d (by decide) ⟨x, H, I1, ru, ⟨rfl, fun ys hy => by rw [I.tuple_inj hy hq]; exact hx⟩, st', fun b hb => (hf b hb).1⟩⟩
  done := by
    intro X hP hw hK hc i pins s σ H E I hf st hg
    subst hP hw hK
    obtain ⟨xs, hq, hx⟩ := hg
    obtain ⟨its, rv, p, hz⟩ := I.tuple hq
    obtain ⟨f0, f1, f2, f3, f4, f5⟩ := hf it (by simp)
    have hl := rv.length
    exact wpAny_pyNext_tuple_end (I.ok.hd hc) st (show s.heap.IsTuple a its.toArray from p) (by simp; omega) fun h' eb => ⟨rfl, I.turned (t' := s.toks) (fun b o hb e => eb b o hb e) f0 f1 f3 f4 f5⟩
  self := fun _ _ _ _ _ st h => wpAny_pyIter_tupleiter st h
theorem turn_range {P : Program} {w : World} {K : PySem.W.Frag} {tg : Expr} (it : Addr) (lo : Int) (n : Nat) : Turn P w K tg (Itr lo n) [it] it (fun i h => IsRangeIter h it (lo + (i : Nat) * 1) ((n : Int) - (i : Nat)) 1) where
  mem := by simp
  obj := fun i h st b hb => by
    have e : b = it := by simpa using hb
    subst e
    exact ⟨_, st, fun v z => by
      have z' : Data.fields _ = Data.cell v := z
      cases z'⟩
  keep := fun i h h' st k => k it (by simp) _ st
  item := by
    intro X hP hw hK hc i pins s σ H E I hf st hg
    subst hP hw hK
    obtain ⟨f0, f1, f2, f3, f4, f5⟩ := hf it (by simp)
    have W := Walks.range (prog := X.prog) (w := X.w) (I.ok.hd hc) it lo 1 n
    refine W.item i s _ _ hg st fun v h' tk hv st' kk => ?_
    obtain ⟨t, rfl⟩ := hv
    have I1 : Inv X pins σ H { s with heap := h', toks := tk } := I.turned (fun b o hb e => kk b o (by simpa using hb) e) f0 f1 f3 f4 f5
    refine ⟨_, rfl, go_of (s := { s with heap := h', toks := tk }) (n := "range_iterator") st' rfl rfl (by decide) ⟨.int (lo + i), H, I1, ⟨t, ?_⟩, ⟨rfl, rfl⟩, st', fun b hb => (hf b hb).1⟩⟩
    rw [Int.mul_one]
  done := by
    intro X hP hw hK hc i pins s σ H E I hf st hg
    subst hP hw hK
    obtain ⟨f0, f1, f2, f3, f4, f5⟩ := hf it (by simp)
    exact wpAny_pyNext_range_end (I.ok.hd hc) st (by have : n ≤ i := hg; omega) fun h' eb => ⟨rfl, I.turned (t' := s.toks) (fun b o hb e => eb b o hb e) f0 f1 f3 f4 f5⟩
  self := fun _ _ _ _ _ st h => wpAny_pyIter_rangeiter st h
end L2

namespace L2
open PySem PySem.Spec PyProof.Rows
section
variable {X : Cx} {tg : Expr}
def iList (K : PySem.W.Frag) (tl : TE) : TI := fun σ H R => tl σ H fun x H1 => ∃ a, x = .ref a ∧ (∃ xs, SqL K H1 a xs) ∧ R (Itl K a) H1
def iTup (K : PySem.W.Frag) (tl : TE) : TI := fun σ H R => tl σ H fun x H1 => ∃ a, x = .ref a ∧ (∃ xs, SqT K H1 a xs) ∧ R (Itt K a) H1
theorem pi_list {l : Expr} {tl : TE} (hl : PE X l tl) : PI X tg l (iList X.K tl) := by
  intro pins s σ H R I h
  refine thn (hl pins s σ H _ I h) fun v s1 ⟨x, H1, I1, r1, q1⟩ => ?_
  obtain ⟨a, e, ⟨xs, hq⟩, q⟩ := q1
  subst e
  cases r1
  obtain ⟨its, rv, p, hz⟩ := I1.list hq
  refine wpAny_pyIter_list p.isList ?_
  refine ⟨s1.heap.objs.size, [s1.heap.objs.size], _, _, H1, rfl, I1.kept (t' := s1.toks) fun b o e => Heap.get?_push_of_some _ e, turn_list a _, ⟨_, Heap.get?_push_size _ rfl, rfl, rfl⟩, fun b hb => ?_, q⟩
  have e : b = s1.heap.objs.size := by simpa using hb
  subst e
  exact I1.fpOk (Nat.le_refl _) (I1.hok.fresh (Nat.le_refl _))
theorem pi_tup {l : Expr} {tl : TE} (hl : PE X l tl) : PI X tg l (iTup X.K tl) := by
  intro pins s σ H R I h
  refine thn (hl pins s σ H _ I h) fun v s1 ⟨x, H1, I1, r1, q1⟩ => ?_
  obtain ⟨a, e, ⟨xs, hq⟩, q⟩ := q1
  subst e
  cases r1
  obtain ⟨its, rv, p, hz⟩ := I1.tuple hq
  refine wpAny_pyIter_tuple (show s1.heap.IsTuple a its.toArray from p) ?_
  refine ⟨s1.heap.objs.size, [s1.heap.objs.size], _, _, H1, rfl, I1.kept (t' := s1.toks) fun b o e => Heap.get?_push_of_some _ e, turn_tuple a _, ⟨_, Heap.get?_push_size _ rfl, rfl, rfl⟩, fun b hb => ?_, q⟩
  have e : b = s1.heap.objs.size := by simpa using hb
  subst e
  exact I1.fpOk (Nat.le_refl _) (I1.hok.fresh (Nat.le_refl _))
/-- a range object just made, walked -/
theorem range_it {pins : List (Addr × Obj)} {σ : St} {H : Hp} {s : Shared} {R : It → Hp → Prop} {E : Value → Shared → Prop} {lo hi : Int} {t u v : Tok} {tk : Nat} (I : Inv X pins σ H s) (h1 : -(2 ^ 62) ≤ lo) (h2 : lo < 2 ^ 62) (h3 : -(2 ^ 62) ≤ hi) (h4 : hi < 2 ^ 62)
    (q : R (Itr lo (hi - lo).toNat) H) : wpAny (model X.prog X.w) X.A (pyIter (.ref s.heap.objs.size)) (PIE X pins σ tg R) E { s with heap := s.heap.push { cls := .type "range", data := .fields #[.int lo t, .int hi u, .int 1 v] }, toks := tk } := by
  refine wpAny_pyIter_range (IsRange.new ..) (small_one h1 h2 h3 h4) ?_
  have I1 : Inv X pins σ H { s with heap := s.heap.push { cls := .type "range", data := .fields #[.int lo t, .int hi u, .int 1 v] }, toks := tk } := I.kept fun b o e => Heap.get?_push_of_some _ e
  refine ⟨(s.heap.push { cls := .type "range", data := .fields #[.int lo t, .int hi u, .int 1 v] }).objs.size, [(s.heap.push { cls := .type "range", data := .fields #[.int lo t, .int hi u, .int 1 v] }).objs.size], _, _, H, rfl,
    I1.kept (t' := tk) fun b o e => Heap.get?_push_of_some _ e, turn_range _ lo (hi - lo).toNat, ?_, fun b hb => ?_, q⟩
  · have e1 : lo + ((0 : Nat) : Int) * 1 = lo := by simp
    have e2 : (((hi - lo).toNat : Nat) : Int) - ((0 : Nat) : Int) = Builtin.Range.rangeSize lo hi 1 := by rw [rangeSize_one]; split <;> omega
    show IsRangeIter _ _ (lo + ((0 : Nat) : Int) * 1) ((((hi - lo).toNat : Nat) : Int) - ((0 : Nat) : Int)) 1
    rw [e1, e2]
    exact Heap.get?_push_size _ rfl
  · have e : b = (s.heap.push { cls := .type "range", data := .fields #[.int lo t, .int hi u, .int 1 v] }).objs.size := by simpa using hb
    subst e
    exact I1.fpOk (Nat.le_refl _) (I1.hok.fresh (Nat.le_refl _))
def iRng1 (ta : TA) : TI := fun σ H R => ta σ H fun vs H1 => ∃ j : Int, vs = [.int j] ∧ -(2 ^ 62) ≤ j ∧ j < 2 ^ 62 ∧ R (Itr 0 j.toNat) H1
def iRng2 (ta : TA) : TI := fun σ H R => ta σ H fun vs H1 => ∃ i j : Int, vs = [.int i, .int j] ∧ (-(2 ^ 62) ≤ i ∧ i < 2 ^ 62 ∧ -(2 ^ 62) ≤ j ∧ j < 2 ^ 62) ∧ R (Itr i (j - i).toNat) H1
theorem pi_range1 {a : Expr} {ta : TA} {p pos : Pos} (hg : Gl X "range") (hm : X.mg "range" = none) (ha : PA X [a] ta) (hs : starEach [a] X.env = [(false, eval a X.env)] := by rfl) : PI X tg (.Call (.Name "range" p) [a] [] pos) (iRng1 ta) := by
  intro pins s σ H R I h
  refine Call_ (ld_blt I hg hm boot_range (PyProof.Rows.callWith_type1 (thn (ha pos pins s σ H _ I h) fun us s1 ⟨vs, H1, I1, r1, q1⟩ => ?_) hs rfl))
  obtain ⟨j, e, q1, q2, q⟩ := q1
  subst e
  cases r1 with
  | cons r rr =>
    cases rr
    obtain ⟨t, rfl⟩ := r
    exact call_range_1 (range_it I1 (by omega) (by omega) q1 q2 (by simpa using q))
theorem pi_range2 {a b : Expr} {ta : TA} {p pos : Pos} (hg : Gl X "range") (hm : X.mg "range" = none) (ha : PA X [a, b] ta) (hs : starEach [a, b] X.env = [(false, eval a X.env), (false, eval b X.env)] := by rfl) (hs2 : starEach [b] X.env = [(false, eval b X.env)] := by rfl) :
    PI X tg (.Call (.Name "range" p) [a, b] [] pos) (iRng2 ta) := by
  intro pins s σ H R I h
  refine Call_ (ld_blt I hg hm boot_range (PyProof.Rows.callWith_type1 (thn (ha pos pins s σ H _ I h) fun us s1 ⟨vs, H1, I1, r1, q1⟩ => ?_) (by rw [hs, hs2]) (by rw [hs2]; rfl)))
  obtain ⟨i, j, e, ⟨q1, q2, q3, q4⟩, q⟩ := q1
  subst e
  cases r1 with
  | cons r rr =>
    cases rr with
    | cons r' rr =>
      cases rr
      obtain ⟨t, rfl⟩ := r
      obtain ⟨t', rfl⟩ := r'
      exact call_range_2 (range_it I1 q1 q2 q3 q4 q)

/-! ### for -/
/-- W: the invariant by the turn and a measure; N: what the body is to reach -/
def tFor (wi : TI) (g : TG) (tb : TS) : TS := fun D σ H => wi σ H fun J H1 => ∃ W : Nat → Nat → St → Hp → Prop, (∃ m, W 0 m σ H1) ∧ ∀ i m σ H, W i m σ H →
  (J.stop i H ∧ D.nx σ H) ∨ (J.go i H ∧ ∃ N : St → Hp → Prop, (∀ σ' H', N σ' H' → ∃ m', m' < m ∧ W (i + 1) m' σ' H') ∧ ∀ x H', J.yld i H x H' → g x σ H' fun σ2 H2 => tb { D with nx := N, ct := N, bk := D.nx } σ2 H2)
/-- the records at fp as they stand -/
def pinsAt (fp : List Addr) (h : Heap) : List (Addr × Obj) := fp.filterMap fun b => (h.get? b).map fun o => (b, o)
theorem mem_pinsAt {fp : List Addr} {h : Heap} {b : Addr} {o : Obj} (hb : b ∈ fp) (e : h.get? b = some o) : (b, o) ∈ pinsAt fp h := List.mem_filterMap.mpr ⟨b, hb, by rw [e]; rfl⟩
theorem of_pinsAt {fp : List Addr} {h : Heap} {p : Addr × Obj} (hp : p ∈ pinsAt fp h) : p.1 ∈ fp ∧ h.get? p.1 = some p.2 := by
  obtain ⟨b, hb, e⟩ := List.mem_filterMap.mp hp
  cases q : h.get? b with
  | none => rw [q] at e; cases e
  | some o =>
    rw [q] at e
    have e' : (b, o) = p := Option.some.inj e
    subst e'
    exact ⟨hb, q⟩
theorem Inv.pinned {pins : List (Addr × Obj)} {σ : St} {H : Hp} {s : Shared} {fp : List Addr} (I : Inv X pins σ H s) (hf : ∀ b ∈ fp, FpOk X pins H b) (ho : ∀ b ∈ fp, ∃ o, s.heap.get? b = some o ∧ ∀ v, o.data ≠ .cell v) : Inv X (pins ++ pinsAt fp s.heap) σ H s :=
  I.pins_of fun p hp => (List.mem_append.mp hp).elim (fun z => I.pin p (List.mem_append_right _ z)) fun z => by
    obtain ⟨hb, e⟩ := of_pinsAt z
    obtain ⟨f0, f1, f2, _⟩ := hf p.1 hb
    obtain ⟨o, e', d⟩ := ho p.1 hb
    rw [e] at e'; cases e'
    exact ⟨e, f0, f1, f2, d⟩
theorem Inv.unpinned {pins pl : List (Addr × Obj)} {σ : St} {H : Hp} {s : Shared} (I : Inv X (pins ++ pl) σ H s) : Inv X pins σ H s := I.pins_of fun p hp => I.pin p (List.mem_append_right _ (List.mem_append_left _ hp))
theorem ps_for {iter : Expr} {body : List Stmt} {wi : TI} {g : TG} {tb : TS} {pos : Pos} (hp : PassesOwn (model X.prog X.w) X.A X.env X.xe) (hc : X.calm = true) (hi : PI X tg iter wi) (hg : PG X tg g) (hb : PSs X body tb)
    (hs : ∀ x, foldedSetIterable iter X.env x = pure x := by intro _; rfl) : PS X (.For tg iter body [] pos) (tFor wi g tb) := by
  intro pins s σ H D I h
  refine wpAny_For (thn (hi pins s σ H _ I h) fun v s1 h1 => thn h1 fun itv s2 h2 => ?_) hs
  obtain ⟨it, fp, tn, J, H2, e, I2, T, st2, f2, W, ⟨m0, w0⟩, turn⟩ := h2
  subst e
  -- what stays true of the iterator's objects through the loop
  have stat : ∀ {H' : Hp}, (∀ b ∈ fp, H' b = none) → ∀ b ∈ fp, FpOk X pins H' b := fun hn b hb => ⟨hn b hb, (f2 b hb).2⟩
  refine codeAny_forLoop_any (fun n s' => ∃ i σ' H', Inv X pins σ' H' s' ∧ tn i s'.heap ∧ (∀ b ∈ fp, H' b = none) ∧ W i n σ' H') ?_ m0 ⟨0, σ, H2, I2, st2, fun b hb => (f2 b hb).1, w0⟩
  rintro n s3 ⟨i, σ3, H3, I3, st3, fr3, w3⟩
  rcases turn i n σ3 H3 w3 with ⟨stop, qn⟩ | ⟨go, N, hN, step⟩
  · refine wpAny_passesOwn hp (thn (T.done X rfl rfl rfl hc i pins s3 σ3 H3 X.xe I3 (stat fr3) st3 stop) fun r s4 ⟨hr, I4⟩ => ?_)
    subst hr
    exact wpAny_execs_nil ⟨σ3, H3, I4, qn⟩
  · refine wpAny_passesOwn hp (thn (T.item X rfl rfl rfl hc i pins s3 σ3 H3 X.xe I3 (stat fr3) st3 go) fun r s4 ⟨u, hr, h4⟩ => ?_)
    subst hr
    refine wpAny_passesOwn hp (thn h4 fun _ s5 ⟨x, H5, I5, r5, y5, st5, fr5⟩ => ?_)
    have I5' := I5.pinned (stat fr5) (T.obj _ _ st5)
    refine wpAny_passesOwn hp (thn (hg _ s5 σ3 H5 x u _ I5' r5 (step x H5 y5)) fun _ s6 ⟨σ6, H6, I6, q6⟩ => ?_)
    refine wpAny_passesOwn hp (thn (hb _ s6 σ6 H6 _ I6 q6) fun f s7 q7 => ?_)
    have again : ∀ {σ7 : St} {H7 : Hp}, Inv X (pins ++ pinsAt fp s5.heap) σ7 H7 s7 → N σ7 H7 → ∃ m, m < n ∧ ∃ i σ' H', Inv X pins σ' H' s7 ∧ tn i s7.heap ∧ (∀ b ∈ fp, H' b = none) ∧ W i m σ' H' := fun {σ7 H7} I7 n7 => by
      obtain ⟨m', hm, w7⟩ := hN σ7 H7 n7
      refine ⟨m', hm, i + 1, σ7, H7, I7.unpinned, T.keep _ _ _ st5 fun b hb o e => (I7.pin (b, o) (List.mem_append_right _ (List.mem_append_right _ (mem_pinsAt hb e)))).1, fun b hb => ?_, w7⟩
      obtain ⟨o, e, d⟩ := T.obj _ _ st5 b hb
      exact (I7.pin (b, o) (List.mem_append_right _ (List.mem_append_right _ (mem_pinsAt hb e)))).2.1
    cases f with
    | next => obtain ⟨σ7, H7, I7, n7⟩ := q7; exact again I7 n7
    | cont => obtain ⟨σ7, H7, I7, n7⟩ := q7; exact again I7 n7
    | brk => obtain ⟨σ7, H7, I7, q7⟩ := q7; exact ⟨σ7, H7, I7.unpinned, q7⟩
    | ret v => obtain ⟨x7, σ7, H7, I7, r7, q7⟩ := q7; exact ⟨x7, σ7, H7, I7.unpinned, r7, q7⟩
end

/-! ### the forms one uses -/
/-- over a list that the body leaves as it is -/
theorem for_list {K : PySem.W.Frag} {a : Addr} {xs : List V} {g : TG} {tb : TS} {D : Ends} {σ : St} {H : Hp} (Pv : Nat → St → Hp → Prop) (h0 : Pv 0 σ H) (hl : ∀ i σ H, i ≤ xs.length → Pv i σ H → SqL K H a xs)
    (hs : ∀ i x σ H, xs[i]? = some x → Pv i σ H → g x σ H fun σ2 H2 => tb { D with nx := Pv (i + 1), ct := Pv (i + 1), bk := D.nx } σ2 H2) (hd : ∀ σ H, Pv xs.length σ H → D.nx σ H) :
    ∃ W : Nat → Nat → St → Hp → Prop, (∃ m, W 0 m σ H) ∧ ∀ i m σ H, W i m σ H →
      ((Itl K a).stop i H ∧ D.nx σ H) ∨ ((Itl K a).go i H ∧ ∃ N : St → Hp → Prop, (∀ σ' H', N σ' H' → ∃ m', m' < m ∧ W (i + 1) m' σ' H') ∧ ∀ x H', (Itl K a).yld i H x H' → g x σ H' fun σ2 H2 => tb { D with nx := N, ct := N, bk := D.nx } σ2 H2) := by
  refine ⟨fun i m σ H => m = xs.length - i ∧ i ≤ xs.length ∧ Pv i σ H, ⟨xs.length, by simp, Nat.zero_le _, h0⟩, ?_⟩
  rintro i m σ H ⟨rfl, hi, p⟩
  have q := hl i σ H hi p
  by_cases hlt : i < xs.length
  · refine .inr ⟨⟨xs, xs[i], q, by simp [hlt]⟩, Pv (i + 1), fun σ' H' p' => ⟨xs.length - (i + 1), by omega, rfl, hlt, p'⟩, fun x H' y => ?_⟩
    obtain ⟨e, y⟩ := y
    subst e
    exact hs i x σ _ (y xs q) p
  · have e : i = xs.length := by omega
    subst e
    exact .inl ⟨⟨xs, q, Nat.le_refl _⟩, hd σ H p⟩
theorem for_tup {K : PySem.W.Frag} {a : Addr} {xs : List V} {g : TG} {tb : TS} {D : Ends} {σ : St} {H : Hp} (Pv : Nat → St → Hp → Prop) (h0 : Pv 0 σ H) (hl : ∀ i σ H, i ≤ xs.length → Pv i σ H → SqT K H a xs)
    (hs : ∀ i x σ H, xs[i]? = some x → Pv i σ H → g x σ H fun σ2 H2 => tb { D with nx := Pv (i + 1), ct := Pv (i + 1), bk := D.nx } σ2 H2) (hd : ∀ σ H, Pv xs.length σ H → D.nx σ H) :
    ∃ W : Nat → Nat → St → Hp → Prop, (∃ m, W 0 m σ H) ∧ ∀ i m σ H, W i m σ H →
      ((Itt K a).stop i H ∧ D.nx σ H) ∨ ((Itt K a).go i H ∧ ∃ N : St → Hp → Prop, (∀ σ' H', N σ' H' → ∃ m', m' < m ∧ W (i + 1) m' σ' H') ∧ ∀ x H', (Itt K a).yld i H x H' → g x σ H' fun σ2 H2 => tb { D with nx := N, ct := N, bk := D.nx } σ2 H2) := by
  refine ⟨fun i m σ H => m = xs.length - i ∧ i ≤ xs.length ∧ Pv i σ H, ⟨xs.length, by simp, Nat.zero_le _, h0⟩, ?_⟩
  rintro i m σ H ⟨rfl, hi, p⟩
  have q := hl i σ H hi p
  by_cases hlt : i < xs.length
  · refine .inr ⟨⟨xs, xs[i], q, by simp [hlt]⟩, Pv (i + 1), fun σ' H' p' => ⟨xs.length - (i + 1), by omega, rfl, hlt, p'⟩, fun x H' y => ?_⟩
    obtain ⟨e, y⟩ := y
    subst e
    exact hs i x σ _ (y xs q) p
  · have e : i = xs.length := by omega
    subst e
    exact .inl ⟨⟨xs, q, Nat.le_refl _⟩, hd σ H p⟩
theorem for_range {lo : Int} {n : Nat} {g : TG} {tb : TS} {D : Ends} {σ : St} {H : Hp} (Pv : Nat → St → Hp → Prop) (h0 : Pv 0 σ H)
    (hs : ∀ i σ H, i < n → Pv i σ H → g (.int (lo + i)) σ H fun σ2 H2 => tb { D with nx := Pv (i + 1), ct := Pv (i + 1), bk := D.nx } σ2 H2) (hd : ∀ σ H, Pv n σ H → D.nx σ H) :
    ∃ W : Nat → Nat → St → Hp → Prop, (∃ m, W 0 m σ H) ∧ ∀ i m σ H, W i m σ H →
      ((Itr lo n).stop i H ∧ D.nx σ H) ∨ ((Itr lo n).go i H ∧ ∃ N : St → Hp → Prop, (∀ σ' H', N σ' H' → ∃ m', m' < m ∧ W (i + 1) m' σ' H') ∧ ∀ x H', (Itr lo n).yld i H x H' → g x σ H' fun σ2 H2 => tb { D with nx := N, ct := N, bk := D.nx } σ2 H2) := by
  refine ⟨fun i m σ H => m = n - i ∧ i ≤ n ∧ Pv i σ H, ⟨n, by simp, Nat.zero_le _, h0⟩, ?_⟩
  rintro i m σ H ⟨rfl, hi, p⟩
  by_cases hlt : i < n
  · refine .inr ⟨hlt, Pv (i + 1), fun σ' H' p' => ⟨n - (i + 1), by omega, rfl, hlt, p'⟩, fun x H' y => ?_⟩
    obtain ⟨e, y⟩ := y
    subst e y
    exact hs i σ _ hlt p
  · have e : i = n := by omega
    subst e
    exact .inl ⟨Nat.le_refl _, hd σ H p⟩
end L2

namespace L2
open PySem PySem.Spec PyProof.Rows

abbrev R2 := V → V → Hp → VK → Prop
/-- a two-place operation on values: f is binaryOp op, inplaceOp op or compareOp op -/
def OpR (X : Cx) (f : Value → Value → Sem Value) (r : R2) : Prop :=
  ∀ (pins : List (Addr × Obj)) (s : Shared) (σ : St) (H : Hp) (x y : V) (v u : Value) (Q : VK), Inv X pins σ H s → RelV x v → RelV y u → r x y H Q →
    wpAny (model X.prog X.w) X.A (f v u) (EP X pins σ Q) X.xe s
/-- a call of a value that is known (a builtin, a type) with values -/
def CallR (X : Cx) (f : Value) (r : List V → Hp → VK → Prop) : Prop :=
  ∀ (pins : List (Addr × Obj)) (s : Shared) (σ : St) (H : Hp) (xs : List V) (us : List Value) (Q : VK), Inv X pins σ H s → Vals xs us → r xs H Q →
    wpAny (model X.prog X.w) X.A (call f us) (EP X pins σ Q) X.xe s
def tOp (r : R2) (ta tb : TE) : TE := fun σ H Q => ta σ H fun x H1 => tb σ H1 fun y H2 => r x y H2 Q
/-- ints in, under C, and a value out -/
def rI (C : Int → Int → Prop) (g : Int → Int → V) : R2 := fun x y H Q => ∃ i j, x = .int i ∧ y = .int j ∧ C i j ∧ Q (g i j) H
def rI0 (g : Int → Int → V) : R2 := fun x y H Q => ∃ i j, x = .int i ∧ y = .int j ∧ Q (g i j) H
section
variable {X : Cx} {a b c : Expr} {ta tb tc : TE} {pos : Pos}

theorem binT (ha : PE X a ta) (hb : PE X b tb) {pins : List (Addr × Obj)} {s : Shared} {σ : St} {H : Hp} {R : V → V → Hp → Prop} (I : Inv X pins σ H s)
    (h : ta σ H fun x H1 => tb σ H1 fun y H2 => R x y H2) {Q : Value → Shared → Prop} {f : Value → Value → Sem Value}
    (hf : ∀ v u s2 x y H2, Inv X pins σ H2 s2 → RelV x v → RelV y u → R x y H2 → wpAny (model X.prog X.w) X.A (f v u) Q X.xe s2) :
    wpAny (model X.prog X.w) X.A (eval a X.env) (fun v s₁ => wpAny (model X.prog X.w) X.A (eval b X.env) (fun u s₂ => wpAny (model X.prog X.w) X.A (f v u) Q X.xe s₂) X.xe s₁) X.xe s := by
  refine thn (ha pins s σ H _ I h) fun v s1 ⟨x, H1, I1, r1, q1⟩ => ?_
  refine thn (hb pins s1 σ H1 _ I1 q1) fun u s2 ⟨y, H2, I2, r2, q2⟩ => ?_
  exact hf v u s2 x y H2 I2 r1 r2 q2

theorem pe_op {op : Operator} {r : R2} (ho : OpR X (binaryOp op) r) (ha : PE X a ta) (hb : PE X b tb) : PE X (.BinOp a op b pos) (tOp r ta tb) := by
  intro pins s σ H Q I h
  exact wpAny_BinOp (binT ha hb I h fun v u s2 x y H2 I2 rx ry q => ho pins s2 σ H2 x y v u Q I2 rx ry q)
/-! ### ints -/
theorem opI {f : Value → Value → Sem Value} {C : Int → Int → Prop} {g : Int → Int → Int}
    (rule : ∀ (i j : Int) (t u : Tok) (s : Shared) (Q : Value → Shared → Prop) (E : Value → Shared → Prop), C i j → Q (.int (g i j) s.toks) { s with toks := s.toks + 1 } → wpAny (model X.prog X.w) X.A (f (.int i t) (.int j u)) Q E s) :
    OpR X f (rI C fun i j => .int (g i j)) := by
  intro pins s σ H x y v u Q I rx ry h
  obtain ⟨i, j, rfl, rfl, hc, q⟩ := h
  obtain ⟨t, rfl⟩ := rx
  obtain ⟨t', rfl⟩ := ry
  exact rule i j t t' s _ _ hc ⟨.int (g i j), H, I.tok _, ⟨_, rfl⟩, q⟩
theorem opI0 {f : Value → Value → Sem Value} {g : Int → Int → Int}
    (rule : ∀ (i j : Int) (t u : Tok) (s : Shared) (Q : Value → Shared → Prop) (E : Value → Shared → Prop), Q (.int (g i j) s.toks) { s with toks := s.toks + 1 } → wpAny (model X.prog X.w) X.A (f (.int i t) (.int j u)) Q E s) :
    OpR X f (rI0 fun i j => .int (g i j)) := by
  intro pins s σ H x y v u Q I rx ry h
  obtain ⟨i, j, rfl, rfl, q⟩ := h
  obtain ⟨t, rfl⟩ := rx
  obtain ⟨t', rfl⟩ := ry
  exact rule i j t t' s _ _ ⟨.int (g i j), H, I.tok _, ⟨_, rfl⟩, q⟩
theorem opB0 {f : Value → Value → Sem Value} {g : Int → Int → Bool}
    (rule : ∀ (i j : Int) (t u : Tok) (s : Shared) (Q : Value → Shared → Prop) (E : Value → Shared → Prop), Q (.bool (g i j)) s → wpAny (model X.prog X.w) X.A (f (.int i t) (.int j u)) Q E s) :
    OpR X f (rI0 fun i j => .bl (g i j)) := by
  intro pins s σ H x y v u Q I rx ry h
  obtain ⟨i, j, rfl, rfl, q⟩ := h
  obtain ⟨t, rfl⟩ := rx
  obtain ⟨t', rfl⟩ := ry
  exact rule i j t t' s _ _ ⟨.bl (g i j), H, I, rfl, q⟩

def CDiv (i j : Int) : Prop := 0 < j ∧ j < 1073741824
def CPow (i j : Int) : Prop := 0 ≤ j ∧ j ≤ 1000000 ∧ i.natAbs < 2 ^ 64
def CMul (i j : Int) : Prop := (-(2 ^ 64) < i ∧ i < 2 ^ 64) ∨ (-(2 ^ 64) < j ∧ j < 2 ^ 64)
theorem CMul.ok {i j : Int} (h : CMul i j) : IntMulOk i j := by
  rcases h with ⟨h1, h2⟩ | ⟨h1, h2⟩
  · exact .of_left (intBits_le_64 h1 h2)
  · exact .of_right (intBits_le_64 h1 h2)
theorem two_pow_nn (k : Nat) : (0 : Int) ≤ 2 ^ k := by
  rw [two_pow_cast]
  exact Int.natCast_nonneg _

theorem op_add : OpR X (binaryOp .Add) (rI0 fun i j => .int (i + j)) := opI0 fun _ _ _ _ _ _ _ q => add_int q
theorem op_mul : OpR X (binaryOp .Mult) (rI CMul fun i j => .int (i * j)) := opI fun _ _ _ _ _ _ _ hc q => mul_int q hc.ok
/-- // by a positive divisor -/
theorem op_fdiv : OpR X (binaryOp .FloorDiv) (rI CDiv fun i j => .int (i / j)) := opI fun i j _ _ _ _ _ hc q => by
  have h1 : (0 : Int) < j := hc.1
  have h2 : j < 1073741824 := hc.2
  exact floordiv_int (by omega) (by rw [Int.fdiv_eq_ediv_of_nonneg i (by omega)]; exact q) (.inl (PyProof.noPylong_small (by omega)))
/-- % by a positive divisor of any size -/
theorem op_mod : OpR X (binaryOp .Mod) (rI (fun _ j => 0 < j) fun i j => .int (i % j)) := opI fun i j _ _ _ _ _ hc q => by
  have h1 : (0 : Int) < j := hc
  exact mod_int' (by omega) (by rw [Int.fmod_eq_emod_of_nonneg i (by omega)]; exact q)
theorem op_pow : OpR X (binaryOp .Pow) (rI CPow fun i j => .int (i ^ j.toNat)) := opI fun _ _ _ _ _ _ _ hc q => pow_int_small hc.1 hc.2.1 hc.2.2 q
theorem op_shl : OpR X (binaryOp .LShift) (rI CPow fun i j => .int (i * 2 ^ j.toNat)) := opI fun _ _ _ _ _ _ _ hc q => lshift_int_small hc.1 hc.2.1 hc.2.2 q
theorem op_shr : OpR X (binaryOp .RShift) (rI (fun _ j => 0 ≤ j) fun i j => .int (i / 2 ^ j.toNat)) := opI fun i j _ _ _ _ _ hc q =>
  rshift_int hc (by rw [Int.fdiv_eq_ediv_of_nonneg i (two_pow_nn _)]; exact q)
theorem op_and : OpR X (binaryOp .BitAnd) (rI0 fun i j => .int (Builtin.bitAnd i j)) := opI0 fun _ _ _ _ _ _ _ q => and_int q
/-! ### bools among ints: n += (a < b) -/
end

/-! ### comparisons -/
/-- the scalars that == tells apart as data does -/
def scal : V → V → Bool
  | .non, .non => true | .non, .int _ => true | .int _, .non => true | .non, .bl _ => true | .bl _, .non => true | .non, .str _ => true | .str _, .non => true
  | .int _, .int _ => true | .bl _, .bl _ => true | .str _, .str _ => true | .byt _, .byt _ => true
  | .int _, .str _ => true | .str _, .int _ => true | .bl _, .str _ => true | .str _, .bl _ => true
  | _, _ => false
def rEq : R2 := fun x y H Q => scal x y = true ∧ Q (.bl (decide (x = y))) H
def rNe : R2 := fun x y H Q => scal x y = true ∧ Q (.bl (!decide (x = y))) H

theorem dec_int {i j : Int} : decide (V.int i = V.int j) = (i == j) := by
  rw [Bool.eq_iff_iff]
  simp
theorem dec_bl {i j : Bool} : decide (V.bl i = V.bl j) = (i == j) := by
  rw [Bool.eq_iff_iff]
  simp
theorem dec_str {i j : Str} : decide (V.str i = V.str j) = (i == j) := by
  rw [Bool.eq_iff_iff]
  simp
theorem dec_byt {i j : Array UInt8} : decide (V.byt i = V.byt j) = (i.toList == j.toList) := by
  rw [Bool.eq_iff_iff]
  cases i
  cases j
  simp

section
variable {X : Cx} {a b c : Expr} {ta tb tc : TE} {pos : Pos}
theorem fin_bl {pins : List (Addr × Obj)} {σ : St} {H : Hp} {s : Shared} {Q : VK} {k k' : Bool} (I : Inv X pins σ H s) (q : Q (.bl k) H) (e : k = k') : EP X pins σ Q (.bool k') s := by
  subst e
  exact ⟨.bl k, H, I, rfl, q⟩
theorem op_eq : OpR X (compareOp .Eq) rEq := by
  intro pins s σ H x y v u Q I rx ry h
  obtain ⟨hs, q⟩ := h
  cases x with
  | non =>
    cases rx
    cases y with
    | non => cases ry; exact PySem.EqNone.eq_none_none (fin_bl I q (by simp))
    | bl j => cases ry; exact PySem.EqNone.eq_none_bool (fin_bl I q (by simp))
    | int j => obtain ⟨t', rfl⟩ := ry; exact PySem.EqNone.eq_none_int (fin_bl I q (by simp))
    | str j => obtain ⟨t', rfl⟩ := ry; exact PySem.EqNone.eq_none_str (fin_bl I q (by simp))
    | _ => exact absurd (show false = true from hs) Bool.false_ne_true
  | bl i =>
    cases rx
    cases y with
    | non => cases ry; exact PySem.EqNone.eq_bool_none (fin_bl I q (by simp))
    | bl j => cases ry; exact eq_bool (fin_bl I q dec_bl)
    | str j => obtain ⟨t', rfl⟩ := ry; exact PySem.EqMixed.eq_bool_str (fin_bl I q (by simp))
    | _ => exact absurd (show false = true from hs) Bool.false_ne_true
  | int i =>
    obtain ⟨t, rfl⟩ := rx
    cases y with
    | non => cases ry; exact PySem.EqNone.eq_int_none (fin_bl I q (by simp))
    | int j => obtain ⟨t', rfl⟩ := ry; exact eq_int (fin_bl I q dec_int)
    | str j => obtain ⟨t', rfl⟩ := ry; exact PySem.EqMixed.eq_int_str (fin_bl I q (by simp))
    | _ => exact absurd (show false = true from hs) Bool.false_ne_true
  | str i =>
    obtain ⟨t, rfl⟩ := rx
    cases y with
    | non => cases ry; exact PySem.EqNone.eq_str_none (fin_bl I q (by simp))
    | bl j => cases ry; exact PySem.EqMixed.eq_str_bool (fin_bl I q (by simp))
    | int j => obtain ⟨t', rfl⟩ := ry; exact PySem.EqMixed.eq_str_int (fin_bl I q (by simp))
    | str j => obtain ⟨t', rfl⟩ := ry; exact eq_str (fin_bl I q dec_str)
    | _ => exact absurd (show false = true from hs) Bool.false_ne_true
  | byt i =>
    obtain ⟨t, rfl⟩ := rx
    cases y with
    | byt j => obtain ⟨t', rfl⟩ := ry; exact PySem.W.eq_bytes (fin_bl I q dec_byt)
    | _ => exact absurd (show false = true from hs) Bool.false_ne_true
  | _ => cases y <;> exact absurd (show false = true from hs) Bool.false_ne_true
theorem op_ne : OpR X (compareOp .NotEq) rNe := by
  intro pins s σ H x y v u Q I rx ry h
  obtain ⟨hs, q⟩ := h
  cases x with
  | non =>
    cases rx
    cases y with
    | non => cases ry; exact PySem.EqNone.ne_none_none (fin_bl I q (by simp))
    | bl j => cases ry; exact PySem.EqNone.ne_none_bool (fin_bl I q (by simp))
    | int j => obtain ⟨t', rfl⟩ := ry; exact PySem.EqNone.ne_none_int (fin_bl I q (by simp))
    | str j => obtain ⟨t', rfl⟩ := ry; exact PySem.EqNone.ne_none_str (fin_bl I q (by simp))
    | _ => exact absurd (show false = true from hs) Bool.false_ne_true
  | bl i =>
    cases rx
    cases y with
    | non => cases ry; exact PySem.EqNone.ne_bool_none (fin_bl I q (by simp))
    | bl j => cases ry; exact ne_bool (fin_bl I q (congrArg not dec_bl))
    | str j => obtain ⟨t', rfl⟩ := ry; exact PySem.EqMixed.ne_bool_str (fin_bl I q (by simp))
    | _ => exact absurd (show false = true from hs) Bool.false_ne_true
  | int i =>
    obtain ⟨t, rfl⟩ := rx
    cases y with
    | non => cases ry; exact PySem.EqNone.ne_int_none (fin_bl I q (by simp))
    | int j => obtain ⟨t', rfl⟩ := ry; exact ne_int (fin_bl I q (congrArg not dec_int))
    | str j => obtain ⟨t', rfl⟩ := ry; exact PySem.EqMixed.ne_int_str (fin_bl I q (by simp))
    | _ => exact absurd (show false = true from hs) Bool.false_ne_true
  | str i =>
    obtain ⟨t, rfl⟩ := rx
    cases y with
    | non => cases ry; exact PySem.EqNone.ne_str_none (fin_bl I q (by simp))
    | bl j => cases ry; exact PySem.EqMixed.ne_str_bool (fin_bl I q (by simp))
    | int j => obtain ⟨t', rfl⟩ := ry; exact PySem.EqMixed.ne_str_int (fin_bl I q (by simp))
    | str j => obtain ⟨t', rfl⟩ := ry; exact ne_str (fin_bl I q (congrArg not dec_str))
    | _ => exact absurd (show false = true from hs) Bool.false_ne_true
  | byt i =>
    obtain ⟨t, rfl⟩ := rx
    cases y with
    | byt j => obtain ⟨t', rfl⟩ := ry; exact PySem.W.ne_bytes (fin_bl I q (congrArg not dec_byt))
    | _ => exact absurd (show false = true from hs) Bool.false_ne_true
  | _ => cases y <;> exact absurd (show false = true from hs) Bool.false_ne_true

theorem op_lt : OpR X (compareOp .Lt) (rI0 fun i j => .bl (decide (i < j))) := opB0 fun _ _ _ _ _ _ _ q => lt_int q
theorem op_gt : OpR X (compareOp .Gt) (rI0 fun i j => .bl (decide (j < i))) := opB0 fun _ _ _ _ _ _ _ q => gt_int q
theorem op_ge : OpR X (compareOp .GtE) (rI0 fun i j => .bl (decide (j ≤ i))) := opB0 fun _ _ _ _ _ _ _ q => ge_int q
theorem nomark (b : Expr) {op : CmpOp} (h : op ≠ .In := by decide) (h2 : op ≠ .NotIn := by decide) : behindInMarks op b = false := by
  have e1 : (op == CmpOp.In) = false := by cases op <;> first | rfl | exact absurd rfl h
  have e2 : (op == CmpOp.NotIn) = false := by cases op <;> first | rfl | exact absurd rfl h2
  cases b <;> simp [behindInMarks, e1, e2]
/-- a comparison as a value; hm: nomark b, or (for in, not in) by with_unfolding_all rfl -/
theorem pe_cmpR {op : CmpOp} {r : R2} (ho : OpR X (compareOp op) r) (ha : PE X a ta) (hb : PE X b tb) (hm : behindInMarks op b = false) : PE X (.Compare a [op] [b] pos) (tOp r ta tb) := by
  intro pins s σ H Q I h
  exact wpAny_Compare1 (binT ha hb I h fun v u s2 x y H2 I2 rx ry q => ho pins s2 σ H2 x y v u Q I2 rx ry q) hm
/-- a reading of a value as a test -/
def tTest (t : TE) : TT := fun σ H Q => t σ H fun x H' => ∃ k, x = .bl k ∧ Q k H'
theorem pt_cmpR {op : CmpOp} {r : R2} (ho : OpR X (compareOp op) r) (ha : PE X a ta) (hb : PE X b tb) (hm : behindInMarks op b = false) : PT X (.Compare a [op] [b] pos) (tTest (tOp r ta tb)) := by
  intro pins s σ H Q I h
  refine wpAny_isTrue_Compare1 (thn (ha pins s σ H _ I h) fun v s1 ⟨x, H1, I1, r1, q1⟩ => thn (hb pins s1 σ H1 _ I1 q1) fun u s2 ⟨y, H2, I2, r2, q2⟩ =>
    thn (ho pins s2 σ H2 x y v u _ I2 r1 r2 q2) fun c s3 ⟨z, H3, I3, r3, k, e, q3⟩ => ?_) hm
  subst e
  cases r3
  exact wpAny_truthy_bool ⟨H3, I3, q3⟩
/-! ### truth -/
theorem line63 : (sizeLine : Nat) < 2 ^ 63 := by rw [sizeLine_eq]; decide
/-! ### strs and bytes -/
/-! ### scalar builtins, by CallR -/
theorem vals1 {x : V} {us : List Value} (r : Vals [x] us) : ∃ u, us = [u] ∧ RelV x u := by
  cases r with
  | cons r1 r2 => cases r2; exact ⟨_, rfl, r1⟩
theorem vals2 {x y : V} {us : List Value} (r : Vals [x, y] us) : ∃ u w', us = [u, w'] ∧ RelV x u ∧ RelV y w' := by
  cases r with
  | cons r1 r2 =>
    cases r2 with
    | cons r3 r4 => cases r4; exact ⟨_, _, rfl, r1, r3⟩
theorem call_abs : CallR X (.builtin "abs") (fun xs H Q => ∃ i, xs = [.int i] ∧ Q (.int (if i < 0 then -i else i)) H) := by
  intro pins s σ H xs us Q I r h
  obtain ⟨i, rfl, q⟩ := h
  obtain ⟨u, rfl, t, rfl⟩ := vals1 r
  exact call_abs_int fun u tk => ⟨.int (if i < 0 then -i else i), H, I.tok _, ⟨_, rfl⟩, q⟩
theorem call_max2 (hc : X.calm = true) : CallR X (.builtin "max") (fun xs H Q => ∃ i j, xs = [.int i, .int j] ∧ Q (.int (if j > i then j else i)) H) := by
  intro pins s σ H xs us Q I r h
  obtain ⟨i, j, rfl, q⟩ := h
  obtain ⟨u, w', rfl, ⟨t, rfl⟩, ⟨t', rfl⟩⟩ := vals2 r
  refine max_two_ints (I.ok.hd hc) fun h' tk k => ⟨_, H, I.kept k, ?_, q⟩
  by_cases hj : j > i
  · rw [if_pos hj, if_pos hj]; exact ⟨_, rfl⟩
  · rw [if_neg hj, if_neg hj]; exact ⟨_, rfl⟩
theorem call_min2 (hc : X.calm = true) : CallR X (.builtin "min") (fun xs H Q => ∃ i j, xs = [.int i, .int j] ∧ Q (.int (if j < i then j else i)) H) := by
  intro pins s σ H xs us Q I r h
  obtain ⟨i, j, rfl, q⟩ := h
  obtain ⟨u, w', rfl, ⟨t, rfl⟩, ⟨t', rfl⟩⟩ := vals2 r
  refine min_two_ints (I.ok.hd hc) fun h' tk k => ⟨_, H, I.kept k, ?_, q⟩
  by_cases hj : j < i
  · rw [if_pos hj, if_pos hj]; exact ⟨_, rfl⟩
  · rw [if_neg hj, if_neg hj]; exact ⟨_, rfl⟩
theorem call_int1 : CallR X (.type "int") (fun xs H Q => (∃ i, xs = [.int i] ∧ Q (.int i) H) ∨ ∃ k, xs = [.bl k] ∧ Q (.int (if k then 1 else 0)) H) := by
  intro pins s σ H xs us Q I r h
  rcases h with ⟨i, rfl, q⟩ | ⟨k, rfl, q⟩
  · obtain ⟨u, rfl, t, rfl⟩ := vals1 r
    exact call_int_int ⟨.int i, H, I, ⟨_, rfl⟩, q⟩
  · obtain ⟨u, rfl, r1⟩ := vals1 r
    cases r1
    exact call_int_bool ⟨.int (if k then 1 else 0), H, I.tok _, ⟨_, rfl⟩, q⟩
end
end L2

namespace L2
open PySem PySem.Spec PyProof.Rows

/-! ### an instance, its attributes a map -/
structure ObjM (h : Heap) (x dx C : Addr) (mA : Str → Option Value) : Prop where
  obj : h.get? x = some (PySem.W.instObj C dx)
  ns : h.Ns1 dx mA
  ne : dx ≠ x

theorem lookIn_ns {h : Heap} {dx : Addr} {mA : Str → Option Value} (n : h.Ns1 dx mA) : ∃ od, h.get? dx = some od ∧ ∀ name, PySem.W.lookIn name od = some (mA name) := by
  obtain ⟨o, es, ep, ho, hd, hk, _, hm⟩ := n
  refine ⟨o, ho, fun name => ?_⟩
  have e := hm name
  unfold nsFind findBy at e
  rw [← Array.find?_toList] at e
  unfold PySem.W.lookIn
  rw [hd]
  dsimp only
  split
  · rename_i y q
    rw [q] at e
    exact congrArg some e
  · rename_i q
    rw [q] at e
    have a : es.toList.any (·.refKey) = false := by
      rw [List.any_eq_false]
      intro y hy
      obtain ⟨z, t, hkey⟩ := hk y (Array.mem_toList_iff.mp hy)
      simp [DictEntry.refKey, hkey]
    have a' : ¬ es.toList.any (·.refKey) = true := by rw [a]; exact Bool.false_ne_true
    rw [if_neg a']
    exact congrArg some e

theorem ObjM.look {h : Heap} {x dx C : Addr} {mA : Str → Option Value} (I : ObjM h x dx C mA) : ∃ od, PySem.W.InstAt h x (PySem.W.instObj C dx) C (some od) ∧ ∀ name, PySem.W.lookIn name od = some (mA name) :=
  let ⟨od, ho, hl⟩ := lookIn_ns I.ns
  ⟨od, ⟨I.obj, rfl, rfl, ho⟩, hl⟩

section
variable {prog : Program} {w : World} {A : Around} {E : Value → Shared → Prop} {s : Shared} {K : PySem.W.Frag} {x dx C f : Addr} {mA : Str → Option Value} {name : Str} {v : Value}

end

/-! ### the attributes as a list of pairs -/
section
variable {P : Program} {w : World} {H H' : Hp} {h h' : Heap} {a C dx : Addr} {fs fs' : List (Str × V)}
theorem ins_get (hok : HOk P w H h) (e : H a = some (.ins C dx fs)) : ∃ mA, ObjM h a dx C mA ∧ (∀ f, RelO (fs.lookup f) (mA f)) ∧ PySem.Within mA (fs.map (·.1)) ∧ fs.length ≤ 1000 ∧ H dx = some (.own a) := by
  obtain ⟨d, z, ne, ob, mA, n, r, q⟩ := (show ObjOk P w H h a (.ins C dx fs) from hok a _ e)
  exact ⟨mA, ⟨ob, n, ne⟩, r, q, z, d⟩
end

/-! ### what of the text a class must have -/
structure Cls (K : PySem.W.Frag) (C : Addr) : Prop where
  pg : PySem.W.plainGet K C Str.empty = true
  hd : PySem.W.hasDictIn K C = true
  po : PySem.W.plainOver K C = true
  sa : PySem.W.findIn K (.ref C) "__setattr__" = some (some (.builtin "object.__setattr__"))
theorem Cls.get {K : PySem.W.Frag} {C : Addr} (c : Cls K C) (f : Str) : PySem.W.plainGet K C f = true := c.pg
section
variable {X : Cx} {pins : List (Addr × Obj)} {σ : St} {H : Hp} {s : Shared} {a C dx : Addr} {fs : List (Str × V)} {f : Str} {v : V} {A : Around} {E : Value → Shared → Prop}

/-- e.f where nothing but the object is asked: through attributeBase (super) and the last hold -/
theorem attr_of {prog : Program} {w : World} {env : Env} {e : Expr} {f : Str} {pos : Pos} {s : Shared} {Q : Value → Shared → Prop} (hb : attributeBase e f env (eval e env) = eval e env)
    (h : wpAny (model prog w) A (eval e env) (fun o s₁ => wpAny (model prog w) A (getAttr o f true) Q E s₁) E s) : wpAny (model prog w) A (eval (.Attribute e f pos) env) Q E s :=
  Attribute_any_ h (by rw [arm_eval_Attribute, hb])
end

/-! ### readings and rules -/
section
variable {X : Cx} {o e value : Expr} {f : Str} {pos pos' tpos : Pos} {ta tv : TE}
end

/-! ### isinstance -/
section
variable {X : Cx} {pins : List (Addr × Obj)} {σ : St} {H : Hp} {s : Shared} {A : Around} {E : Value → Shared → Prop} {Q : Value → Shared → Prop} {c : Value} {b : Bool}
/-- the type of a value, as the fragment's deciders take it; for an instance its class -/
inductive TyOf (K : PySem.W.Frag) (H : Hp) : V → Value → Prop where
  | non : TyOf K H .non (.type "NoneType")
  | bl (x : Bool) : TyOf K H (.bl x) (.type "bool")
  | int (i : Int) : TyOf K H (.int i) (.type "int")
  | str (x : Str) : TyOf K H (.str x) (.type "str")
  | flt (x : UInt64) : TyOf K H (.flt x) (.type "float")
  | lst {a : Addr} {xs : List V} (e : H a = some (.lst xs)) : TyOf K H (.ref a) (.type "list")
  | frz {a : Addr} {o : Obj} {xs : List V} (e : H a = some (.frz o (.lst xs))) : TyOf K H (.ref a) (.type "list")
  | tup {a : Addr} {xs : List V} (e : H a = some (.tup xs)) : TyOf K H (.ref a) (.type "tuple")
  | dK {a : Addr} {kvs : List (Key × V)} (e : H a = some (.dK kvs)) : TyOf K H (.ref a) (.type "dict")
  | dT {a : Addr} {kvs : List (List Key × V)} (e : H a = some (.dT kvs)) : TyOf K H (.ref a) (.type "dict")
  | ins {a C dx : Addr} {fs : List (Str × V)} (e : H a = some (.ins C dx fs)) (cl : Cls K C) (ha : PySem.W.findIn K (.ref C) "__class__" = some (some (.builtin "object.__class__")))
      (hn : PySem.W.specialIn K (.builtin "object.__class__") "__get__" = some (some (.builtin "getset_descriptor.__get__"))) (htk : PySem.W.takesIn K (.builtin "object.__class__") = some true)
      (hm : PySem.W.mroIn K C (.type "object") = some true) : TyOf K H (.ref a) (.ref C)
/-- isinstance(x, c) for one class c, a built-in or an own one: kitOne's answer -/
theorem isinst_ok {x : V} {u t : Value} (I : Inv X pins σ H s) (rx : RelV x u) (ty : TyOf X.K H x t) (e : PySem.W.kitOne X.K t c = some b) (h : ∀ tk, Q (.bool b) { s with toks := tk }) :
    wpAny (model X.prog X.w) A (call (.builtin "isinstance") [u, c]) Q E s := by
  cases ty with
  | non => cases (show u = Value.none from rx); exact PySem.W.kia_one PySem.W.kitx_none I.kIn True.intro e (fun z => nomatch z) h
  | bl y => cases (show u = Value.bool y from rx); exact PySem.W.kia_one PySem.W.kitx_bool I.kIn True.intro e (fun z => nomatch z) h
  | int i => obtain ⟨t, q⟩ := (show ∃ t, u = Value.int i t from rx); cases q; exact PySem.W.kia_one PySem.W.kitx_int I.kIn True.intro e (fun z => nomatch z) h
  | str y => obtain ⟨t, q⟩ := (show ∃ t, u = Value.str y t from rx); cases q; exact PySem.W.kia_one PySem.W.kitx_str I.kIn True.intro e (fun z => nomatch z) h
  | flt y => obtain ⟨t, q⟩ := (show ∃ t, u = Value.float y t from rx); cases q; exact PySem.W.kia_one PySem.W.kitx_float I.kIn True.intro e (fun z => nomatch z) h
  | @lst a xs ea =>
    cases (show u = Value.ref a from rx)
    obtain ⟨_, _, n, _, h1⟩ := (show ObjOk X.prog X.w H s.heap a (.lst xs) from I.hok a _ ea)
    exact PySem.W.kia_one PySem.W.kitx_list I.kIn ⟨_, h1, rfl⟩ e (fun z => nomatch z) h
  | @frz a ob xs ea =>
    cases (show u = Value.ref a from rx)
    obtain ⟨_, _, _, n, _, h1⟩ := (show ObjOk X.prog X.w H s.heap a (.frz ob (.lst xs)) from I.hok a _ ea)
    exact PySem.W.kia_one PySem.W.kitx_list I.kIn ⟨_, h1, rfl⟩ e (fun z => nomatch z) h
  | @tup a xs ea =>
    cases (show u = Value.ref a from rx)
    obtain ⟨_, _, _, p⟩ := (show ObjOk X.prog X.w H s.heap a (.tup xs) from I.hok a _ ea)
    obtain ⟨o, h1, h2, _⟩ := p
    exact PySem.W.kia_one PySem.W.kitx_tuple I.kIn ⟨o, h1, h2⟩ e (fun z => nomatch z) h
  | @dK a kvs ea =>
    cases (show u = Value.ref a from rx)
    obtain ⟨_, _, vs, _, p⟩ := (show ObjOk X.prog X.w H s.heap a (.dK kvs) from I.hok a _ ea)
    obtain ⟨o, es, ep, h1, h2, _⟩ := p
    exact PySem.W.kia_one PySem.W.kitx_dict I.kIn ⟨o, h1, h2.1⟩ e (fun z => nomatch z) h
  | @dT a kvs ea =>
    cases (show u = Value.ref a from rx)
    obtain ⟨_, _, xs, _, o, es, ep, h1, h2, _⟩ := (show ObjOk X.prog X.w H s.heap a (.dT kvs) from I.hok a _ ea)
    exact PySem.W.kia_one PySem.W.kitx_dict I.kIn ⟨o, h1, h2.1⟩ e (fun z => nomatch z) h
  | @ins a C dx fs ea cl ha hn htk hm =>
    cases (show u = Value.ref a from rx)
    obtain ⟨mA, O, _⟩ := ins_get I.hok ea
    obtain ⟨od, J, _⟩ := O.look
    exact PySem.W.kia_one (PySem.W.kitx_own (cl.get _) cl.hd ha hn htk hm) I.kIn J e (fun z => nomatch z) h
end
end L2

namespace L2
open PySem PySem.Spec PyProof.Rows

/-! ### room -/
structure Room (k : Nat) (A : Around) : Prop where
  hd : A.handled = none
  dp : A.depth + 3 * k + 5 < recursionLimit
  un : A.units + 16 * k + 200 < cLine
theorem Room.mono {j k : Nat} {A : Around} (r : Room k A) (h : j ≤ k) : Room j A := ⟨r.hd, by have := r.dp; omega, by have := r.un; omega⟩
theorem Room.deeper {k : Nat} {A : Around} (r : Room (k + 1) A) (env : Env) : Room k (A.deeper env) :=
  ⟨r.hd, by have := r.dp; show A.depth + 1 + 3 * k + 5 < _; omega, by have := r.un; show A.units + 3 + 16 * k + 200 < _; omega⟩
theorem make_depth {A : Around} {C : Addr} {us : List Value} {kw : List (Str × Value)} : (A.under (.builtin "type.__call__" ⟨.ref C :: us, kw⟩)).depth = A.depth + 1 := by
  first | rfl | simp [Around.under, Code.weight, Code.isCreation, Code.isGuard, Code.isCaller, Code.frames, Code.isFrame, guardIds]
theorem make_units {A : Around} {C : Addr} {us : List Value} {kw : List (Str × Value)} : (A.under (.builtin "type.__call__" ⟨.ref C :: us, kw⟩)).units = A.units + 1 := by
  first | rfl | simp [Around.under, Code.cUnits, Code.frames, Code.isFrame]
theorem Room.make {k : Nat} {A : Around} (r : Room (k + 1) A) (C : Addr) (us : List Value) (kw : List (Str × Value)) : Room k (A.under (.builtin "type.__call__" ⟨.ref C :: us, kw⟩)) :=
  ⟨r.hd, by have := r.dp; rw [make_depth]; omega, by have := r.un; rw [make_units]; omega⟩
theorem Room.depth {k : Nat} {A : Around} (r : Room k A) : A.depth < recursionLimit := by have := r.dp; omega
theorem Room.units {k : Nat} {A : Around} (r : Room k A) : A.units + 64 < cLine := by have := r.un; omega
/-! ### argument lists and displays -/
def tNil : TA := fun _ H Q => Q [] H
def tCons (ta : TE) (tr : TA) : TA := fun σ H Q => ta σ H fun x H1 => tr σ H1 fun xs H2 => Q (x :: xs) H2
section
variable {X : Cx} {e : Expr} {es : List Expr} {te : TE} {t : TA} {pos : Pos}
theorem pa_nil : PA X [] tNil := fun _ _ _ _ H Q I h => Calls.spliced_nil ⟨[], H, I, .nil, h⟩
theorem pa_cons (ha : PE X e te) (hr : PA X es t) (hs : starEach (e :: es) X.env = (false, eval e X.env) :: starEach es X.env := by rfl) : PA X (e :: es) (tCons te t) := by
  intro pos pins s σ H Q I h
  rw [hs]
  show wpAny _ _ (spliced ((false, eval e X.env) :: backTo pos (starEach es X.env))) _ _ s
  refine Calls.spliced_cons (thn (ha pins s σ H _ I h) fun u s1 ⟨x, H1, I1, r1, q1⟩ => ?_)
  exact thn (hr pos pins s1 σ H1 _ I1 q1) fun us s2 ⟨xs, H2, I2, r2, q2⟩ => ⟨x :: xs, H2, I2, .cons r1 r2, q2⟩

/-- a tuple, a list of written items -/
def tTup (t : TA) : TE := fun σ H Q => t σ H fun xs H1 => xs.length ≤ sizeLine ∧ ∀ p, H1 p = none → Q (.ref p) (upd H1 p (.tup xs))
def tLst (t : TA) : TE := fun σ H Q => t σ H fun xs H1 => xs.length ≤ sizeLine ∧ ∀ p, H1 p = none → Q (.ref p) (upd H1 p (.lst xs))
theorem pe_tup {x1} (h : PA X es t) : PE X (.Tuple es x1 pos) (tTup t) := by
  intro pins s σ H Q I hq
  refine wpAny_Tuple_spliced (thn (h pos pins s σ H _ I hq) fun us s1 ⟨xs, H1, I1, r, z, q⟩ => ⟨by rw [← r.length]; exact z, ?_⟩)
  have hf : H1 s1.heap.objs.size = none := I1.hok.fresh (Nat.le_refl _)
  refine ⟨.ref s1.heap.objs.size, upd H1 s1.heap.objs.size (.tup xs), I1.laid (t' := s1.toks) (fun b u e => Heap.get?_push_of_some _ e) (Nat.le_refl _) ?_, rfl, q _ hf⟩
  exact ⟨z, us, r, ⟨_, Heap.get?_push_size _ rfl, rfl, _, rfl⟩⟩
theorem pe_lst (h : PA X es t) : PE X (.List es pos) (tLst t) := by
  intro pins s σ H Q I hq
  refine wpAny_List_spliced (thn (h pos pins s σ H _ I hq) fun us s1 ⟨xs, H1, I1, r, z, q⟩ => ⟨by rw [← r.length]; exact z, ?_⟩)
  have hf : H1 s1.heap.objs.size = none := I1.hok.fresh (Nat.le_refl _)
  refine ⟨.ref s1.heap.objs.size, upd H1 s1.heap.objs.size (.lst xs), I1.laid (t' := s1.toks) (fun b u e => Heap.get?_push_of_some _ e) (Nat.le_refl _) ?_, rfl, q _ hf⟩
  exact ⟨z, us, 0, r, Heap.get?_push_size _ rfl⟩
end

/-! ### what a def promises -/
/-- a def's promise: the bound arguments in the parameters' order, the heap, the wanted end, the wanted exception -/
abbrev Sp := List V → Hp → VK → XK → Prop
/-- how an exception lies behind a call (file 08 gives it): the callers' frames, abstract heap and state ahead of the call, the wish, the exception, the state -/
abbrev CXT := List Env → Hp → Shared → XK → Value → Shared → Prop

/-- the state at a call -/
structure Env0 (P : Program) (w : World) (K : PySem.W.Frag) (mg : Str → Option Value) (base : Heap) (A : Around) (outer : List Env) (s : Shared) (H : Hp) : Prop where
  frames : A.frames = some outer
  mod : Mod K mg base
  bs : ∀ b o, base.get? b = some o → s.heap.get? b = some o ∧ H b = none
  bsz : base.objs.size ≤ s.heap.objs.size
  funs : s.heap.FunFrames base outer
  frf : ∀ b ∈ frs outer, H b = none
  hok : HOk P w H s.heap
  bare : AllBare s.gens
/-- a call's end -/
def CE (outer : List Env) (P : Program) (w : World) (H : Hp) (s : Shared) (Q : VK) (u : Value) (s' : Shared) : Prop :=
  ∃ v H', s'.os = s.os ∧ AllBare s'.gens ∧ Un (frs outer) [] H H' s.heap s'.heap ∧ HOk P w H' s'.heap ∧ RelV v u ∧ Q v H'
def CR (CX : CXT) (outer : List Env) (P : Program) (w : World) (H : Hp) (s : Shared) (Q : VK) (E : XK) (r : Result) (s' : Shared) : Prop :=
  match r with
  | .ok (.ret u) => CE outer P w H s Q u s'
  | .ok _ => False
  | .error e => CX outer H s E e s'
structure FnOk (P : Program) (w : World) (K : PySem.W.Frag) (mg : Str → Option Value) (base : Heap) (CX : CXT) (k : Nat) (f : Addr) (fd : FuncData) (ps : List Str) (sp : Sp) : Prop where
  len : ∀ vs H Q E, sp vs H Q E → vs.length = ps.length
  run : ∀ (A : Around) (outer : List Env) (s : Shared) (H : Hp) (args : Args) (us : List Value) (vs : List V) (Q : VK) (E : XK), Room k A → Env0 P w K mg base A outer s H → BindsTo s fd args (ps.zip us) → Vals vs us → sp vs H Q E →
    codeAny (model P w) A (.call (.ref f) args) (CR CX outer P w H s Q E) s
theorem Env0.make {P : Program} {w : World} {K : PySem.W.Frag} {mg : Str → Option Value} {base : Heap} {A : Around} {outer : List Env} {s : Shared} {H : Hp} (e : Env0 P w K mg base A outer s H) (C : Addr) (us : List Value) (kw : List (Str × Value)) :
    Env0 P w K mg base (A.under (.builtin "type.__call__" ⟨.ref C :: us, kw⟩)) outer s H := ⟨by first | exact e.frames | (simpa [Around.under, Code.envs, Code.isFrame, pushEnvs] using e.frames), e.mod, e.bs, e.bsz, e.funs, e.frf, e.hok, e.bare⟩
section
variable {X : Cx} {pins : List (Addr × Obj)} {σ : St} {H : Hp} {s s' : Shared}
/-- from a body: what a callee wants -/
theorem Inv.env0 (I : Inv X pins σ H s) : Env0 X.prog X.w X.K X.mg X.base X.A X.stack s H :=
  ⟨I.ok.frames, I.ok.mod, I.bs, Nat.le_trans I.ok.bsz I.sz, I.stack, I.stkFree, I.hok, I.bare⟩
/-- behind a call -/
theorem Inv.after {Q : VK} {u : Value} (I : Inv X pins σ H s) (h : CE X.stack X.prog X.w H s Q u s') : EP X pins σ Q u s' := by
  obtain ⟨v, H', os, bare, un, hok, r, q⟩ := h
  obtain ⟨hh, g, d, t, os'⟩ := s'
  obtain rfl : os' = s.os := os
  exact ⟨v, H', I.call (h' := hh) (g' := g) (d' := d) (t' := t) (ch := []) un hok bare (fun b z => absurd z (by simp)), r, q⟩
end

/-! ### calls -/
/-- f(..): the written arguments, then the defaults dvs; E: what is wanted of an exception -/
def tCall (sp : Sp) (dvs : List V) (E : XK) (t : TA) : TE := fun σ H Q => t σ H fun vs H1 => sp (vs ++ dvs) H1 Q E
/-- how the parameters are bound: us the positional arguments, kw the keywords' values by name, ds the defaults that fill up -/
def Binds (K : PySem.W.Frag) (fd : FuncData) (ps : List Str) (ds : List Value) : Prop :=
  ∀ (s : Shared) (us : List Value), K.In s.heap → (us ++ ds).length = ps.length → BindsTo s fd ⟨us, []⟩ (ps.zip (us ++ ds))
/-- every parameter is given -/
theorem Binds.all {K : PySem.W.Frag} {fd : FuncData} {ps : List Str} (h : ∀ us : List Value, us.length = ps.length → bindArgs fd ⟨us, []⟩ = pure (ps.zip us)) : Binds K fd ps [] := fun s us _ hl => by
  rw [List.append_nil] at hl ⊢
  exact .of_eq (h us hl)

/-- an exception of a callee reaches what this body wants of exceptions -/
def Passes (CX : CXT) (X : Cx) (E : XK) : Prop := ∀ (pins : List (Addr × Obj)) (σ : St) (H : Hp) (s : Shared) (e : Value) (s' : Shared), Inv X pins σ H s → CX X.stack H s E e s' → X.xe e s'

section
variable {X : Cx} {CX : CXT} {k : Nat} {f C : Addr} {fd : FuncData} {ps : List Str} {sp : Sp} {dvs : List V} {ds : List Value} {E : XK} {x m : Str} {p pos apos : Pos} {e o : Expr} {es : List Expr} {ta : TE} {t : TA}

/-- the callee runs -/
theorem run_fn {pins : List (Addr × Obj)} {σ : St} {H : Hp} {s : Shared} {Q : VK} {us : List Value} {vs : List V} (F : FnOk X.prog X.w X.K X.mg X.base CX k f fd ps sp) (hr : Room k X.A) (hb : Binds X.K fd ps ds) (hd : Vals dvs ds) (hx : Passes CX X E)
    (I : Inv X pins σ H s) (r : Vals vs us) (h : sp (vs ++ dvs) H Q E) : wpAny (model X.prog X.w) X.A (call (.ref f) us) (EP X pins σ Q) X.xe s := by
  have r2 : Vals (vs ++ dvs) (us ++ ds) := r.append hd
  have hl : (us ++ ds).length = ps.length := by rw [← r2.length]; exact F.len _ _ _ _ h
  refine wpAny_call (codeAny_mono (F.run X.A X.stack s H ⟨us, []⟩ (us ++ ds) (vs ++ dvs) Q E hr I.env0 (hb s us I.kIn hl) r2 h) fun r s' hq => ?_)
  cases r with
  | error e => exact hx pins σ H s e s' I hq
  | ok fl =>
    cases fl with
    | ret u => exact I.after hq
    | next => exact False.elim hq
    | brk => exact False.elim hq
    | cont => exact False.elim hq

theorem pe_call (F : FnOk X.prog X.w X.K X.mg X.base CX k f fd ps sp) (hr : Room k X.A) (hg : Gl X x) (hm : X.mg x = some (.ref f)) (hk : PySem.W.keepIn X.K (.ref f) = true) (hb : Binds X.K fd ps ds) (hd : Vals dvs ds) (hx : Passes CX X E)
    (ha : PA X (e :: es) t) (hdb : (x == ("__debug__" : Str)) = false := by decide) (he : starEach (e :: es) X.env = (false, eval e X.env) :: starEach es X.env := by rfl) (hpl : (backTo pos (starEach es X.env)).any (·.1) = false := by rfl) :
    PE X (.Call (.Name x p) (e :: es) [] pos) (tCall sp dvs E t) := by
  intro pins s σ H Q I h
  refine wpAny_Call_Name_kw (ld_glob I hg hm ?_ hdb)
  refine PySem.W.callWith_K (h₀ := X.base) I.ok.mod.kin hk (thn (ha pos pins s σ H _ I h) fun us s1 ⟨vs, H1, I1, r, q⟩ => ⟨I1.kIn, ?_⟩) he hpl
  exact run_fn F hr hb hd hx I1 r q
end

/-! ### keywords -/
section
variable {X : Cx} {CX : CXT} {k : Nat} {f C : Addr} {fd : FuncData} {ps ks : List Str} {sp : Sp} {E : XK} {x m : Str} {p pos apos kpos : Pos} {e o : Expr} {es : List Expr} {kws : List Keyword} {te ta : TE} {t tk : TA} {nm : Option Str}
variable {g : List Value → List Value → List Value} {gV : List V → List V → List V}
end

/-! ### a def's body keeps its promise -/
/-- names: the parameters first -/
structure FnScope (N P : List Str) (sc : Scope) : Prop where
  kind : sc.kind = .function
  co : sc.isCoroutine = false
  gen : sc.isGenerator = false
  nd : N.Nodup
  pre : N.take P.length = P
  par : ∀ x ∈ P, sc.names.lookup x = some .local ∨ sc.names.lookup x = some .cell
  nofree : ∀ y ∈ sc.names, y.2 ≠ .free

theorem bindL_out {kindOf : Str → Option NameKind} {x : Str} : ∀ {binds : List (Str × Value)} {m : Str → Option Value}, (∀ v, (x, v) ∉ binds) → bindL kindOf binds m x = m x
  | [], _, _ => rfl
  | (n, v) :: r, m, h => by
    unfold bindL
    rw [bindL_out fun w hw => h w (List.mem_cons_of_mem _ hw)]
    split
    · have : x ≠ n := by rintro rfl; exact h v List.mem_cons_self
      simp [this]
    · rfl
theorem bindC_out {kindOf : Str → Option NameKind} {x : Str} : ∀ {binds : List (Str × Value)} {m : Str → Option Value}, (∀ v, (x, v) ∉ binds) → bindC kindOf binds m x = m x
  | [], _, _ => rfl
  | (n, v) :: r, m, h => by
    unfold bindC
    rw [bindC_out fun w hw => h w (List.mem_cons_of_mem _ hw)]
    split
    · rfl
    · have : x ≠ n := by rintro rfl; exact h v List.mem_cons_self
      simp [this]
theorem bindL_get {kindOf : Str → Option NameKind} {x : Str} {v : Value} : ∀ {P : List Str} {vs : List Value} {i : Nat} {m : Str → Option Value}, P.Nodup → P[i]? = some x → vs[i]? = some v → kindOf x = some .local →
    bindL kindOf (P.zip vs) m x = some v
  | [], _, _, _, _, h, _, _ => by simp at h
  | _ :: _, [], _, _, _, _, h, _ => by simp at h
  | p :: P, w :: vs, 0, m, nd, h1, h2, hk => by
    simp at h1 h2; subst h1; subst h2
    show bindL kindOf ((p, w) :: P.zip vs) m p = _
    unfold bindL
    rw [bindL_out fun v hv => (List.nodup_cons.mp nd).1 (List.of_mem_zip hv).1, if_pos hk]
    simp
  | p :: P, w :: vs, i + 1, m, nd, h1, h2, hk => by
    show bindL kindOf ((p, w) :: P.zip vs) m x = _
    unfold bindL
    exact bindL_get (i := i) (List.nodup_cons.mp nd).2 (by simpa using h1) (by simpa using h2) hk
theorem bindC_get {kindOf : Str → Option NameKind} {x : Str} {v : Value} : ∀ {P : List Str} {vs : List Value} {i : Nat} {m : Str → Option Value}, P.Nodup → P[i]? = some x → vs[i]? = some v → kindOf x ≠ some .local →
    bindC kindOf (P.zip vs) m x = some v
  | [], _, _, _, _, h, _, _ => by simp at h
  | _ :: _, [], _, _, _, _, h, _ => by simp at h
  | p :: P, w :: vs, 0, m, nd, h1, h2, hk => by
    simp at h1 h2; subst h1; subst h2
    show bindC kindOf ((p, w) :: P.zip vs) m p = _
    unfold bindC
    rw [bindC_out fun v hv => (List.nodup_cons.mp nd).1 (List.of_mem_zip hv).1, if_neg hk]
    simp
  | p :: P, w :: vs, i + 1, m, nd, h1, h2, hk => by
    show bindC kindOf ((p, w) :: P.zip vs) m x = _
    unfold bindC
    exact bindC_get (i := i) (List.nodup_cons.mp nd).2 (by simpa using h1) (by simpa using h2) hk

/-- the names' values at the entry -/
def start (N : List Str) (vs : List V) : St := vs.map some ++ List.replicate (N.length - vs.length) none

/-- the context of a def's body, at its entry; an exception leaves the frame, then lies as CX says -/
def cxOf (CX : CXT) (P : Program) (w : World) (K : PySem.W.Frag) (mg : Str → Option Value) (base : Heap) (N : List Str) (qual : Str) (scope : Scope) (f : Addr) (cd : Value) (A : Around) (outer : List Env) (s : Shared) (H : Hp) (E : XK) : Cx where
  prog := P
  w := w
  K := K
  mg := mg
  base := base
  A := A.deeper (envOfC qual scope s.heap.objs.size f cd)
  N := N
  s₀ := s
  H₀ := H
  env := envOfC qual scope s.heap.objs.size f cd
  outer := outer
  stack := envOfC qual scope s.heap.objs.size f cd :: outer
  ex := []
  calm := true
  fn := fun _ => true
  pn := []
  xe := fun e s' => wpAny (model P w) (A.deeper (envOfC qual scope s.heap.objs.size f cd)) (leaving (envOfC qual scope s.heap.objs.size f cd) e) (fun _ s'' => CX outer H s E e s'') (fun e' s'' => CX outer H s E e' s'') s'

theorem cell_has {sc : Scope} {n : Nat} {x : Str} (h : sc.names.lookup x = some .cell) : ∃ c, (cellsFrom n sc.names []).lookup x = some c := by
  have q := PySem.W.cellsFrom_some sc.names n [] (.inl h)
  exact Option.isSome_iff_exists.mp q

theorem inv_start {CX : CXT} {P : Program} {w : World} {K : PySem.W.Frag} {mg : Str → Option Value} {base : Heap} {N ps : List Str} {qual : Str} {scope : Scope} {f : Addr} {cd : Value} {A : Around} {outer : List Env} {s s1 : Shared} {H : Hp} {E : XK} {us : List Value} {vs : List V}
    (S : FnScope N ps scope) (hd : A.handled = none) (e0 : Env0 P w K mg base A outer s H) (hl : vs.length = ps.length) (r : Vals vs us)
    (x : InCallC s s.heap.objs.size (bindL (envOfC qual scope s.heap.objs.size f cd).kindOf (ps.zip us) fun _ => none) (cellsFrom (s.heap.objs.size + 1) scope.names []) (bindC (envOfC qual scope s.heap.objs.size f cd).kindOf (ps.zip us) fun _ => none) s1) :
    Inv (cxOf CX P w K mg base N qual scope f cd A outer s H E) [] (start N vs) H s1 := by
  have hpl : ps.length ≤ N.length := by have := congrArg List.length S.pre; rw [List.length_take] at this; omega
  obtain ⟨h1, tk, rfl, hk⟩ := x.done
  have noA : ∀ b : Addr, b ∉ (cxOf CX P w K mg base N qual scope f cd A outer s H E).ex := fun b z => absurd (show b ∈ ([] : List Addr) from z) (by simp)
  refine ⟨⟨e0.mod, S.kind, rfl, rfl, Nat.le_refl _, fun y z c h1 h2 => ?_, fun y hy => ?_, fun y c _ h => ?_, fun _ => hd, Around.frames_deeper e0.frames, .inr ⟨rfl, rfl⟩, fun b z => absurd z (noA b), e0.bs, e0.bsz, fun b _ _ => noA b, fun b z => absurd z (noA b), e0.funs, e0.frf⟩,
    rfl, e0.bare, Un.kept hk, ⟨_, x.toInCall.ns, fun i y v h1 h2 h3 => ?_⟩, fun y c h => ⟨_, x.cell y c h⟩, e0.hok.fresh (Nat.le_refl _), fun y c h => ?_, fun p hp => absurd (show p ∈ ([] : List (Addr × Obj)) from hp) (by simp), e0.hok.kept hk, ?_⟩
  · exact name_of_addr x.apart (PySem.mem_of_lookup h1) (PySem.mem_of_lookup h2)
  · have hy : scope.names.lookup y = some .cell ∨ scope.names.lookup y = some .free := hy
    rcases hy with hy | hy
    · exact cell_has hy
    · exact absurd rfl (S.nofree _ (PySem.mem_of_lookup hy))
  · exact Nat.le_of_lt (x.above y c (PySem.mem_of_lookup h))
  · have hi : i < vs.length := by
      unfold start at h2
      by_cases hi : i < vs.length
      · exact hi
      · rw [List.getElem?_append_right (by simpa using hi)] at h2
        rw [List.getElem?_replicate] at h2
        split at h2 <;> cases h2
    have ha : vs[i]? = some v := by
      unfold start at h2
      rw [List.getElem?_append_left (by simpa using hi), List.getElem?_map] at h2
      cases e : vs[i]? with
      | none => rw [e] at h2; cases h2
      | some a => rw [e] at h2; cases h2; rfl
    obtain ⟨u, hu, rv⟩ := r.get ha
    have hp : ps[i]? = some y := by
      rw [← S.pre, List.getElem?_take_of_lt (by omega)]; exact h1
    have ndP : ps.Nodup := by rw [← S.pre]; exact S.nd.sublist (List.take_sublist _ _)
    refine ⟨u, rv, ?_⟩
    rcases S.par y (List.mem_of_getElem? hp) with k | k
    · exact .inl ⟨k, bindL_get ndP hp hu k⟩
    · obtain ⟨c, e⟩ := cell_has (n := s.heap.objs.size + 1) k
      refine .inr ⟨.inl k, c, e, ?_⟩
      have q := x.cell y c e
      rw [bindC_get ndP hp hu (by show scope.names.lookup y ≠ _; rw [k]; decide)] at q
      exact q
  · exact e0.hok.fresh (Nat.le_of_lt (x.above y c (PySem.mem_of_lookup h)))
  · unfold start
    show _ = N.length
    rw [List.length_append, List.length_map, List.length_replicate]
    omega

/-- THE RULE: a def (or a method) of the text, by its body. The body's reading t is chosen for each entry; it is run at the parameters' values -/
theorem fn_of {CX : CXT} {P : Program} {w : World} {K : PySem.W.Frag} {mg : Str → Option Value} {base : Heap} {k : Nat} {f : Addr} {name qual : Str} {params : Arguments} {body : List Stmt} {scope : Scope} {dV kV doc pm cdv ct oc : Value} {an od : Option Addr}
    {osl : Array (Option Value)} {N ps : List Str} {sp : Sp} (lk : K.lookup f = some ⟨oc, od, .func (PySem.W.fnOf name qual params body scope dV kV doc pm an cdv ct), osl⟩) (hcd : PySem.W.codeIn K cdv qual = true) (S : FnScope N ps scope)
    (len : ∀ vs H Q E, sp vs H Q E → vs.length = ps.length)
    (hbody : ∀ (A : Around) (outer : List Env) (s : Shared) (H : Hp) (vs : List V) (Q : VK) (E : XK), Room k (A.deeper (envOfC qual scope s.heap.objs.size f cdv)) → sp vs H Q E →
      ∃ t, PSs (cxOf CX P w K mg base N qual scope f cdv A outer s H E) body t ∧ t { nx := fun _ H' => Q .non H', rt := Q } (start N vs) H) :
    FnOk P w K mg base CX (k + 1) f (PySem.W.fnOf name qual params body scope dV kV doc pm an cdv ct) ps sp := by
  refine ⟨len, fun A outer s H args us vs Q E hr e0 hb r hsp => ?_⟩
  have hl := len _ _ _ _ hsp
  have KX : K.In s.heap := e0.mod.kin.keeps fun b o e => (e0.bs b o e).1
  have lim : s.heap.NoLimit := e0.mod.nolimit.keeps fun b o e => (e0.bs b o e).1
  have hkind : ∀ y ∈ ps.zip us, scope.names.lookup y.1 = some .local ∨ (scope.names.lookup y.1 = some .cell ∧ ((cellsFrom (s.heap.objs.size + 1) scope.names []).lookup y.1).isSome = true) := fun ⟨n, v⟩ hy => by
    rcases S.par n (List.of_mem_zip hy).1 with q | q
    · exact .inl q
    · exact .inr ⟨q, PySem.W.cellsFrom_some _ _ _ (.inl q)⟩
  refine codeAny_call_function hr.depth (KX _ _ lk) rfl S.co S.gen rfl (PySem.W.codeRec_of KX hcd) (hb _ _ _ _ ?_)
  refine wpAny_newFunctionEnv_cells S.kind hkind fun env he s1 x => ?_
  subst he
  refine ⟨lim.keeps x.toInCall.keep, codeAny_func ?_⟩
  obtain ⟨t, ht, hq⟩ := hbody A outer s H vs Q E (hr.deeper _) hsp
  have I : Inv (cxOf CX P w K mg base N qual scope f cdv A outer s H E) [] (start N vs) H s1 := inv_start S hr.hd e0 hl r x
  refine wpAny_mono (ht [] s1 (start N vs) H _ I hq) (fun fl s' hs => ?_) fun e s' hs => hs
  have fin : ∀ {σ' : St} {H' : Hp} {v : V} {u : Value}, Inv (cxOf CX P w K mg base N qual scope f cdv A outer s H E) [] σ' H' s' → RelV v u → Q v H' → CE outer P w H s Q u s' :=
    fun {σ' H' v u} J rv q => ⟨v, H', J.os, J.bare, J.base, J.hok, rv, q⟩
  cases fl with
  | ret u =>
    obtain ⟨v, σ', H', J, rv, q⟩ := hs
    exact fin J rv q
  | next =>
    obtain ⟨σ', H', J, q⟩ := hs
    exact fin (v := V.non) (u := Value.none) J rfl q
  | brk =>
    obtain ⟨_, _, _, q⟩ := hs
    exact False.elim q
  | cont =>
    obtain ⟨_, _, _, q⟩ := hs
    exact False.elim q
end L2

namespace L2
open PySem PySem.Spec PyProof.Rows
section
variable {X : Cx} {x : Str} {p pos : Pos} {e : Expr} {es : List Expr} {t : TA} {id T : String} {r : List V → Hp → VK → Prop}

def tCB (r : List V → Hp → VK → Prop) (t : TA) : TE := fun σ H Q => t σ H fun vs H1 => r vs H1 Q
/-- f(e, ..), f a built-in function -/
theorem pe_callB (hc : CallR X (.builtin id) r) (hg : Gl X x) (hm : X.mg x = none) (hv : bootBuiltins x = some (.builtin id)) (ha : PA X (e :: es) t) (hn : x ≠ "__name__" := by decide) (hdb : (x == ("__debug__" : Str)) = false := by decide)
    (he : starEach (e :: es) X.env = (false, eval e X.env) :: starEach es X.env := by rfl) (hpl : (backTo pos (starEach es X.env)).any (·.1) = false := by rfl) : PE X (.Call (.Name x p) (e :: es) [] pos) (tCB r t) := by
  intro pins s σ H Q I h
  refine wpAny_Call_Name_kw (ld_blt I hg hm hv ?_ hn hdb)
  exact PyProof.Rows.callWith_builtin1 (thn (ha pos pins s σ H _ I h) fun us s1 ⟨vs, H1, I1, r1, q1⟩ => hc pins s1 σ H1 vs us Q I1 r1 q1) he hpl
/-- T(e, ..), T a built-in type -/
theorem pe_callTy (hc : CallR X (.type T) r) (hg : Gl X x) (hm : X.mg x = none) (hv : bootBuiltins x = some (.type T)) (ha : PA X (e :: es) t) (hn : x ≠ "__name__" := by decide) (hdb : (x == ("__debug__" : Str)) = false := by decide)
    (he : starEach (e :: es) X.env = (false, eval e X.env) :: starEach es X.env := by rfl) (hpl : (backTo pos (starEach es X.env)).any (·.1) = false := by rfl) : PE X (.Call (.Name x p) (e :: es) [] pos) (tCB r t) := by
  intro pins s σ H Q I h
  refine wpAny_Call_Name_kw (ld_blt I hg hm hv ?_ hn hdb)
  exact PyProof.Rows.callWith_type1 (thn (ha pos pins s σ H _ I h) fun us s1 ⟨vs, H1, I1, r1, q1⟩ => hc pins s1 σ H1 vs us Q I1 r1 q1) he hpl
end
end L2

namespace HT
open PySem PyProof.Rows

section
open PySem.SeqAt
open PySem.AutoSeq1 (wpAny_loadPart')
open PySem.MeetsSeq PySem.MeetsSeq2 PySem.MeetsSeq3

end

section
variable {prog : Program} {w : World} {A : Around} {E : Value → Shared → Prop} {s : Shared}

/-! ### t[a:b], not the whole -/
/-- a slice's bound as a place among n (d where it is left out) -/
def sIx (n d : Nat) : Option Int → Nat
  | none => d
  | some v => if v < 0 then (v + (n : Int)).toNat else min v.toNat n
theorem sIx_nat (n d k : Nat) : sIx n d (some (k : Int)) = min k n := by
  show (if (k : Int) < 0 then ((k : Int) + (n : Int)).toNat else min (k : Int).toNat n) = min k n
  rw [if_neg (by omega), Int.toNat_natCast]
end
end HT

namespace L2
open PySem PySem.Spec PyProof.Rows

/-! ### the parts of a slice -/
abbrev TO := St → Hp → (Option Int → Hp → Prop) → Prop
/-- a slice's part (left out, or an int) -/
def PO (X : Cx) (e : Option Expr) (t : TO) : Prop :=
  ∀ (pins : List (Addr × Obj)) (s : Shared) (σ : St) (H : Hp) (Q : Option Int → Hp → Prop), Inv X pins σ H s → t σ H Q →
    wpAny (model X.prog X.w) X.A (evalPart e X.env) (fun u s' => ∃ o H', Inv X pins σ H' s' ∧ IsPart u o ∧ Q o H') X.xe s
def tNoPart : TO := fun _ H Q => Q none H
def tPart (t : TE) : TO := fun σ H Q => t σ H fun x H1 => ∃ i, x = .int i ∧ Q (some i) H1

theorem intsAre_of {ns : List Int} : ∀ {us : List Value}, Vals (ns.map V.int) us → IntsAre us ns := by
  induction ns with
  | nil => intro us r; rw [List.map_nil] at r; cases r; exact .nil
  | cons n ns ih =>
    intro us r
    rw [List.map_cons] at r
    cases r with
    | cons r1 r2 =>
      obtain ⟨t, e⟩ := r1
      subst e
      exact .cons n t (ih r2)

section
variable {X : Cx} {e : Expr} {te : TE} {lo hi : Option Expr} {tl th : TO} {pos p2 : Pos}

theorem po_none : PO X none tNoPart := by
  intro pins s σ H Q I h
  rw [evalPart_none]
  exact wpAny_pure ⟨none, H, I, .none, h⟩
theorem po_some (h : PE X e te) : PO X (some e) (tPart te) := by
  intro pins s σ H Q I hw
  rw [evalPart_some]
  refine thn (h pins s σ H _ I hw) fun u s1 ⟨x, H1, I1, r1, q1⟩ => ?_
  obtain ⟨i, rfl, q⟩ := q1
  obtain ⟨t, rfl⟩ := r1
  exact ⟨some i, H1, I1, .int i t, q⟩

/-- what a slice of a value is, by values: the slice object stands at sl -/
def SlR (X : Cx) (r : V → Option Int → Option Int → Hp → VK → Prop) : Prop :=
  ∀ (pins : List (Addr × Obj)) (s : Shared) (σ : St) (H : Hp) (x : V) (v vl vu : Value) (lo hi : Option Int) (sl : Addr) (Q : VK), Inv X pins σ H s → RelV x v → s.heap.IsSliceOf sl vl vu .none → IsPart vl lo → IsPart vu hi → r x lo hi H Q →
    ∃ T id, typeLookup (.type T) "__getitem__" = pure (some (.builtin id)) ∧ s.TypeIs v T ∧ wpAny (model X.prog X.w) X.A (getItem v (.ref sl)) (EP X pins σ Q) X.xe s
def tSl (r : V → Option Int → Option Int → Hp → VK → Prop) (te : TE) (tl th : TO) : TE := fun σ H Q => te σ H fun x H1 => tl σ H1 fun l H2 => th σ H2 fun u H3 => r x l u H3 Q
/-- a[lo:hi], any a -/
theorem pe_slice {r : V → Option Int → Option Int → Hp → VK → Prop} (hr : SlR X r) (he : PE X e te) (hl : PO X lo tl) (hu : PO X hi th) : PE X (.Subscript e (.Slice lo hi none p2) pos) (tSl r te tl th) := by
  intro pins s σ H Q I h
  refine Subscript_ (thn (he pins s σ H _ I h) fun v s1 ⟨x, H1, I1, r1, q1⟩ => ?_)
  refine wpAny_Slice (thn (hl pins s1 σ H1 _ I1 q1) fun vl s2 ⟨l, H2, I2, pl, q2⟩ => thn (hu pins s2 σ H2 _ I2 q2) fun vu s3 ⟨u, H3, I3, pu, q3⟩ => ?_)
  rw [evalPart_none]
  refine wpAny_pure ?_
  have I4 : Inv X pins σ H3 { s3 with heap := s3.heap.push { cls := .type "slice", data := .fields #[vl, vu, .none] } } := I3.kept (t' := s3.toks) fun b ob q => Heap.get?_push_of_some _ q
  obtain ⟨T, id, hT, ht, hg⟩ := hr pins { s3 with heap := s3.heap.push { cls := .type "slice", data := .fields #[vl, vu, .none] } } σ H3 x v vl vu l u s3.heap.objs.size Q I4 r1 (Heap.IsSliceOf.new ..) pl pu q3
  show wpAny (model X.prog X.w) X.A (subscriptTail e (.Slice lo hi none p2) v (.ref s3.heap.objs.size)) (EP X pins σ Q) X.xe { s3 with heap := s3.heap.push { cls := .type "slice", data := .fields #[vl, vu, .none] } }
  exact tail_any (ops := [.ref s3.heap.objs.size, v]) ht hT hg (by with_unfolding_all rfl)

/-- the items of xs[lo:hi] -/
def cutV (xs : List V) (lo hi : Option Int) : List V := (xs.drop (HT.sIx xs.length 0 lo)).take (HT.sIx xs.length xs.length hi - HT.sIx xs.length 0 lo)
theorem cutV_length (xs : List V) (lo hi : Option Int) : (cutV xs lo hi).length ≤ xs.length := by
  unfold cutV
  rw [List.length_take, List.length_drop]
  omega
/-! ### t < u, t + u -/
end
end L2

namespace L2
open PySem PySem.Spec PyProof.Rows

/-! ### places -/
/-- the place that an index of any sign means -/
def ixN (n : Nat) (i : Int) : Option Nat := if 0 ≤ i then (if i < n then some i.toNat else none) else if -(n : Int) ≤ i then some (i + n).toNat else none
def atI {α : Type} (xs : List α) (i : Int) : Option α := (ixN xs.length i).bind fun j => xs[j]?
theorem ixN_seq {n : Nat} {i : Int} {j : Nat} (h : ixN n i = some j) : seqIndex? i n = some j ∧ j < n ∧ -(n : Int) ≤ i ∧ i < n := by
  unfold ixN at h
  by_cases h0 : 0 ≤ i
  · rw [if_pos h0] at h
    by_cases h1 : i < n
    · rw [if_pos h1] at h
      have e : i.toNat = j := Option.some.inj h
      exact ⟨by rw [seqIndex_of h0 h1, e], by omega, by omega, h1⟩
    · rw [if_neg h1] at h; cases h
  · rw [if_neg h0] at h
    by_cases h1 : -(n : Int) ≤ i
    · rw [if_pos h1] at h
      have e : (i + n).toNat = j := Option.some.inj h
      exact ⟨by rw [seqIndex_neg (by omega) h1, e], by omega, h1, by omega⟩
    · rw [if_neg h1] at h; cases h
theorem atI_get {α : Type} {xs : List α} {i : Int} {v : α} (h : atI xs i = some v) : ∃ j, seqIndex? i xs.length = some j ∧ xs[j]? = some v ∧ j < xs.length ∧ -(xs.length : Int) ≤ i ∧ i < xs.length := by
  unfold atI at h
  cases e : ixN xs.length i with
  | none => rw [e] at h; cases h
  | some j =>
    rw [e] at h
    obtain ⟨h1, h2, h3, h4⟩ := ixN_seq e
    exact ⟨j, h1, h, h2, h3, h4⟩
theorem atI_nat {α : Type} {xs : List α} {j : Nat} {v : α} (h : xs[j]? = some v) : atI xs (j : Int) = some v := by
  have hj : j < xs.length := (List.getElem?_eq_some_iff.mp h).1
  have e : ixN xs.length (j : Int) = some j := by
    unfold ixN
    rw [if_pos (by omega), if_pos (by omega)]; simp
  unfold atI; rw [e]; exact h
/-! ### what may be subscripted -/
/-- what stands as an index of a plain subscript -/
def PlainIx (b : Expr) : Prop := ∀ o i, subscripted b false o i = operate [o, i] (getItem o i)
/-- a subscript by values -/
def IxR (X : Cx) (r : R2) : Prop :=
  ∀ (value slice : Expr) (pins : List (Addr × Obj)) (s : Shared) (σ : St) (H : Hp) (x y : V) (v u : Value) (Q : VK), Inv X pins σ H s → RelV x v → RelV y u → r x y H Q →
    subscripted slice false v u = operate [v, u] (getItem v u) → wpAny (model X.prog X.w) X.A (subscriptTail value slice v u) (EP X pins σ Q) X.xe s
/-- a call of a builtin's method by values: the receiver, the arguments -/
def MtR (X : Cx) (id : String) (r : V → List V → Hp → VK → Prop) : Prop :=
  ∀ (pins : List (Addr × Obj)) (s : Shared) (σ : St) (H : Hp) (x : V) (xs : List V) (v : Value) (us : List Value) (Q : VK), Inv X pins σ H s → RelV x v → Vals xs us → r x xs H Q →
    wpAny (model X.prog X.w) X.A (call (.builtin id) (v :: us)) (EP X pins σ Q) X.xe s
section
variable {X : Cx} {a b : Expr} {ta tb : TE} {pos : Pos}
/-- a[b] -/
theorem pe_ix {r : R2} (hr : IxR X r) (ha : PE X a ta) (hb : PE X b tb) (hs : PlainIx b) : PE X (.Subscript a b pos) (tOp r ta tb) := by
  intro pins s σ H Q I h
  exact Subscript_ (binT ha hb I h fun v u s2 x y H2 I2 rx ry q => hr a b pins s2 σ H2 x y v u Q I2 rx ry q (hs _ _))

def rIxL (K : PySem.W.Frag) : R2 := fun x y H Q => ∃ p xs i v, x = .ref p ∧ y = .int i ∧ SqL K H p xs ∧ atI xs i = some v ∧ Q v H
def rIxT (K : PySem.W.Frag) : R2 := fun x y H Q => ∃ p xs i v, x = .ref p ∧ y = .int i ∧ SqT K H p xs ∧ atI xs i = some v ∧ Q v H
theorem ix_list : IxR X (rIxL X.K) := by
  intro value slice pins s σ H x y v u Q I rx ry h hs
  obtain ⟨p, xs, i, z, rfl, rfl, hq, he, q⟩ := h
  cases rx
  obtain ⟨t, rfl⟩ := ry
  obtain ⟨its, r, pl, hz⟩ := I.list hq
  obtain ⟨j, h1, h2, h3, h4, h5⟩ := atI_get he
  obtain ⟨w, ew, rw'⟩ := r.get h2
  have hl := r.length
  have hn := line63
  have fin : EP X pins σ Q w s := ⟨z, H, I, rw', q⟩
  by_cases h0 : 0 ≤ i
  · have hj : i.toNat = j := by
      rw [seqIndex_of h0 h5] at h1
      exact Option.some.inj h1
    exact item_listR pl.isList h0 (by omega) (by rw [hj]; simpa using ew) fin hs
  · have hj : (i + (its.toArray.size : Int)).toNat = j := by
      rw [seqIndex_neg (by omega) h4] at h1
      rw [List.size_toArray, ← hl]
      exact Option.some.inj h1
    exact subscriptTail_builtinR (x := w) pl.isList.typeIs slot_list_getitem.lookup
      (wpAny_getItem_list_neg (Q := fun r s' => r = w ∧ EP X pins σ Q r s') pl.isList (by omega) (by rw [List.size_toArray] <;> omega) (by omega) (by rw [hj]; simpa using ew) ⟨rfl, fin⟩) hs
theorem ix_tup : IxR X (rIxT X.K) := by
  intro value slice pins s σ H x y v u Q I rx ry h hs
  obtain ⟨p, xs, i, z, rfl, rfl, hq, he, q⟩ := h
  cases rx
  obtain ⟨t, rfl⟩ := ry
  obtain ⟨its, r, pl, hz⟩ := I.tuple hq
  obtain ⟨j, h1, h2, h3, h4, h5⟩ := atI_get he
  obtain ⟨w, ew, rw'⟩ := r.get h2
  have hl := r.length
  have hn := line63
  have fin : EP X pins σ Q w s := ⟨z, H, I, rw', q⟩
  exact subscriptTail_builtinR (x := w) pl.typeIs slot_tuple_getitem.lookup
    (getItem_tuple (j := j) (Q := fun r s' => r = w ∧ EP X pins σ Q r s') pl (by omega) (by omega) (by rw [List.size_toArray, ← hl]; exact h1) (by simpa using ew) ⟨rfl, fin⟩) hs
/-! ### xs[i] = v, any sign -/
/-- the list's object behind a store -/
theorem mapSeq_set (its : List Value) (n j : Nat) (u : Value) : Obj.mapSeq (·.setIfInBounds j u) { cls := .type "list", data := .seq its.toArray n } = { cls := .type "list", data := .seq (its.set j u).toArray n } := by
  simp [Obj.mapSeq]
theorem Inv.lst {pins : List (Addr × Obj)} {σ : St} {H : Hp} {s : Shared} {p : Addr} {xs : List V} (I : Inv X pins σ H s) (h : H p = some (.lst xs)) :
    ∃ (its : List Value) (n : Nat), Vals xs its ∧ s.heap.get? p = some { cls := .type "list", data := .seq its.toArray n } ∧ xs.length ≤ sizeLine := by
  obtain ⟨z, its, n, r, e⟩ := I.hok p _ h
  exact ⟨its, n, r, e, z⟩
/-- the list at p is written by an update of its object -/
theorem Inv.lstUpd {pins : List (Addr × Obj)} {σ : St} {H : Hp} {s : Shared} {p : Addr} {xs ys : List V} {its its' : List Value} {n n' : Nat} {f : Obj → Obj} (I : Inv X pins σ H s) (h : H p = some (.lst xs))
    (ho : s.heap.get? p = some { cls := .type "list", data := .seq its.toArray n }) (hf : f { cls := .type "list", data := .seq its.toArray n } = { cls := .type "list", data := .seq its'.toArray n' }) (r : Vals ys its') (hz : ys.length ≤ sizeLine) (t : Nat) :
    Inv X pins σ (upd H p (.lst ys)) { s with heap := s.heap.update p f, toks := t } := by
  have e : (s.heap.update p f).get? p = some { cls := .type "list", data := .seq its'.toArray n' } := by
    rw [Heap.get?_update_self f ho (by rw [hf] <;> rfl), hf]
  refine I.write (x := p) (e := p) (by rw [h]; trivial) (.inl rfl) (fun b u hb q => (Heap.get?_update_other _ _ (Ne.symm hb)).trans q) ⟨_, e⟩ ?_
  exact ⟨hz, its', n', r, e⟩
def rSetL : V → V → V → Hp → (Hp → Prop) → Prop := fun o i v H Q => ∃ p xs k j, o = .ref p ∧ i = .int k ∧ H p = some (.lst xs) ∧ ixN xs.length k = some j ∧ Q (upd H p (.lst (xs.set j v)))
theorem set_list : PSet X rSetL := by
  intro pins s σ H o i v ov iv u Q I ro ri rv h
  obtain ⟨p, xs, k, j, rfl, rfl, hp, hj, q⟩ := h
  cases ro
  obtain ⟨t, rfl⟩ := ri
  obtain ⟨its, n, r, ho, hz⟩ := I.lst hp
  obtain ⟨h1, h2, h3, h4⟩ := ixN_seq hj
  have hl := r.length
  have hn := line63
  have I' : Inv X pins σ (upd H p (.lst (xs.set j v))) { s with heap := s.heap.update p (Obj.mapSeq (·.setIfInBounds j u)) } :=
    I.lstUpd hp ho (mapSeq_set its n j u) (r.set rv j) (by rw [List.length_set]; exact hz) s.toks
  by_cases h0 : 0 ≤ k
  · have hk : k.toNat = j := by
      rw [seqIndex_of h0 h4] at h1
      exact Option.some.inj h1
    exact PySem.W.ki_setAt ho h0 (by omega) (by rw [List.size_toArray, ← hl]; exact h4) (by rw [hk]; exact ⟨_, I', q⟩)
  · have hk : (k + (its.toArray.size : Int)).toNat = j := by
      rw [seqIndex_neg (by omega) h3] at h1
      rw [List.size_toArray, ← hl]
      exact Option.some.inj h1
    exact PySem.W.ki_setBack ho (by omega) (by rw [List.size_toArray, ← hl]; exact h3) (by omega) (by rw [hk]; exact ⟨_, I', q⟩)

/-! ### slices -/
theorem slice_bounds (lo hi : Option Int) (n : Nat) : (sliceBounds lo hi none n).1 = ((HT.sIx n 0 lo : Nat) : Int) ∧ (sliceBounds lo hi none n).2.1 = ((HT.sIx n n hi : Nat) : Int) ∧ (sliceBounds lo hi none n).2.2 = 1 := by
  refine ⟨?_, ?_, rfl⟩
  · cases lo with
    | none => simp [sliceBounds, HT.sIx]
    | some i =>
      simp only [sliceBounds, HT.sIx, Option.getD_none, show (1 : Int) > 0 by decide, if_true]
      by_cases h : i < 0
      · simp only [h, if_true] <;> omega
      · simp only [h, if_false] <;> omega
  · cases hi with
    | none => simp [sliceBounds, HT.sIx]
    | some i =>
      simp only [sliceBounds, HT.sIx, Option.getD_none, show (1 : Int) > 0 by decide, if_true]
      by_cases h : i < 0
      · simp only [h, if_true] <;> omega
      · simp only [h, if_false] <;> omega
theorem slicePick_cut (its : List Value) (lo hi : Option Int) : slicePick its.toArray lo hi none = ((its.drop (HT.sIx its.length 0 lo)).take (HT.sIx its.length its.length hi - HT.sIx its.length 0 lo)).toArray := by
  obtain ⟨h1, h2, h3⟩ := slice_bounds lo hi its.toArray.size
  unfold slicePick
  rw [h1, h2, h3]
  simp only [sliceRange_one, pick_run, List.size_toArray] <;> rfl
/-- xs[lo:hi] of a list: a new list -/
def rSlL (K : PySem.W.Frag) : V → Option Int → Option Int → Hp → VK → Prop := fun x lo hi H Q => ∃ a xs, x = .ref a ∧ SqL K H a xs ∧ ∀ p, H p = none → Q (.ref p) (upd H p (.lst (cutV xs lo hi)))
theorem sl_list : SlR X (rSlL X.K) := by
  intro pins s σ H x v vl vu lo hi sl Q I rx hs pl pu h
  obtain ⟨a, xs, rfl, hx, q⟩ := h
  cases rx
  obtain ⟨its, r, ht, hz⟩ := I.list hx
  have hlen := r.length
  refine ⟨"list", _, slot_list_getitem.lookup, ht.isList.typeIs, ?_⟩
  refine wpAny_getItem_list_slice ht.isList hs pl pu .none (by simp) ?_ (by rw [List.size_toArray] <;> omega)
  rw [slicePick_cut, ← hlen]
  refine ⟨.ref s.heap.objs.size, _, I.laid (t' := s.toks) (o := .lst (cutV xs lo hi)) (fun b ob q => Heap.get?_push_of_some _ q) (Nat.le_refl _) ?_, rfl, q _ (I.hok.fresh (Nat.le_refl _))⟩
  exact ⟨Nat.le_trans (cutV_length xs lo hi) hz, _, 0, (r.drop (HT.sIx xs.length 0 lo)).take (HT.sIx xs.length xs.length hi - HT.sIx xs.length 0 lo), Heap.get?_push_size _ rfl⟩

/-! ### in, not in: flat items -/
def flatV : V → Bool
  | .non => true
  | .bl _ => true
  | .int _ => true
  | .str _ => true
  | _ => false
/-- == of flat values -/
def eqV : V → V → Bool
  | .non, .non => true
  | .bl a, .bl b => a == b
  | .bl a, .int b => (if a then 1 else 0) == b
  | .int a, .bl b => a == (if b then 1 else 0)
  | .int a, .int b => a == b
  | .str a, .str b => a == b
  | _, _ => false
theorem eqAt_V {A : Around} {s : Shared} {y x : V} {u v : Value} (ry : RelV y u) (rx : RelV x v) (fy : flatV y = true) (fx : flatV x = true) : SeqAt.EqAt A s u v (eqV y x) := by
  cases y with
  | non =>
    cases ry
    cases x with
    | non => cases rx; exact SeqAt.EqAt.same _
    | bl b => cases rx; exact SeqAt.EqAt.none_bool b
    | int b => obtain ⟨t, rfl⟩ := rx; exact SeqAt.EqAt.none_int b t
    | str b => obtain ⟨t, rfl⟩ := rx; exact SeqAt.EqAt.none_str b t
    | _ => exact absurd (show false = true from fx) Bool.false_ne_true
  | bl a =>
    cases ry
    cases x with
    | non => cases rx; exact SeqAt.EqAt.bool_none a
    | bl b => cases rx; exact SeqAt.EqAt.bool_bool a b
    | int b => obtain ⟨t, rfl⟩ := rx; exact SeqAt.EqAt.bool_int a b t
    | str b => obtain ⟨t, rfl⟩ := rx; exact SeqAt.EqAt.bool_str a b t
    | _ => exact absurd (show false = true from fx) Bool.false_ne_true
  | int a =>
    obtain ⟨t', rfl⟩ := ry
    cases x with
    | non => cases rx; exact SeqAt.EqAt.int_none a t'
    | bl b => cases rx; exact SeqAt.EqAt.int_bool a t' b
    | int b => obtain ⟨t, rfl⟩ := rx; exact SeqAt.EqAt.int_int a t' b t
    | str b => obtain ⟨t, rfl⟩ := rx; exact SeqAt.EqAt.int_str a t' b t
    | _ => exact absurd (show false = true from fx) Bool.false_ne_true
  | str a =>
    obtain ⟨t', rfl⟩ := ry
    cases x with
    | non => cases rx; exact SeqAt.EqAt.str_none a t'
    | bl b => cases rx; exact SeqAt.EqAt.str_bool a t' b
    | int b => obtain ⟨t, rfl⟩ := rx; exact SeqAt.EqAt.str_int a t' b t
    | str b => obtain ⟨t, rfl⟩ := rx; exact SeqAt.EqAt.str_str a t' b t
    | _ => exact absurd (show false = true from fx) Bool.false_ne_true
  | _ => exact absurd (show false = true from fy) Bool.false_ne_true
/-- the items' answers, read off the values (a value's own answer does not lean on its token) -/
def eqU (x : V) (u : Value) : Bool := match u with
  | .none => eqV .non x
  | .bool b => eqV (.bl b) x
  | .int i _ => eqV (.int i) x
  | .str z _ => eqV (.str z) x
  | _ => false
theorem eqU_of {x y : V} {u : Value} (r : RelV y u) (f : flatV y = true) : eqU x u = eqV y x := by
  cases y with
  | non => cases r; rfl
  | bl b => cases r; rfl
  | int i => obtain ⟨t, rfl⟩ := r; rfl
  | str z => obtain ⟨t, rfl⟩ := r; rfl
  | _ => exact absurd (show false = true from f) Bool.false_ne_true
theorem any_eqU {x : V} : ∀ {xs : List V} {us : List Value}, Vals xs us → xs.all flatV = true → us.any (eqU x) = xs.any fun y => eqV y x
  | _, _, .nil, _ => rfl
  | y :: xs, u :: us, .cons r t, f => by
    rw [List.all_cons, Bool.and_eq_true] at f
    rw [List.any_cons, List.any_cons, eqU_of r f.1, any_eqU t f.2]
theorem mem_eqAt {A : Around} {s : Shared} {x : V} {v : Value} (rx : RelV x v) (fx : flatV x = true) : ∀ {xs : List V} {us : List Value}, Vals xs us → xs.all flatV = true → ∀ u ∈ us, SeqAt.EqAt A s u v (eqU x u)
  | _, _, .nil, _ => fun u hu => by cases hu
  | y :: xs, u :: us, .cons r t, f => fun u' hu => by
    rw [List.all_cons, Bool.and_eq_true] at f
    rcases List.mem_cons.mp hu with rfl | hu
    · rw [eqU_of r f.1]; exact eqAt_V r rx f.1 fx
    · exact mem_eqAt rx fx t f.2 u' hu
def inV (x : V) (xs : List V) : Bool := xs.any fun y => eqV y x
/-- x in a list or tuple of flat items -/
def rIn (K : PySem.W.Frag) (neg : Bool) : R2 := fun x y H Q => ∃ p xs, y = .ref p ∧ (SqL K H p xs ∨ SqT K H p xs) ∧ flatV x = true ∧ xs.all flatV = true ∧ Q (.bl (if neg then !inV x xs else inV x xs)) H
theorem op_in_seq : OpR X (compareOp .In) (rIn X.K false) := by
  intro pins s σ H x y v u Q I rx ry h
  obtain ⟨p, xs, rfl, hq, fx, fs, q⟩ := h
  cases ry
  rcases hq with hq | hq
  · obtain ⟨its, r, pl, hz⟩ := I.list hq
    refine SeqAt.in_listAt (eqU x) pl.isList (fun w hw => mem_eqAt rx fx r fs w (by simpa using hw)) ⟨.bl _, H, I, rfl, ?_⟩
    rw [show its.toArray.any (eqU x) = its.any (eqU x) by simp, any_eqU r fs]
    exact q
  · obtain ⟨its, r, pl, hz⟩ := I.tuple hq
    refine SeqAt.in_tupleAt (eqU x) pl (fun w hw => mem_eqAt rx fx r fs w (by simpa using hw)) ⟨.bl _, H, I, rfl, ?_⟩
    rw [show its.toArray.any (eqU x) = its.any (eqU x) by simp, any_eqU r fs]
    exact q
theorem op_notIn_seq : OpR X (compareOp .NotIn) (rIn X.K true) := by
  intro pins s σ H x y v u Q I rx ry h
  obtain ⟨p, xs, rfl, hq, fx, fs, q⟩ := h
  cases ry
  rcases hq with hq | hq
  · obtain ⟨its, r, pl, hz⟩ := I.list hq
    refine SeqAt.notIn_listAt (eqU x) pl.isList (fun w hw => mem_eqAt rx fx r fs w (by simpa using hw)) ⟨.bl _, H, I, rfl, ?_⟩
    rw [show its.toArray.any (eqU x) = its.any (eqU x) by simp, any_eqU r fs]
    exact q
  · obtain ⟨its, r, pl, hz⟩ := I.tuple hq
    refine SeqAt.notIn_tupleAt (eqU x) pl (fun w hw => mem_eqAt rx fx r fs w (by simpa using hw)) ⟨.bl _, H, I, rfl, ?_⟩
    rw [show its.toArray.any (eqU x) = its.any (eqU x) by simp, any_eqU r fs]
    exact q
/-! ### len, list(x), tuple(x) of any list or tuple that is read -/
theorem call_len_seq : CallR X (.builtin "len") (fun xs H Q => ∃ p ys, xs = [.ref p] ∧ (SqL X.K H p ys ∨ SqT X.K H p ys) ∧ Q (.int ys.length) H) := by
  intro pins s σ H xs us Q I r h
  obtain ⟨p, ys, rfl, hq, q⟩ := h
  obtain ⟨u, rfl, rx⟩ := vals1 r
  cases rx
  have hn := line63
  rcases hq with hq | hq
  · obtain ⟨its, r', pl, hz⟩ := I.list hq
    have hlen := r'.length
    exact Calls.call_len_list pl.isList (by simp only [List.size_toArray] <;> omega) ⟨.int ys.length, H, I.tok _, ⟨s.toks + 1, by rw [List.size_toArray, hlen]⟩, q⟩
  · obtain ⟨its, r', pl, hz⟩ := I.tuple hq
    have hlen := r'.length
    exact len_tuple pl (by simp only [List.size_toArray] <;> omega) ⟨.int ys.length, H, I.tok _, ⟨s.toks + 1, by rw [List.size_toArray, hlen]⟩, q⟩
theorem call_list_of : CallR X (.type "list") (fun xs H Q => ∃ p ys, xs = [.ref p] ∧ (SqL X.K H p ys ∨ SqT X.K H p ys) ∧ ∀ l, H l = none → Q (.ref l) (upd H l (.lst ys))) := by
  intro pins s σ H xs us Q I r h
  obtain ⟨p, ys, rfl, hq, q⟩ := h
  obtain ⟨u, rfl, rx⟩ := vals1 r
  cases rx
  have fin : ∀ (its : List Value), Vals ys its → ys.length ≤ sizeLine → ∀ (h' : Heap) (c' : Nat), (∀ b o', s.heap.get? b = some o' → h'.get? b = some o') →
      h'.get? s.heap.objs.size = some { cls := .type "list", dict := none, data := .seq its.toArray c', slots := #[] } → EP X pins σ Q (.ref s.heap.objs.size) { s with heap := h' } := fun its r' hz h' c' kp e =>
    ⟨.ref s.heap.objs.size, _, I.laid (t' := s.toks) kp (Nat.le_refl _) (show ObjOk X.prog X.w _ h' _ (.lst ys) from ⟨hz, its, c', r', e⟩), rfl, q _ (I.hok.fresh (Nat.le_refl _))⟩
  rcases hq with hq | hq
  · obtain ⟨its, r', pl, hz⟩ := I.list hq
    have hlen := r'.length
    obtain ⟨o, ho, hc, n, hd⟩ := pl.isList
    exact call_list_seq p (.inl rfl) ho hc hd (fun h' c' kp e => fin its r' hz h' c' kp e) (by simp only [List.size_toArray] <;> omega)
  · obtain ⟨its, r', pl, hz⟩ := I.tuple hq
    have hlen := r'.length
    obtain ⟨o, ho, hc, n, hd⟩ := pl
    exact call_list_seq p (.inr rfl) ho hc hd (fun h' c' kp e => fin its r' hz h' c' kp e) (by simp only [List.size_toArray] <;> omega)
theorem call_tuple_of : CallR X (.type "tuple") (fun xs H Q => ∃ p ys, xs = [.ref p] ∧ ((SqL X.K H p ys ∧ ∀ l, H l = none → Q (.ref l) (upd H l (.tup ys))) ∨ (SqT X.K H p ys ∧ Q (.ref p) H))) := by
  intro pins s σ H xs us Q I r h
  obtain ⟨p, ys, rfl, h⟩ := h
  obtain ⟨u, rfl, rx⟩ := vals1 r
  cases rx
  rcases h with ⟨hq, q⟩ | ⟨hq, q⟩
  · obtain ⟨its, r', pl, hz⟩ := I.list hq
    have hlen := r'.length
    refine call_tuple_list pl.isList (fun h' kp => ?_) (by simp only [List.size_toArray] <;> omega)
    have I1 : Inv X pins σ H { s with heap := h' } := I.kept (t' := s.toks) kp
    have I2 : Inv X pins σ (upd H h'.objs.size (.tup ys)) { s with heap := h'.push { cls := .type "tuple", data := .seq its.toArray } } :=
      I1.laid (t' := s.toks) (fun b o e => Heap.get?_push_of_some _ e) (Nat.le_refl _) (show ObjOk X.prog X.w _ _ _ (.tup ys) from ⟨hz, its, r', IsTup.new _ _⟩)
    exact ⟨.ref h'.objs.size, _, I2, rfl, q _ (I1.hok.fresh (Nat.le_refl _))⟩
  · obtain ⟨its, r', pl, hz⟩ := I.tuple hq
    exact call_tuple_same pl ⟨.ref p, H, I, rfl, q⟩

/-! ### the call of a builtin's method: o.m(..) -/
/-- the value is of that builtin type -/
def tyV (K : PySem.W.Frag) (T : String) (x : V) (H : Hp) : Prop := match x with
  | .str _ => T = "str"
  | .int _ => T = "int"
  | .ref p => (T = "list" ∧ ∃ xs, SqL K H p xs) ∨ (T = "tuple" ∧ ∃ o, K.lookup p = some o ∧ o.cls = .type "tuple" ∧ o.dict = none) ∨
      (T = "dict" ∧ ((∃ kvs, H p = some (.dK kvs)) ∨ ∃ kvs, H p = some (.dT kvs))) ∨ (T = "set" ∧ ∃ S n, H p = some (.set S n))
  | _ => False
theorem tyV_is {pins : List (Addr × Obj)} {σ : St} {H : Hp} {s : Shared} {T : String} {x : V} {v : Value} (I : Inv X pins σ H s) (r : RelV x v) (ty : tyV X.K T x H) :
    s.TypeIs v T ∧ ∀ a, v = .ref a → ∃ ob, s.heap.get? a = some ob ∧ ob.dict = none := by
  cases x with
  | str z =>
    obtain ⟨t, rfl⟩ := r
    cases (show T = "str" from ty)
    exact ⟨typeIs_str s z t, fun _ e => nomatch e⟩
  | int i =>
    obtain ⟨t, rfl⟩ := r
    cases (show T = "int" from ty)
    exact ⟨typeIs_int s i t, fun _ e => nomatch e⟩
  | ref p =>
    cases r
    rcases ty with ⟨rfl, xs, hq⟩ | ⟨rfl, o, hk, hc, hd⟩ | ⟨rfl, hk⟩ | ⟨rfl, S, n, hk⟩
    · obtain ⟨its, _, pl, _⟩ := I.list hq
      refine ⟨pl.isList.typeIs, fun a e => ?_⟩
      cases e
      obtain ⟨o, n, e, c, hd, _⟩ := pl
      exact ⟨o, e, hd⟩
    · refine ⟨⟨o, I.kIn p o hk, hc⟩, fun a e => ?_⟩
      cases e
      exact ⟨o, I.kIn _ o hk, hd⟩
    · have z : ∃ o, s.heap.get? p = some o ∧ o.ExactDict := by
        rcases hk with ⟨kvs, hk⟩ | ⟨kvs, hk⟩
        · obtain ⟨_, _, _, _, o, _, _, e, ex, _⟩ := I.hok p _ hk
          exact ⟨o, e, ex⟩
        · obtain ⟨_, _, _, _, o, _, _, e, ex, _⟩ := I.hok p _ hk
          exact ⟨o, e, ex⟩
      obtain ⟨o, e, ex⟩ := z
      refine ⟨⟨o, e, ex.1⟩, fun a e2 => ?_⟩
      cases e2
      exact ⟨o, e, ex.2.1⟩
    · obtain ⟨o, _, _, _, e, ex, _⟩ := I.hok p _ hk
      refine ⟨⟨o, e, ex.1⟩, fun a e2 => ?_⟩
      cases e2
      exact ⟨o, e, ex.2.1⟩
  | _ => exact False.elim ty
def tBM (K : PySem.W.Frag) (T : String) (r : V → List V → Hp → VK → Prop) (to : TE) (t : TA) : TE := fun σ H Q => to σ H fun x H1 => tyV K T x H1 ∧ t σ H1 fun xs H2 => r x xs H2 Q
variable {o e : Expr} {es : List Expr} {to : TE} {t : TA} {name : Str} {apos cpos : Pos} {T id : String} {r : V → List V → Hp → VK → Prop}
theorem pe_bm (pa : PlainAttrs T) (slot : Slot T name id) (hty : typeOf (.builtin id) = pure (.type "method_descriptor")) (hm : MtR X id r) (ho : PE X o to) (ha : PA X (e :: es) t)
    (hbase : attributeBase o name X.env (eval o X.env) = eval o X.env := by rfl)
    (hfew : ((backTo cpos (starEach (e :: es) X.env)).all (fun x => !x.1) && (backToKw cpos (keywordEach [] X.env)).all (fun x => x.1.isSome)
      && decide ((e :: es).length + ([] : List Keyword).length + (if ([] : List Keyword).isEmpty then 0 else 1) < 30)) = true := by rfl)
    (hline : (apos.endLine == cpos.line) = true := by rfl) (hs : starEach (e :: es) X.env = (false, eval e X.env) :: starEach es X.env := by rfl) (hplain : (backTo cpos (starEach es X.env)).any (·.1) = false := by rfl) :
    PE X (.Call (.Attribute o name apos) (e :: es) [] cpos) (tBM X.K T r to t) := by
  intro pins s σ H Q I h
  refine wpAny_Call_method_late hbase hfew hline rfl (thn (ho pins s σ H _ I h) fun v s1 ⟨x, H1, I1, r1, ty, q1⟩ => ?_)
  obtain ⟨h1, h2⟩ := tyV_is I1 r1 ty
  refine ⟨T, id, pa, slot, hty, h1, h2, ?_⟩
  have hA := ha cpos pins s1 σ H1 _ I1 q1
  rw [hs] at hA ⊢
  refine Calls.callWith_builtin (by show (false || (backTo cpos (starEach es X.env)).any (·.1)) = false; rw [hplain] <;> rfl) (Calls.evalArgs_plain ?_)
  exact thn hA fun us s2 ⟨vs, H2, I2, r2, q2⟩ => hm pins s2 σ H2 x vs v us Q I2 r1 r2 q2
/- xs.append(e), list.index on a module's tuple .. are MtR facts of 06m -/
end
end L2

namespace L2
open PySem PySem.Spec PyProof.Rows

def MtM (X : Cx) (id : String) (r : V → List V → Hp → VK → Prop) : Prop :=
  ∀ (pins : List (Addr × Obj)) (s : Shared) (σ : St) (H : Hp) (x : V) (xs : List V) (v : Value) (us : List Value) (Q : VK), Inv X pins σ H s → RelV x v → Vals xs us → r x xs H Q →
    wpAny (model X.prog X.w) X.A (call (.builtin id) (v :: us)) (EP X pins σ Q) X.xe s

/-! ### lists of values -/
theorem Vals.one : ∀ {x : V} {us : List Value}, Vals [x] us → ∃ u, us = [u] ∧ RelV x u
  | _, _, .cons r .nil => ⟨_, rfl, r⟩
theorem Vals.eraseIdx : ∀ {xs : List V} {us : List Value} (i : Nat), Vals xs us → Vals (xs.eraseIdx i) (us.eraseIdx i)
  | _, _, _, .nil => .nil
  | _, _, 0, .cons _ t => t
  | _, _, i + 1, .cons r t => .cons r (Vals.eraseIdx i t)
theorem len_erase {α : Type} : ∀ (l : List α) (i : Nat), (l.eraseIdx i).length ≤ l.length
  | [], _ => Nat.le_refl _
  | _ :: _, 0 => Nat.le_succ _
  | _ :: r, i + 1 => Nat.succ_le_succ (len_erase r i)
section
variable {X : Cx} {pins : List (Addr × Obj)} {σ : St} {H : Hp} {s : Shared} {l b : Addr} {xs ys zs : List V}

/-! ### the two steps: a tracked list is rewritten, a new list is laid -/
theorem Inv.lset {its its' : List Value} {n : Nat} {f : Array Value → Array Value} {t' : Nat} (I : Inv X pins σ H s) (hH : H l = some (.lst xs))
    (e : s.heap.get? l = some { cls := .type "list", data := .seq its.toArray n }) (hf : f its.toArray = its'.toArray) (hv : Vals ys its') (hz : ys.length ≤ sizeLine) :
    Inv X pins σ (upd H l (.lst ys)) { s with heap := s.heap.update l (Obj.mapSeq f), toks := t' } := by
  have q := PySem.IsL.update e f
  rw [hf] at q
  refine I.write (x := l) (e := l) (by rw [hH]; exact trivial) (.inl rfl) (fun b' u hb hu => (Heap.get?_update_other s.heap (Obj.mapSeq f) (Ne.symm hb)).trans hu) ⟨_, q⟩ ?_
  exact ⟨hz, its', _, hv, q⟩
theorem Inv.lnew {its : List Value} {t' : Nat} (I : Inv X pins σ H s) (hv : Vals ys its) (hz : ys.length ≤ sizeLine) :
    Inv X pins σ (upd H s.heap.objs.size (.lst ys)) { s with heap := s.heap.push { cls := .type "list", data := .seq its.toArray }, toks := t' } :=
  I.laid (fun _ _ q => Heap.get?_push_of_some _ q) (Nat.le_refl _) ⟨hz, its, 0, hv, Heap.get?_push_size _ rfl⟩
theorem Inv.fresh (I : Inv X pins σ H s) : H s.heap.objs.size = none := I.hok.fresh (Nat.le_refl _)
theorem Inv.lstM (I : Inv X pins σ H s) (hH : H l = some (.lst xs)) : xs.length ≤ sizeLine ∧ ∃ (its : List Value) (n : Nat), Vals xs its ∧ xs.length = its.length ∧ s.heap.get? l = some { cls := .type "list", data := .seq its.toArray n } := by
  obtain ⟨z, its, n, r, e⟩ := I.hok l _ hH
  exact ⟨z, its, n, r, r.length, e⟩

theorem notLongL {n : Nat} (h : n ≤ sizeLine) : Builtin.List.listTooLong n = false := by
  unfold Builtin.List.listTooLong
  exact decide_eq_false (by omega)
end

section
variable {X : Cx}

/-! ### methods -/
def rAppend : V → List V → Hp → VK → Prop := fun x vs H Q => ∃ l xs y, x = .ref l ∧ vs = [y] ∧ H l = some (.lst xs) ∧ xs.length < sizeLine ∧ Q .non (upd H l (.lst (xs ++ [y])))
theorem mt_append : MtM X "list.append" rAppend := by
  intro pins s σ H x vs v us Q I rx rv h
  obtain ⟨l, xs, y, rfl, rfl, hH, hz, q⟩ := h
  cases rx
  obtain ⟨u, rfl, ru⟩ := rv.one
  obtain ⟨z, its, n, r, hl, e⟩ := I.lstM hH
  refine call_meets F.slot_list_append ⟨_, e, rfl⟩ F.entry_list_append (F.args_list_append_2 _ _) (PySem.list_append l its.toArray n u (by rw [List.size_toArray]; omega)) ⟨e, ?_⟩
  refine ⟨.non, _, I.lset (its' := its ++ [u]) hH e (by simp) (r.append (.cons ru .nil)) ?_, rfl, q⟩
  rw [List.length_append, List.length_singleton]
  omega

def rPopAt : V → List V → Hp → VK → Prop := fun x vs H Q => ∃ l xs i k y, x = .ref l ∧ vs = [.int i] ∧ H l = some (.lst xs) ∧ -(2 ^ 63) ≤ i ∧ i < 2 ^ 63 ∧ seqIndex? i xs.length = some k ∧ xs[k]? = some y ∧ Q y (upd H l (.lst (xs.eraseIdx k)))
theorem mt_popAt : MtM X "list.pop" rPopAt := by
  intro pins s σ H x vs v us Q I rx rv h
  obtain ⟨l, xs, i, k, y, rfl, rfl, hH, h1, h2, hk, hy, q⟩ := h
  cases rx
  obtain ⟨u, rfl, ru⟩ := rv.one
  obtain ⟨t, rfl⟩ := ru
  obtain ⟨z, its, n, r, hl, e⟩ := I.lstM hH
  obtain ⟨w, hw, rw'⟩ := r.get hy
  refine call_meets F.slot_list_pop ⟨_, e, rfl⟩ F.entry_list_pop (F.args_list_pop_2 _ _)
    (MeetsSeq.list_pop_at l its.toArray n i t k w (fitsIndex_both h1 h2) (by rw [List.size_toArray, ← hl]; exact hk) (by rw [← Array.getElem?_toList]; exact hw) (by rw [List.size_toArray]; omega)) ⟨e, ?_⟩
  refine ⟨y, _, I.lset (its' := its.eraseIdx k) hH e ?_ (r.eraseIdx k) ?_, rw', q⟩
  · show its.toArray.eraseIdxIfInBounds k = (its.eraseIdx k).toArray
    rw [List.eraseIdxIfInBounds_toArray]
  · have := len_erase xs k
    omega

/-! ### list + list, list += list, list * int -/
def rCat : R2 := fun x y H Q => ∃ l b xs zs, x = .ref l ∧ y = .ref b ∧ H l = some (.lst xs) ∧ H b = some (.lst zs) ∧ xs.length + zs.length ≤ sizeLine ∧ ∀ p, H p = none → Q (.ref p) (upd H p (.lst (xs ++ zs)))
theorem op_cat : OpR X (binaryOp .Add) rCat := by
  intro pins s σ H x y v u Q I rx ry h
  obtain ⟨l, b, xs, zs, rfl, rfl, hH, hB, hz, q⟩ := h
  cases rx
  cases ry
  obtain ⟨z, its, n, r, hl, e⟩ := I.lstM hH
  obtain ⟨z2, its2, n2, r2, hl2, e2⟩ := I.lstM hB
  refine PySem.P.add_list e e2 ?_ (by rw [List.size_toArray, List.size_toArray]; omega)
  have ea : its.toArray ++ its2.toArray = (its ++ its2).toArray := by simp
  rw [ea]
  exact ⟨.ref _, _, I.lnew (t' := s.toks) (r.append r2) (by rw [List.length_append]; omega), rfl, q _ I.fresh⟩
/-! ### del xs[i] -/
end

/-! ### xs[a:b] = ys -/
section
variable {prog : Program} {w : World} {A : Around} {E : Value → Shared → Prop} {s : Shared}
end

section
variable {X : Cx}
end
end L2

namespace Att
open PySem PySem.W PySem.Calls PyProof.Rows

/-! ### the script -/
theorem ints_of_wellAll {P : Params} {h : Heap} : ∀ (ns : List Int) (vs : List Value), WellAll P h vs (ns.map WData.int) → IntsAre vs ns := by
  intro ns
  induction ns with
  | nil =>
    intro vs w
    rw [List.map_nil] at w
    cases w
    exact .nil
  | cons n ns ih =>
    intro vs w
    rw [List.map_cons] at w
    cases w with
    | cons a b =>
      cases a
      exact .cons _ _ (ih _ b)

theorem script_of {l : OpenLaw} {n : Nat} (hn : l.most = some n) {P : Params} {h : Heap} {args : List WData} {vals : List Value}
    (hpre : l.row.toRowW.claim.pre args = true) (hwl : WellAll P h vals args) :
    ∃ a vs ns, vals = [Value.ref a] ∧ args = [WData.list (ns.map WData.int)] ∧ h.get? a = some { cls := .type "list", data := .seq vs.toArray } ∧ IntsAre vs ns ∧ ns.length ≤ n := by
  have hsh : WShape.hasAll [] args [.list .int] = true := (pre_splitW hpre).1
  have hc : l.pre.holds [] { args := args } = true := (pre_splitW hpre).2
  obtain ⟨d, r, rfl, h1, h2⟩ := hasAllW_cons hsh
  obtain rfl := hasAllW_nil h2
  obtain ⟨xs, rfl, h3⟩ := hasW_list h1
  obtain ⟨ns, rfl⟩ := items_int h3
  have hlen : ns.length ≤ n := by
    unfold OpenLaw.pre at hc
    have h4 : (WTm.not (.lt (.lit (.int (n : Int))) (.len (.arg 0)))).holds [] { args := [.list (ns.map .int)] } = true := by
      have h4 := (holds_andW hc).1
      rw [hn] at h4
      exact h4
    have h5 := condW_of h4 (w_not (w_lt w_lit (w_len_list (w_arg rfl))))
    rw [List.length_map] at h5
    refine Nat.le_of_not_lt fun q => ?_
    have q' : (n : Int) < ((ns.length : Nat) : Int) := by omega
    first
      | (rw [decide_eq_true q'] at h5; exact absurd h5 (by decide))
      | (simp at h5; omega)
  cases hwl with
  | cons w1 w2 =>
    cases w2
    cases w1 with
    | list ho hall => exact ⟨_, _, ns, rfl, rfl, ho, ints_of_wellAll ns _ hall, hlen⟩

theorem post_true (l : OpenLaw) (args : List WData) : l.row.toRowW.claim.post args (.bool true) args = true :=
  postW_of (r := l.row.toRowW) (X := (true == true))
    (show WShape.has [] (.bool true) .bool = true by first | rfl | decide | simp [WShape.has, WShape.arms, WShape.armsAll])
    (show (WTm.eq .res (.lit (.bool true))).value [] { args := args, res := some (.bool true), after := args } = some (.bool (true == true)) from w_eq_bool (w_res rfl) w_lit) rfl

/-! ### the attachment: holds_open's last premise (the goal 'hc' behind k_head) from a wpAny of the law's body -/
/-- the same from a codeAny of the CALL (for a layer whose function contracts speak of calls) -/
theorem attach_call {l : OpenLaw} {n : Nat} {q : Program} {loose : List Str} {XP : (Str → Option Value) → Heap → Prop} {YP : World → Heap → Prop} {d : DefRec}
    (hn : l.most = some n) (hdf : d.params.defaults = [])
    (call : ∀ (w : World) (s₀ s₁ : Shared) (mg mb : Str → Option Value) (fa : Addr) (o : Obj) (pm cd doc : Value) (a : Addr) (vs : List Value) (ns : List Int),
      Ground q loose [] XP w s₀ mg mb s₁.heap → YP w s₁.heap →
      s₁.heap.get? fa = some o → o.data = .func (docDef d.name d.params d.body d.scope pm cd doc) → s₁.heap.CodeRec cd d.name → mg d.name = some (.ref fa) →
      s₁.heap.get? a = some { cls := .type "list", data := .seq vs.toArray } → IntsAre vs ns → ns.length ≤ n → s₁.gens = #[] →
      codeAny (model l.prog w) callerA (.call (.ref fa) ⟨[.ref a], []⟩) (fun r s' => r = .ok (.ret (.bool true)) ∧ OldK s₁.heap s'.heap ∧ s'.os = s₁.os ∧ AllBare s'.gens) s₁) :
    WalkO q loose XP YP l.row.toRowW d [] (fun f vs => PySem.call f vs) := by
  intro w s₀ s₁ mg mb G Y fa o pm cd doc dV kV ho hd hcd hD hmg hg args vals as hpre hlay hrd hwl hlo
  obtain rfl : dV = .none := Dflts.none hD hdf
  obtain rfl : kV = .none := Dflts.noKw hD
  obtain ⟨a, vs, ns, rfl, rfl, hobj, hints, hlen⟩ := script_of hn hpre hwl
  refine enter_call (codeAny_mono (call w s₀ s₁ mg mb fa o pm cd doc a vs ns G Y ho (fd_plain hd) hcd hmg hobj hints hlen hg) fun r s' hq => ?_)
  obtain ⟨rfl, h2, h3, h4⟩ := hq
  exact ⟨.inl ⟨.bool true, .bool true, [], rfl, fun _ => rfl, .bool true, post_true l _, fun _ => ⟨List.Pairwise.nil, fun _ hm => (nomatch hm)⟩⟩, h2, h3, h4⟩

/-! ### rules over ANY heap (no ledger) from facts about the written part K: the library's own take a ledger (News) for what they write -/
section
variable {prog : Program} {w : World} {A : Around} {E : Value → Shared → Prop} {s : Shared} {K : Frag}

/-! the whole heap as the ledger: makes every rule that writes through a ledger a rule over any heap -/
end
end Att

namespace L2
open PySem PySem.Spec PyProof.Rows

theorem vals_ints : ∀ {vs : List Value} {ns : List Int}, IntsAre vs ns → Vals (ns.map V.int) vs
  | _, _, .nil => .nil
  | _, _, .cons n t h => .cons ⟨t, rfl⟩ (vals_ints h)

/-- nothing is tracked but the script, known to the object (or it is an object of the module) -/
def Only (H : Hp) : Prop := ∀ b, H b = none ∨ ∃ o xs, H b = some (.frz o (.lst xs))

/-- THE HEAD: the law's promise, at the heap behind the top. F, the promise of the law's def, may use that base is part of the heap (so K.In base, base.Ns mainGlobals mg stand in Mod) -/
theorem law_call {P : Program} {w : World} {K : PySem.W.Frag} {mg mb : Str → Option Value} {CX : CXT} {k : Nat} {fa a : Addr} {fd : FuncData} {x : Str} {sp : Sp} {s₁ : Shared} {vs : List Value} {ns : List Int}
    (KX : K.In s₁.heap) (hns : s₁.heap.Ns mainGlobals mg) (hb : s₁.heap.Ns builtinsNs mb) (hbb : ∀ x : Str, x ≠ "__name__" → mb x = bootBuiltins x) (hlim : s₁.heap.NoLimit) (hg : s₁.gens = #[])
    (ha : s₁.heap.get? a = some { cls := .type "list", data := .seq vs.toArray }) (hi : IntsAre vs ns) (hl : ns.length ≤ sizeLine) (hr : Room k callerA)
    (F : ∀ base : Heap, K.In base → base.Ns mainGlobals mg → FnOk P w K mg base CX k fa fd [x] sp) (hbind : ∀ (s : Shared) (u : Value), BindsTo s fd ⟨[u], []⟩ [(x, u)])
    (hsp : ∀ H : Hp, Only H → SqL K H a (ns.map V.int) → sp [.ref a] H (fun v _ => v = .bl true) fun _ _ _ => False)
    (hCX : ∀ H e s', CX [] H s₁ (fun _ _ _ => False) e s' → False) :
    codeAny (model P w) callerA (.call (.ref fa) ⟨[.ref a], []⟩) (fun r s' => r = .ok (.ret (.bool true)) ∧ OldK s₁.heap s'.heap ∧ s'.os = s₁.os ∧ AllBare s'.gens) s₁ := by
  have rv := vals_ints hi
  have lenV := hi.length
  -- from an abstract heap in which nothing but the script may be tracked
  have core : ∀ H : Hp, Only H → SqL K H a (ns.map V.int) → HOk P w H s₁.heap → (∀ b, H b ≠ none → b = a) → (H a ≠ none → K.lookup a = none) →
      codeAny (model P w) callerA (.call (.ref fa) ⟨[.ref a], []⟩) (fun r s' => r = .ok (.ret (.bool true)) ∧ OldK s₁.heap s'.heap ∧ s'.os = s₁.os ∧ AllBare s'.gens) s₁ := by
    intro H hO hS hok hA hK
    have base_of : ∀ {b : Addr} {o : Obj}, s₁.heap.get? b = some o → H b = none → (hidT s₁.heap H).get? b = some o := fun e n => hidT_get e n
    have noA : ∀ {b : Addr} {o : Obj} {es : Array DictEntry} {ep : Nat}, s₁.heap.get? b = some o → o.data = .dict es ep → H b = none := fun {b o es ep} e d => by
      cases q : H b with
      | none => rfl
      | some u =>
        have e' : b = a := hA b (by rw [q]; simp)
        subst e'
        rw [ha] at e; cases e
        have d' : Data.seq vs.toArray _ = Data.dict es ep := d
        cases d'
    have nsK : ∀ {b : Addr} {m : Str → Option Value}, s₁.heap.Ns b m → (hidT s₁.heap H).Ns b m := fun {b m} ⟨o, es, ep, e, d, r⟩ => ⟨o, es, ep, base_of e (noA e d), d, r⟩
    have hKb : K.In (hidT s₁.heap H) := fun b o e => base_of (KX b o e) (by
      cases q : H b with
      | none => rfl
      | some u =>
        have e' : b = a := hA b (by rw [q]; simp)
        subst e'
        rw [hK (by rw [q]; simp)] at e; cases e)
    have hM : Mod K mg (hidT s₁.heap H) := ⟨hKb, nsK hns, ⟨mb, nsK hb, hbb⟩, let ⟨mc, h1, h2⟩ := hlim; ⟨mc, nsK h1, h2⟩⟩
    have e0 : Env0 P w K mg (hidT s₁.heap H) callerA [] s₁ H := ⟨rfl, hM, fun b o e => of_hidT e, Nat.le_of_eq (hidT_size _ _), trivial, fun b hb => absurd (show b ∈ ([] : List Addr) from hb) (by simp), hok, .of_eq hg⟩
    refine codeAny_mono ((F _ hKb (nsK hns)).run callerA [] s₁ H ⟨[.ref a], []⟩ [.ref a] [.ref a] _ _ hr e0 (hbind s₁ (.ref a)) (.cons rfl .nil) (hsp H hO hS)) fun r s' h => ?_
    cases r with
    | error e => exact (hCX H e s' h).elim
    | ok fl =>
      cases fl with
      | next => exact False.elim h
      | brk => exact False.elim h
      | cont => exact False.elim h
      | ret u =>
        obtain ⟨v, H', os, bare, un, hok', r', q⟩ := h
        have q' : v = .bl true := q
        subst q'
        obtain rfl : u = Value.bool true := r'
        refine ⟨rfl, OldK.of_keep fun b o e => ?_, os, bare⟩
        cases q : H b with
        | none => exact un.keep b o e q (by intro z; exact absurd (show b ∈ ([] : List Addr) from z) (by simp)) (by simp)
        | some u =>
          rcases hO b with z | ⟨ob, xs, z⟩
          · rw [q] at z; cases z
          · have z2 := un.frzs b ob _ z
            obtain ⟨e1, _⟩ := hok b _ z
            obtain ⟨e2, _⟩ := hok' b _ z2
            rw [e] at e1; cases e1
            exact e2
  cases hk : K.lookup a with
  | some o =>
    -- the script is one of the module's own objects
    have e := KX a o hk
    rw [ha] at e
    cases e
    refine core (fun _ => none) (fun _ => .inl rfl) (.inr ⟨_, vs.toArray, _, hk, rfl, rfl, rfl, by rw [List.size_toArray, lenV]; exact hl, by simpa using rv⟩) (fun b u z => by have z' : (none : Option HO) = some u := z; cases z') (fun b z => absurd rfl z) fun z => absurd rfl z
  | none =>
    refine core (fun b => if b = a then some (.frz { cls := .type "list", data := .seq vs.toArray } (.lst (ns.map V.int))) else none) (fun b => ?_) (.inl (.inr ⟨{ cls := .type "list", data := .seq vs.toArray }, if_pos rfl⟩)) (fun b u z => ?_) (fun b z => ?_) fun _ => hk
    · by_cases hb : b = a
      · exact .inr ⟨_, _, if_pos hb⟩
      · exact .inl (if_neg hb)
    · by_cases hb : b = a
      · have z' := (if_pos hb).symm.trans z
        cases z'
        subst hb
        exact ⟨ha, by rw [List.length_map]; exact hl, vs, _, rv, ha⟩
      · have z' := (if_neg hb).symm.trans z
        cases z'
    · by_cases hb : b = a
      · exact hb
      · exact absurd (if_neg hb) z
end L2

namespace L2
open PySem PySem.Spec PyProof.Rows

abbrev KOf {K : PySem.W.Frag} {h : Heap} (_ : K.In h) : PySem.W.Frag := K

/-- the goal that k_head leaves (case hc), from the law's promise. F gives the function object fd (K's own) once, then the promise over every base -/
theorem walk_of {l : PySem.W.OpenLaw} {n k : Nat} {q : Program} {loose : List Str} {XP : (Str → Option Value) → Heap → Prop} {YP : World → Heap → Prop} {d : DefRec} {K : Params → PySem.W.Frag} {CX : World → CXT} {sp : World → Sp} {x : Str}
    (hn : l.most = some n) (hn2 : n ≤ sizeLine) (hdf : d.params.defaults = []) (hr : Room k callerA)
    (hY : ∀ (w : World) (h : Heap), YP w h → (K w.params).In h)
    (F : ∀ (w : World) (mg : Str → Option Value) (fa : Addr) (h : Heap), (K w.params).In h → h.Ns mainGlobals mg → mg d.name = some (.ref fa) →
      ∃ fd : FuncData, (∀ (s : Shared) (u : Value), BindsTo s fd ⟨[u], []⟩ [(x, u)]) ∧
        ∀ base : Heap, (K w.params).In base → base.Ns mainGlobals mg → FnOk l.prog w (K w.params) mg base (CX w) k fa fd [x] (sp w))
    (hsp : ∀ (w : World) (H : Hp) (a : Addr) (ns : List Int), ns.length ≤ n → Only H → SqL (K w.params) H a (ns.map V.int) → sp w [.ref a] H (fun v _ => v = .bl true) fun _ _ _ => False)
    (hCX : ∀ (w : World) (H : Hp) (s : Shared) (e : Value) (s' : Shared), CX w [] H s (fun _ _ _ => False) e s' → False) :
    PySem.W.WalkO q loose XP YP l.row.toRowW d [] (fun f vs => PySem.call f vs) := by
  refine Att.attach_call hn hdf fun w s₀ s₁ mg mb fa o pm cd doc a vs ns G Y ho hd hcd hmg hobj hints hlen hg => ?_
  have KX := hY w _ Y
  obtain ⟨fd, hb, hF⟩ := F w mg fa _ KX G.T.g hmg
  exact law_call KX G.T.g G.T.b G.T.builtins G.T.nolimit hg hobj hints (Nat.le_trans hlen hn2) hr hF hb (fun H hO hS => hsp w H a ns hlen hO hS) fun H e s' => hCX w H s₁ e s'
end L2

/- THE LAST THEOREM (shape; LID, My.* are yours):
   My.Adr: a structure of the addresses that your layer names (classes, functions); My.Txt K t: a structure (Prop) of the equations over K;
   My.txt_mk : {K} {implicit addresses ..} (e1 : nsIn K mainGlobals "law" = some (some (.ref f))) (e2 : K.lookup f = some ⟨oc, od, .func (fnOf "law" "law" params body scope dV kV doc pm an cdv ct), sl⟩) (e3 : codeIn K cdv "law" = true) .. : ∃ t, My.Txt K t

set_option maxRecDepth 100000 in
set_option maxHeartbeats 0 in
theorem PySem.Challenge.cw_LID_holds : PySem.Challenge.rw_LID.Holds := by
  w_on; o_law; k_head; (case hw => w_witness2)
  k_fill
  refine L2.walk_of (l := PySem.Challenge.rw_LID) (n := 63) (k := 40) (x := "script") (CX := fun w => ..) (sp := fun _ => My.sp_law) rfl (by decide) rfl ⟨rfl, by decide, by decide⟩ (fun w h Y => PySem.W.kIn_of Y) ?F ?S ?C
  case F =>
    intro w mg fa h KX G hmg
    have T : ∃ t, My.Txt (L2.KOf KX) t := by
      dsimp only [L2.KOf]                          -- K must stand as «<heap const> w.params» for k_is
      refine' My.txt_mk ?e1 ?e2 ?e3 ..
      (case e1 => PySem.W.k_is)                    -- in the order: a name -> its address -> its object -> its parts
      (case e2 => PySem.W.k_is)
      ..
    obtain ⟨t, T⟩ := T
    have e0 := hmg.symm.trans (PySem.W.mg_of KX G T.law)
    cases e0                                       -- fa is the law's own address
    exact ⟨_, fun s u => .of_eq rfl, fun base kb nb => My.law_fn T kb nb⟩     -- if «.of_eq rfl» comes too early: refine' ⟨_, ?b, fun base kb nb => My.law_fn T kb nb⟩; exact fun s u => .of_eq rfl
  case S => exact fun w H a ns hl hO hS => ..
  case C => exact ..
(the tactic k_is has no namespace: write k_is) -/

/-! SHORT WORDS over the layer: a def of the text, its body, what a loop and a test want. -/
namespace L2
open PySem PySem.Spec PyProof.Rows

/-! ### the text by places -/
/-- the j-th statement of a class's body -/
def inClass (s : Stmt) (j : Nat) : Stmt := match s with
  | .ClassDef _ _ _ body _ _ _ _ _ _ _ => body.getD j (.Pass ⟨0, 0, 0, 0⟩)
  | _ => .Pass ⟨0, 0, 0, 0⟩
def defArgs (s : Stmt) : Arguments := match s with
  | .FunctionDef _ a _ _ _ _ _ _ _ _ => a
  | _ => { posonlyargs := [], args := [], vararg := none, kwonlyargs := [], kw_defaults := [], kwarg := none, defaults := [] }
def defBody (s : Stmt) : List Stmt := match s with
  | .FunctionDef _ _ b _ _ _ _ _ _ _ => b
  | _ => []
def defScope (s : Stmt) : Scope := match s with
  | .FunctionDef _ _ _ _ _ _ sc _ _ _ => sc
  | _ => { kind := .function, names := [], isGenerator := false, isCoroutine := false }

/-! ### no exception leaves a def -/
abbrev CX0 : CXT := fun _ _ _ _ _ _ => False
abbrev E0 : XK := fun _ _ _ => False
theorem pass0 {X : Cx} : Passes CX0 X E0 := fun _ _ _ _ _ _ _ h => h.elim

/-! ### a def (or method) of the text as it stands behind the top -/
structure Fun (K : PySem.W.Frag) (x qual : Str) (st : Stmt) (f : Addr) (fd : FuncData) : Prop where
  ex : ∃ (oc : Value) (od : Option Addr) (kV doc pm : Value) (an : Option Addr) (cdv ct : Value) (osl : Array (Option Value)),
    fd = PySem.W.fnOf x qual (defArgs st) (defBody st) (defScope st) .none kV doc pm an cdv ct ∧ K.lookup f = some ⟨oc, od, .func fd, osl⟩ ∧ PySem.W.codeIn K cdv qual = true
  kp : PySem.W.keepIn K (.ref f) = true
section
variable {P : Program} {w : World} {K : PySem.W.Frag} {mg : Str → Option Value} {base : Heap}
/-- THE RULE for a def: its body as a term of rules, and the reading of that term -/
theorem Fun.ok {x qual : Str} {st : Stmt} {f : Addr} {fd : FuncData} {N ps : List Str} {k : Nat} {sp : Sp} (F : Fun K x qual st f fd) (S : FnScope N ps (defScope st)) (len : ∀ vs H Q E, sp vs H Q E → vs.length = ps.length)
    (hbody : ∀ (cdv : Value) (A : Around) (outer : List Env) (s : Shared) (H : Hp) (vs : List V) (Q : VK) (E : XK), Room k (A.deeper (envOfC qual (defScope st) s.heap.objs.size f cdv)) → sp vs H Q E →
      ∃ t, PSs (cxOf CX0 P w K mg base N qual (defScope st) f cdv A outer s H E).nox (defBody st) t ∧ t { nx := fun _ H' => Q .non H', rt := Q } (start N vs) H) : FnOk P w K mg base CX0 (k + 1) f fd ps sp := by
  obtain ⟨oc, od, kV, doc, pm, an, cdv, ct, osl, rfl, lk, hcd⟩ := F.ex
  refine fn_of lk hcd S len fun A outer s H vs Q E hr hsp => ?_
  obtain ⟨t, h, q⟩ := hbody cdv A outer s H vs Q E hr hsp
  exact ⟨t, h.nox, q⟩
/-- how its arguments bind (no defaults): h is «fun _ _ _ _ _ _ us hl => match us, hl with | [_, _], _ => rfl», one _ a parameter -/
theorem Fun.binds {x qual : Str} {st : Stmt} {f : Addr} {fd : FuncData} {ps : List Str} (F : Fun K x qual st f fd)
    (h : ∀ (kV doc pm : Value) (an : Option Addr) (cdv ct : Value) (us : List Value), us.length = ps.length → bindArgs (PySem.W.fnOf x qual (defArgs st) (defBody st) (defScope st) .none kV doc pm an cdv ct) ⟨us, []⟩ = pure (ps.zip us)) : Binds K fd ps [] := by
  obtain ⟨oc, od, kV, doc, pm, an, cdv, ct, osl, rfl, lk, hcd⟩ := F.ex
  exact .all (h kV doc pm an cdv ct)
theorem fun_mk {x qual : Str} {st : Stmt} {f : Addr} {oc : Value} {od an : Option Addr} {osl : Array (Option Value)} {kV doc pm cdv ct : Value} (l : K.lookup f = some ⟨oc, od, .func (PySem.W.fnOf x qual (defArgs st) (defBody st) (defScope st) .none kV doc pm an cdv ct), osl⟩)
    (c : PySem.W.codeIn K cdv qual = true) (k : PySem.W.keepIn K (.ref f) = true) : Fun K x qual st f (PySem.W.fnOf x qual (defArgs st) (defBody st) (defScope st) .none kV doc pm an cdv ct) := ⟨⟨oc, od, kV, doc, pm, an, cdv, ct, osl, rfl, l, c⟩, k⟩
end
/-! ### expressions in short: the name that stands in the i-th slot -/
section
variable {X : Cx}
theorem pv (i : Nat) {x : Str} {pos : Pos} (hN : X.N[i]? = some x := by rfl) (hv : Vis X.env.scope x := by first | exact Or.inl rfl | exact Or.inr (Or.inl rfl) | exact Or.inr (Or.inr rfl)) (hd : (x == ("__debug__" : Str)) = false := by decide)
    (hcd : (x == ("__classdict__" : Str)) = false := by decide) : PE X (.Name x pos) (tVar i) := pe_var hN hv hd hcd
end

/-! ### tests -/
theorem iteF {A B : Prop} (h : B) : if false = true then A else B := by
  rw [if_neg Bool.false_ne_true]
  exact h
theorem iteT {A B : Prop} (h : A) : if true = true then A else B := by
  rw [if_pos rfl]
  exact h
theorem ite2 {c A B : Prop} [Decidable c] (h1 : c → A) (h2 : ¬ c → B) : if c then A else B := by
  by_cases h : c
  · rw [if_pos h]
    exact h1 h
  · rw [if_neg h]
    exact h2 h
/-! ### heaps -/
/-- all that was tracked is as it was -/
def Same (H H' : Hp) : Prop := ∀ b o, H b = some o → H' b = some o
theorem Same.refl (H : Hp) : Same H H := fun _ _ h => h
theorem Same.trans {H H1 H2 : Hp} (a : Same H H1) (b : Same H1 H2) : Same H H2 := fun c o h => b c o (a c o h)
theorem Same.free {H H' : Hp} (e : Same H H') {l : Addr} (h : H' l = Option.none) : H l = Option.none := by
  cases q : H l with
  | none => rfl
  | some o =>
    rw [e l o q] at h
    cases h
theorem Same.seq {K : PySem.W.Frag} {H H' : Hp} {a : Addr} {xs : List V} (e : Same H H') (h : SqL K H a xs) : SqL K H' a xs := by
  rcases h with (h | ⟨o, h⟩) | h
  · exact .inl (.inl (e _ _ h))
  · exact .inl (.inr ⟨o, e _ _ h⟩)
  · exact .inr h

end L2

set_option maxHeartbeats 4000000
/-! EvExc: refusals of own classes by hand: raise, a callee's refusal that passes, try with one except clause that names, isinstance of a refusal. Over the hand layer (namespace L2), which stands ahead of it. -/
namespace L2
open PySem PySem.Spec PyProof.Rows

theorem ObjOk.there {P : Program} {w : World} {H : Hp} {h : Heap} {a : Addr} {o : HO} (x : ObjOk P w H h a o) : ∃ ob, h.get? a = some ob := by
  cases o with
  | lst xs => obtain ⟨_, _, _, _, e⟩ := x; exact ⟨_, e⟩
  | tup xs => obtain ⟨_, _, _, ob, e, _⟩ := x; exact ⟨ob, e⟩
  | dK kvs => obtain ⟨_, _, _, _, ob, _, _, e, _⟩ := x; exact ⟨_, e⟩
  | dT kvs => obtain ⟨_, _, _, _, ob, _, _, e, _⟩ := x; exact ⟨_, e⟩
  | set S n => obtain ⟨ob, _, _, _, e, _⟩ := x; exact ⟨_, e⟩
  | ins C dx fs => obtain ⟨_, _, _, e, _⟩ := x; exact ⟨_, e⟩
  | own y => exact x
  | xd fs => obtain ⟨_, ⟨_, _, _, e, _⟩, _⟩ := x; exact ⟨_, e⟩
  | rng lo hi => obtain ⟨_, _, _, e⟩ := x; exact ⟨_, e⟩
  | frz ob u => obtain ⟨e, _⟩ := x; exact ⟨_, e⟩
  | tbl ps => exact ⟨_, (show h.get? a = some _ from x)⟩
  | met f y => exact ⟨_, (show h.get? a = some _ from x)⟩
  | ext φ => obtain ⟨_, e, _⟩ := x; exact e

/-- a refusal of the class C at a that has left a frame: its trace stands at T -/
structure FlyT (h0 : Heap) (H : Hp) (a T : Addr) (C : Value) (h : Heap) : Prop where
  na : h0.get? a = none
  fa : H a = none
  nT : h0.get? T = none
  fT : H T = none
  ob : ∃ oe vs a0 oT ts, h.get? a = some oe ∧ oe.cls = C ∧ oe.data = .fields vs ∧ vs[0]? = some a0 ∧ vs[1]? = some (.ref T) ∧ T ≠ a ∧ h.get? T = some oT ∧ oT.data = .fields ts ∧ ts[3]? = some .none
section
variable {X : Cx} {pins : List (Addr × Obj)} {σ : St} {H H' : Hp} {s s' : Shared}
theorem Inv.nopins (I : Inv X pins σ H s) : Inv X [] σ H s := I.pins_of fun p hp => nomatch hp
/-- what was not there at the call was not there at the entry -/
theorem Inv.new0 (I : Inv X pins σ H s) (hex : X.ex = []) {b : Addr} (n : s.heap.get? b = none) : X.s₀.heap.get? b = none := by
  cases q : X.s₀.heap.get? b with
  | none => rfl
  | some o =>
    obtain ⟨o', e⟩ := I.base.there b o q (by rw [hex]; simp)
    rw [n] at e; cases e
theorem Inv.newH (I : Inv X pins σ H s) {b : Addr} (n : s.heap.get? b = none) : H b = none := by
  cases q : H b with
  | none => rfl
  | some o =>
    obtain ⟨ob, e⟩ := (I.hok b o q).there
    rw [n] at e; cases e
/-- the frames' slots and the records at ts may change -/
structure Shift (X : Cx) (ts : List Addr) (h h' : Heap) : Prop where
  stays : (PySem.W.hideAll h (ts ++ frs X.stack)).StaysIn h'
  up : h.UpToSlots h'

theorem Shift.frame {ts : List Addr} {h' : Heap} (S : Shift X ts s.heap h') (I : Inv X pins σ H s) {b : Addr} (hb : b ∈ frs X.stack) {o : Obj} (e : s.heap.get? b = some o) : ∃ sl, h'.get? b = some { o with slots := sl } := by
  obtain ⟨_, o', e', nf⟩ := I.stack.mem hb
  rw [e] at e'; cases e'
  exact S.up b o e nf
theorem Shift.get {ts : List Addr} {h' : Heap} (S : Shift X ts s.heap h') {b : Addr} {o : Obj} (e : s.heap.get? b = some o) (h1 : b ∉ ts) (h2 : b ∉ frs X.stack) : h'.get? b = some o :=
  S.stays b o (PySem.W.hideAll_get _ e fun z => (List.mem_append.mp z).elim h1 h2)
theorem Shift.hok {ts : List Addr} {h' : Heap} (S : Shift X ts s.heap h') (I : Inv X pins σ H s) (hts : ∀ b ∈ ts, H b = none) : HOk X.prog X.w H h' := fun a o e => by
  refine (I.hok a o e).stay (fun b u hb q => S.get q (fun z => ?_) fun z => ?_) (fun _ q => q) fun _ _ q => q
  · have n := hts b z
    rcases hb with rfl | hb
    · rw [e] at n; cases n
    · rw [hb] at n; cases n
  · have n := I.stkFree b z
    rcases hb with rfl | hb
    · rw [e] at n; cases n
    · rw [hb] at n; cases n
/-- what stood at the entry is as a callee may leave it -/
theorem Shift.un {ts : List Addr} {h' : Heap} (S : Shift X ts s.heap h') (I : Inv X pins σ H s) (hts : ∀ b ∈ ts, X.s₀.heap.get? b = none) : Un X.fs X.ex X.H₀ H X.s₀.heap h' := by
  have nts : ∀ b o, X.s₀.heap.get? b = some o → b ∉ ts := fun b o e z => by rw [hts b z] at e; cases e
  have nL : ∀ b o, X.s₀.heap.get? b = some o → b ≠ X.env.locals := fun b o e => Nat.ne_of_lt (Nat.lt_of_lt_of_le (Heap.lt_size e) I.ok.above)
  have nst : ∀ b o, X.s₀.heap.get? b = some o → b ∉ X.fs → b ∉ frs X.stack := fun b o e hb z => (List.mem_cons.mp (I.stkSub b z)).elim (nL b o e) hb
  refine ⟨fun b o e n hb hx => S.get (I.base.keep b o e n hb hx) (nts b o e) (nst b o e hb), fun b o e n hb hx => ?_, fun b o e n hx => I.base.free b o e n hx, fun b o e hx => ?_, I.base.tups, I.base.frzs, I.base.tbls⟩
  · obtain ⟨sl, e1⟩ := I.base.slot b o e n hb hx
    obtain ⟨_, o', e', nf⟩ := I.funs.mem hb
    rw [e1] at e'; cases e'
    obtain ⟨sl2, e2⟩ := S.up b _ e1 nf
    exact ⟨sl2, e2⟩
  · obtain ⟨o', e1⟩ := I.base.there b o e hx
    by_cases z : b ∈ frs X.stack
    · obtain ⟨sl, e2⟩ := S.frame I z e1
      exact ⟨_, e2⟩
    · exact ⟨o', S.get e1 (nts b o e) z⟩
/-- the invariant goes over -/
theorem Shift.inv {ts : List Addr} {h' : Heap} {tk : Nat} (S : Shift X ts s.heap h') (I : Inv X pins σ H s) (hts : ∀ b ∈ ts, X.s₀.heap.get? b = none ∧ H b = none ∧ ∀ p ∈ X.pn ++ pins, p.1 ≠ b) : Inv X pins σ H { s with heap := h', toks := tk } := by
  have cellK : ∀ c v, s.heap.IsCell c v → h'.IsCell c v := fun c v ⟨o, ho, hd⟩ => by
    obtain ⟨sl, e⟩ := S.up c o ho (fun vs q => by rw [hd] at q; cases q)
    exact ⟨_, e, hd⟩
  refine ⟨I.ok, I.os, I.bare, S.un I fun b z => (hts b z).1, ?_, fun x c e => ?_, I.free, I.freeC, fun p hp => ?_, S.hok I fun b z => (hts b z).2.1, I.len⟩
  · obtain ⟨m, hn, hl⟩ := I.loc
    refine ⟨m, S.up.ns hn, fun i x v e1 e2 e3 => ?_⟩
    obtain ⟨u, r, l⟩ := hl i x v e1 e2 e3
    refine ⟨u, r, ?_⟩
    rcases l with l | ⟨k, c, e, z⟩
    · exact .inl l
    · exact .inr ⟨k, c, e, cellK c _ z⟩
  · obtain ⟨v, z⟩ := I.cell x c e
    exact ⟨v, cellK c v z⟩
  · obtain ⟨e, n, ne, nf, d⟩ := I.pin p hp
    exact ⟨S.get e (fun z => (hts p.1 z).2.2 p hp rfl) fun z => (List.mem_cons.mp (I.stkSub p.1 z)).elim ne nf, n, ne, nf, d⟩
/-- the trace that was laid -/
theorem Shift.fly {ts : List Addr} {h' : Heap} {a : Addr} {C a0 : Value} (I : Inv X pins σ H s) (hex : X.ex = []) (hts : ∀ b ∈ ts, X.s₀.heap.get? b = none ∧ H b = none) (ha : a ∈ ts)
    (hf : h'.FunFrames (PySem.W.hideAll s.heap (ts ++ frs X.stack)) X.stack) (tr : h'.TracedW (PySem.W.hideAll s.heap (ts ++ frs X.stack)) a C a0) :
    ∃ T, FlyT X.s₀.heap H a T C h' ∧ ∀ p : Addr × Obj, s.heap.get? p.1 = some p.2 → p.1 ∉ ts → p.1 ∉ frs X.stack → p.1 ≠ T := by
  obtain ⟨oe, vs, T, oT, tv, he, ⟨hc, h0⟩, hd, h1, hnT, hTe, hT, hdT, h3⟩ := tr
  have key : X.s₀.heap.get? T = none ∧ H T = none := by
    by_cases z : T ∈ ts
    · exact hts T z
    · have nf : T ∉ frs X.stack := fun q => by
        obtain ⟨_, o, ho, nf⟩ := hf.mem q
        rw [hT] at ho; cases ho
        exact nf _ hdT
      have nn : s.heap.get? T = none := by
        cases q : s.heap.get? T with
        | none => rfl
        | some o =>
          rw [PySem.W.hideAll_get _ q fun y => (List.mem_append.mp y).elim z nf] at hnT
          cases hnT
      exact ⟨I.new0 hex nn, I.newH nn⟩
  refine ⟨T, ⟨(hts a ha).1, (hts a ha).2, key.1, key.2, oe, vs, a0, oT, tv, he, hc, hd, h0, h1, hTe, hT, hdT, h3⟩, fun p e n1 n2 z => ?_⟩
  rw [z] at e n1 n2
  rw [PySem.W.hideAll_get _ e fun y => (List.mem_append.mp y).elim n1 n2] at hnT
  cases hnT
theorem fun_hide (I : Inv X pins σ H s) (ts : List Addr) : s.heap.FunFrames (PySem.W.hideAll s.heap (ts ++ frs X.stack)) X.stack :=
  PySem.W.funFrames_hide I.stack fun env he b hb => List.mem_append_right _ (List.mem_filterMap.mpr ⟨env, he, hb⟩)
theorem hide_stays (h : Heap) (l : List Addr) : (PySem.W.hideAll h l).StaysIn h := fun _ _ e => PySem.W.of_hideAll l e
end

section
variable {P : Program} {w : World} {K : PySem.W.Frag} {mg : Str → Option Value} {base : Heap} {N : List Str} {qual : Str} {scope : Scope} {f : Addr} {cd : Value} {A : Around} {outer : List Env} {s : Shared} {H : Hp} {E : XK}
end
/-! ### raise -/
theorem exc_cls_of {K : PySem.W.Frag} {h : Heap} {C : Addr} {bmB : List Value} {newId : String} (X : K.In h) (q : PySem.W.excIn K C bmB newId = true) :
    ∃ bm N nm q bs hdct sn sub ab col dd k0 k1 k2 k3 k5 mN, h.get? C = some (excClassObj nm q C N bs bm hdct sn sub ab col dd k0 k1 k2 k3 k5 newId) ∧ h.Ns N mN ∧ mN "__init__" = none ∧ OwnTail h bmB bm := by
  unfold PySem.W.excIn at q
  split at q
  · rename_i dd cd sl ho
    split at q
    · rename_i C' bm k0 k1 k2 k3 n k5 hm hs
      simp only [Bool.and_eq_true, beq_iff_eq, Bool.not_eq_true'] at q
      obtain ⟨⟨⟨⟨⟨rfl, rfl⟩, hdel⟩, ht⟩, hok⟩, hni⟩ := q
      obtain ⟨nm, bs, mro, ns, qn, hd, sn, sub, ab, col, del⟩ := cd
      dsimp only at hm hdel hok hni
      subst hm hdel
      have hsl : sl = #[k0, k1, k2, k3, some (.builtin n), k5] := by
        obtain ⟨l⟩ := sl
        simp only at hs
        rw [hs]
      subst hsl
      exact ⟨bm, ns, nm, qn, bs, hd, sn, sub, ab, col, dd, k0, k1, k2, k3, k5, _, X _ _ ho, .of_isNs (PySem.W.isNs_of_in X hok), PySem.W.nsMap_none_of_in X hok hni, PySem.W.tail_of_in X ht⟩
    · cases q
  · cases q
abbrev bmVE : List Value := [.type "ValueError", .type "Exception", .type "BaseException", .type "object"]
abbrev newVE : String := "ValueError.__new__"
end L2
/-! EvTry: isinstance of a refusal, except clauses, defs called within an except suite. Behind EvExc. -/
namespace PySem.W
open PySem PySem.Calls PyProof.Rows Builtin Builtin.ObjectAttr Builtin.Getset_descriptor
/-- what is asked of an own class of refusals as the text has made it -/
structure ExcK (K : Frag) (C : Addr) : Prop where
  ex : excIn K C [.type "ValueError", .type "Exception", .type "BaseException", .type "object"] "ValueError.__new__" = true
  ga : findIn K (.ref C) "__getattribute__" = some (some (.builtin "BaseException.__getattribute__"))
  no : findIn K (.ref C) "__getattr__" = some none
  cl : findIn K (.ref C) "__class__" = some (some (.builtin "object.__class__"))
  ob : mroIn K C (.type "object") = some true
  be : mroIn K C (.type "BaseException") = some true
structure ClsK (K : Frag) : Prop where
  gt : specialIn K (.builtin "object.__class__") "__get__" = some (some (.builtin "getset_descriptor.__get__"))
  tk : takesIn K (.builtin "object.__class__") = some true
section
variable {prog : Program} {w : World} {A : Around} {E : Value → Shared → Prop} {s : Shared} {K : Frag} {x C D : Addr} {ox : Obj}
theorem exc_class_get {tp : Value} {R : Result → Shared → Prop} (X : K.In s.heap) (hx : s.heap.get? x = some ox) (hc : ox.cls = .ref C) (hm : mroIn K C (.type "object") = some true)
    (h : R (.ok (.ret (.ref C))) s) : codeAny (model prog w) A (.call (.builtin "getset_descriptor.__get__") ⟨[.builtin "object.__class__", .ref x, tp], []⟩) R s := by
  obtain ⟨hh, g, dr, t, os⟩ := s
  have Q0 : Looks (model prog w) hh (typeOf (.ref x)) (.ref C) := hc ▸ (Looks.ld hx).andThen .now
  have Q1 := looks_mroIn (M := model prog w) X hm
  refine codeAny_call_builtin KF.slot_gs.plain KF.entry_gs (KF.slot_gs.check _ _ _ _ _ _ _ _ KF.type_class (KF.args_gs _ _ _) ?_)
  unfold Builtin.«getset_descriptor.__get__» descrGet
  rw [dga_obj]
  refine wpAny_bind (wpAny_pure ?_)
  unfold descrGetter descrCheckInstance descrNameAndClass isInstance
  simp only [KF.owner_class]
  repeat lk
  refine ⟨Code.quiet_builtin _ (by decide +kernel), codeAny_builtin KF.entry_class ?_⟩
  unfold Builtin.«object.__class__» shownTypeOf
  repeat lk
  exact h
theorem wp_if_neg {α : Type} {M : Model} {A : Around} {c : Prop} [Decidable c] {a b : Sem α} {Q : α → Shared → Prop} {E : Value → Shared → Prop} {s : Shared} (h : ¬ c) (k : wpAny M A b Q E s) : wpAny M A (if c then a else b) Q E s := by
  rw [if_neg h]
  exact k
theorem ga_slot (x n : Value) : slotArgs "__getattribute__" 1 ⟨[x, n], []⟩ = pure (x, [n]) := by kernel_rfl
theorem ga_name (n : Str) (t : Tok) : attrName (.str n t) = pure n := by kernel_rfl
theorem exc_ga_check {M : Model} {nameV : Value} {Q : Unit → Shared → Prop} (hi : Looks M s.heap (isInstance (.ref x) (.type "BaseException")) true) (h : Q () s) : wpAny M A (checkBuiltinCall "BaseException.__getattribute__" ⟨[.ref x, nameV], []⟩) Q E s := by
  have hk : builtinKind "BaseException.__getattribute__" = some .slot := by decide +kernel
  have hsplit : splitId "BaseException.__getattribute__" = some ("BaseException", "__getattribute__") := by decide +kernel
  have ha := PySem.F.args_bexc_ga (.ref x) nameV
  obtain ⟨hh, g, d, t, os⟩ := s
  simp only [checkBuiltinCall, hk, hsplit]
  refine wpAny_bind (hi.at ?_)
  repeat (any_goals (first | assumption | wp_step))
theorem exc_ga_call {nameV : Value} {R : Result → Shared → Prop} (hi : Looks (model prog w) s.heap (isInstance (.ref x) (.type "BaseException")) true)
    (h : wpAny (model prog w) A.in1 (Builtin.«object.__getattribute__» ⟨[.ref x, nameV], []⟩) (fun fin s' => match fin with | .done (.ret v) => R (.ok (.ret v)) s' | _ => False) (fun e s' => R (.error e) s') s) :
    codeAny (model prog w) A (.call (.builtin "BaseException.__getattribute__") ⟨[.ref x, nameV], []⟩) R s :=
  codeAny_call_builtin PySem.F.attr_ValueError.ga.plain PySem.F.entry_bexc_ga (exc_ga_check hi (wpAny_mono h (fun fin s' z => by rcases fin with (_ | _ | _ | _) | _ <;> first | exact z | exact z.elim) fun _ _ z => z))
theorem exc_matches {M : Model} {Q : Bool → Shared → Prop} (X : K.In s.heap) (hx : s.heap.get? x = some ox) (hc : ox.cls = .ref C) (T : ExcK K D) (m : mroIn K C (.ref D) = some true) (h : Q true s) :
    wpAny M A (excMatches (.ref x) (.ref D)) Q E s := by
  obtain ⟨hh, g, d, tk, os⟩ := s
  obtain ⟨tl, N, nm, q', bs, hdct, sn, sub, ab, col, dd, k0, k1, k2, k3, k5, mN, hD, _⟩ := L2.exc_cls_of X T.ex
  have Q1 := looks_mroIn (M := M) X m
  have Q2 := looks_mroIn (M := M) X T.be
  have f := tc_notTuple
  unfold excMatches
  repeat (first | (with_reducible refine wpAny_loadPart_at hx ?_; rw [hc]) | with_reducible refine wpAny_loadPart_at hD ?_ | with_reducible refine Q1.at ?_ | with_reducible refine Q2.at ?_ | wp_step)
  exact h
end
end PySem.W

namespace L2
open PySem PySem.Spec PyProof.Rows
/-! ### isinstance by values -/
/-- isinstance(x, c), c one class -/
theorem call_isinst {X : Cx} : CallR X (.builtin "isinstance") (fun xs H Q => ∃ x c t b, xs = [x, c] ∧ TyOf X.K H x t ∧ (∀ u, RelV c u → PySem.W.kitOne X.K t u = some b) ∧ Q (.bl b) H) := by
  intro pins s σ H xs us Q I r h
  obtain ⟨x, c, t, b, rfl, ty, k, q⟩ := h
  obtain ⟨u, w', rfl, r1, r2⟩ := vals2 r
  exact isinst_ok I r1 ty (k _ r2) fun tk => ⟨.bl b, H, I.tok tk, rfl, q⟩
/-! ### try, one clause with a name -/
abbrev Cx.inH (X : Cx) (a : Addr) : Cx := { X with A := X.A.mark (some (.ref a)), calm := false, xe := fun _ _ => False }
abbrev Cx.pinned (X : Cx) (pn : List (Addr × Obj)) : Cx := { X with pn := pn }
section
variable {X : Cx} {pins : List (Addr × Obj)} {σ : St} {H : Hp} {s : Shared}
theorem Inv.inH (I : Inv X pins σ H s) (a : Addr) : Inv (X.inH a) pins σ H s :=
  ⟨⟨I.ok.mod, I.ok.kind, I.ok.glob, I.ok.blt, I.ok.above, I.ok.inj, I.ok.has, I.ok.cab, (fun h => nomatch h), I.ok.frames, I.ok.stk, I.ok.exf, I.ok.bs, I.ok.bsz, I.ok.noex, I.ok.exfs, I.ok.funs, I.ok.frf⟩, I.os, I.bare, I.base, I.loc, I.cell, I.free, I.freeC, I.pin, I.hok, I.len⟩
theorem Inv.ofH {a : Addr} (ok : X.Ok) (I : Inv (X.inH a) pins σ H s) : Inv X pins σ H s := ⟨ok, I.os, I.bare, I.base, I.loc, I.cell, I.free, I.freeC, I.pin, I.hok, I.len⟩
theorem Inv.toPn (I : Inv X pins σ H s) : Inv (X.pinned (X.pn ++ pins)) [] σ H s :=
  ⟨⟨I.ok.mod, I.ok.kind, I.ok.glob, I.ok.blt, I.ok.above, I.ok.inj, I.ok.has, I.ok.cab, I.ok.hd, I.ok.frames, I.ok.stk, I.ok.exf, I.ok.bs, I.ok.bsz, I.ok.noex, I.ok.exfs, I.ok.funs, I.ok.frf⟩, I.os, I.bare, I.base, I.loc, I.cell, I.free, I.freeC, fun p hp => I.pin p (by simpa using hp), I.hok, I.len⟩
theorem Inv.ofPn (ok : X.Ok) (I : Inv (X.pinned (X.pn ++ pins)) [] σ H s) : Inv X pins σ H s :=
  ⟨ok, I.os, I.bare, I.base, I.loc, I.cell, I.free, I.freeC, fun p hp => I.pin p (by simpa using hp), I.hok, I.len⟩
/-- an object that was not tracked is -/
theorem Inv.track {a : Addr} {o : HO} (I : Inv X pins σ H s) (hn : H a = none) (h0 : X.s₀.heap.get? a = none) (hL : a ≠ X.env.locals) (hc : ∀ x c, X.env.cells.lookup x = some c → c ≠ a) (hp : ∀ p ∈ X.pn ++ pins, p.1 ≠ a)
    (new : ObjOk X.prog X.w (upd H a o) s.heap a o) : Inv X pins σ (upd H a o) s := by
  have ne : ∀ b u, H b = some u → b ≠ a := fun b u e => ne_of_none e hn
  refine ⟨I.ok, I.os, I.bare, ⟨I.base.keep, I.base.slot, fun b ob e n hx => ?_, I.base.there, fun b xs e => ?_, fun b ob u e => ?_, fun b ps e => ?_⟩, I.loc, I.cell, ?_, fun x c e => ?_, fun p hp' => ?_, fun b u e => ?_, I.len⟩
  · rw [upd_ne (fun z => by rw [z, h0] at e; cases e)]
    exact I.base.free b ob e n hx
  · have q := I.base.tups b xs e
    rw [upd_ne (ne b _ q)]; exact q
  · have q := I.base.frzs b ob u e
    rw [upd_ne (ne b _ q)]; exact q
  · obtain ⟨m, q⟩ := I.base.tbls b ps e
    exact ⟨m, by rw [upd_ne (ne b _ q)]; exact q⟩
  · rw [upd_ne (Ne.symm hL)]; exact I.free
  · rw [upd_ne (hc x c e)]; exact I.freeC x c e
  · obtain ⟨e, n, r⟩ := I.pin p hp'
    exact ⟨e, by rw [upd_ne (hp p hp')]; exact n, r⟩
  · by_cases hb : b = a
    · subst hb; rw [upd_same] at e; cases e; exact new
    · rw [upd_ne hb] at e
      exact (I.hok b u e).stay (fun _ _ _ q => q) (fun c q => by rw [upd_ne (ne c _ q)]; exact q) fun c xs q => by rw [upd_ne (ne c _ q)]; exact q
theorem Inv.forget (I : Inv X pins σ H s) : Inv X pins (List.replicate X.N.length none) H s := I.weak (by rw [List.length_replicate]; exact I.len.symm) fun i v e => by
  rw [List.getElem?_replicate] at e
  split at e <;> cases e
end
/-! ### a def that is called within an except suite -/
end L2

namespace L2
open PySem PySem.Spec PyProof.Rows
end L2
/-! EvStr: f-strings with ints, a while whose test need not be monotone. Behind EvTry. -/
namespace L2
open PySem PySem.Spec PyProof.Rows
/-! ### while -/
def WTurn (Pv : St → Hp → Prop) (mu : St → Hp → Nat) (m : Nat) (tb : TS) (D : Ends) (σ : St) (H1 : Hp) : Prop :=
  ∃ N : St → Hp → Prop, (∀ σ' H', N σ' H' → ∃ m', m' < m ∧ m' = mu σ' H' ∧ Pv σ' H') ∧ tb { D with nx := N, ct := N, bk := D.nx } σ H1
theorem WTurn.of {Pv : St → Hp → Prop} {mu : St → Hp → Nat} {m : Nat} {tb : TS} {D : Ends} {σ : St} {H1 : Hp}
    (h : tb { D with nx := fun σ' H' => Pv σ' H' ∧ mu σ' H' < m, ct := fun σ' H' => Pv σ' H' ∧ mu σ' H' < m, bk := D.nx } σ H1) : WTurn Pv mu m tb D σ H1 :=
  ⟨_, fun σ' H' ⟨p, l⟩ => ⟨_, l, rfl, p⟩, h⟩
theorem while_w {c : TT} {tb : TS} {D : Ends} {σ : St} {H : Hp} (Pv : St → Hp → Prop) (mu : St → Hp → Nat) (h0 : Pv σ H)
    (hs : ∀ m σ H, Pv σ H → m = mu σ H → c σ H fun b H1 => if b = true then WTurn Pv mu m tb D σ H1 else D.nx σ H1) : tWhile c tb D σ H := by
  refine ⟨fun m σ H => m = mu σ H ∧ Pv σ H, ⟨_, rfl, h0⟩, ?_⟩
  rintro m σ H ⟨e, p⟩
  exact hs m σ H p e
/-! ### tests that are known -/
theorem ifT {c A B : Prop} [Decidable c] (h : c) (k : A) : if decide c = true then A else B := by
  rw [if_pos (decide_eq_true h)]
  exact k
theorem ifF {c A B : Prop} [Decidable c] (h : ¬ c) (k : B) : if decide c = true then A else B := by
  rw [if_neg (fun z => h (of_decide_eq_true z))]
  exact k
/-! ### f-strings -/
abbrev TF := Str → St → Hp → (Str → Hp → Prop) → Prop
def PF (X : Cx) (es : List Expr) (t : TF) : Prop := ∀ (pins : List (Addr × Obj)) (s : Shared) (σ : St) (H : Hp) (out : Str) (Q : VK), Inv X pins σ H s → t out σ H (fun z H1 => z.length ≤ sizeLine ∧ Q (.str z) H1) →
  wpAny (model X.prog X.w) X.A (joinParts out (evalEach es X.env)) (EP X pins σ Q) X.xe s
theorem pf_nil {X : Cx} : PF X [] (fun out _ H Q => Q out H) := fun pins s σ H out Q I h =>
  joinParts_nil (show EP X pins σ Q _ _ from ⟨.str out, H, I.tok _, ⟨_, rfl⟩, h.2⟩) h.1
theorem pf_cons {X : Cx} {e : Expr} {es : List Expr} {te : TE} {tr : TF} (he : PE X e te) (hr : PF X es tr) :
    PF X (e :: es) (fun out σ H Q => te σ H fun v H1 => ∃ y, v = .str y ∧ (out ++ y).length ≤ sizeLine ∧ tr (out ++ y) σ H1 Q) := fun pins s σ H out Q I h => by
  show wpAny _ _ (joinParts out (eval e X.env :: evalEach es X.env)) _ _ _
  refine joinParts_cons (wpAny_mono (he pins s σ H _ I h) (fun u s1 q => ?_) fun _ _ z => z)
  obtain ⟨v, H1, I1, r, y, rfl, hz, q⟩ := q
  obtain ⟨t, rfl⟩ := r
  exact ⟨hz, hr pins s1 σ H1 _ Q I1 q⟩
theorem pe_fstr {X : Cx} {e1 e2 : Expr} {es : List Expr} {pos : Pos} {t : TF} (h : PF X (e1 :: e2 :: es) t) : PE X (.JoinedStr (e1 :: e2 :: es) pos) (fun σ H Q => t Str.empty σ H fun z H1 => z.length ≤ sizeLine ∧ Q (.str z) H1) :=
  fun pins s σ H Q I hw => JoinedStr_many (h pins s σ H Str.empty Q I hw)
end L2
/-! EvComp: a list comprehension with one for and at most one if, by hand. Behind EvStr. -/
namespace L2
open PySem PySem.Spec PyProof.Rows
/-! ### the closure -/
theorem cellOf_some {env : Env} {x : Str} {c : Addr} (h : env.cells.lookup x = some c) : cellOf env x = pure c := by
  unfold cellOf
  rw [h]
theorem closure_go {env : Env} : ∀ (names : List (Str × NameKind)) (cs : List (Str × Addr)), (∀ x, (x, NameKind.free) ∈ names → ∃ c, env.cells.lookup x = some c) →
    (∀ x c, cs.lookup x = some c → env.cells.lookup x = some c) →
    ∃ cl : List (Str × Addr), (forIn names cs fun (y : Str × NameKind) (r : List (Str × Addr)) => if (y.2 == .free) = true then (do let c ← cellOf env y.1; pure (ForInStep.yield ((y.1, c) :: r)) : Sem _) else pure (ForInStep.yield r)) = pure cl ∧
      (∀ x c, cl.lookup x = some c → env.cells.lookup x = some c) ∧ (∀ x, ((x, NameKind.free) ∈ names ∨ ∃ c, cs.lookup x = some c) → ∃ c, cl.lookup x = some c)
  | [], cs, _, h2 => ⟨cs, rfl, h2, fun x hx => hx.elim (fun z => nomatch z) id⟩
  | (y, k) :: names, cs, h1, h2 => by
    by_cases hk : k = .free
    · subst hk
      obtain ⟨c, hc⟩ := h1 y (List.mem_cons_self ..)
      obtain ⟨cl, e, a, b⟩ := closure_go names ((y, c) :: cs) (fun x hx => h1 x (List.mem_cons_of_mem _ hx)) (fun x c' hx => by
        rw [List.lookup_cons] at hx
        split at hx
        · rename_i hb
          have hb' : x = y := by simpa using hb
          cases hx
          rw [hb']
          exact hc
        · exact h2 x c' hx)
      refine ⟨cl, ?_, a, fun x hx => b x ?_⟩
      · rw [List.forIn_cons]
        simp only [beq_self_eq_true, if_true, cellOf_some hc]
        exact e
      · rcases hx with hx | ⟨c', hx⟩
        · rcases List.mem_cons.mp hx with z | z
          · cases z
            exact .inr ⟨c, by simp⟩
          · exact .inl z
        · by_cases hb : (x == y) = true
          · exact .inr ⟨c, by rw [List.lookup_cons, hb]⟩
          · exact .inr ⟨c', by rw [List.lookup_cons, Bool.not_eq_true _ |>.mp hb]; exact hx⟩
    · obtain ⟨cl, e, a, b⟩ := closure_go names cs (fun x hx => h1 x (List.mem_cons_of_mem _ hx)) h2
      have hb : (k == NameKind.free) = false := by simpa using hk
      refine ⟨cl, ?_, a, fun x hx => b x ?_⟩
      · rw [List.forIn_cons]
        simp only [hb, Bool.false_eq_true, if_false]
        exact e
      · rcases hx with hx | hx
        · rcases List.mem_cons.mp hx with z | z
          · cases z
            exact absurd rfl hk
          · exact .inl z
        · exact .inr hx
theorem closure_of {scope : Scope} {env : Env} (h : ∀ x, (x, NameKind.free) ∈ scope.names → ∃ c, env.cells.lookup x = some c) :
    ∃ cl, closureFor scope env = pure cl ∧ (∀ x c, cl.lookup x = some c → env.cells.lookup x = some c) ∧ ∀ x, (x, NameKind.free) ∈ scope.names → ∃ c, cl.lookup x = some c := by
  obtain ⟨cl, e, a, b⟩ := closure_go scope.names [] h (fun x c hx => nomatch hx)
  refine ⟨cl, ?_, a, fun x hx => b x (.inl hx)⟩
  refine Eq.trans (b := (forIn scope.names [] fun (y : Str × NameKind) (r : List (Str × Addr)) => if (y.2 == .free) = true then (do let c ← cellOf env y.1; pure (ForInStep.yield ((y.1, c) :: r)) : Sem _) else pure (ForInStep.yield r)) >>= fun r => pure r) rfl ?_
  rw [e]
  rfl
/-! ### the loop -/
section
variable {prog : Program} {w : World} {A : Around} {R : Result → Shared → Prop} {s : Shared}
theorem compLoop_any {elt target iter : Expr} {ifs : List Expr} {scope : Scope} {pos : Pos} {it acc : Value} {env : Env} (I : Nat → Shared → Prop)
    (turn : ∀ n s, I n s → wpAny (model prog w) A (pyNext it) (fun r s1 => match r with
      | none => R (.ok .next) s1
      | some v => wpAny (model prog w) A (letOwnedTupleGo target it v) (fun _ s1' => wpAny (model prog w) A (assign target env v) (fun _ s2 =>
          wpAny (model prog w) A (forIn ifs true fun c r => if r = true then do let ok ← isTrue c env (eval c env); pure (ForInStep.yield ok) else pure (ForInStep.yield r)) (fun ok s3 =>
            if ok = true then wpAny (model prog w) A (eval elt env) (fun x s4 =>
              wpAny (model prog w) A (call (.builtin "list.append") [acc, x]) (fun _ s5 => ∃ m, m < n ∧ I m s5) (fun _ _ => False) s4) (fun _ _ => False) s3
            else ∃ m, m < n ∧ I m s3) (fun _ _ => False) s2) (fun _ _ => False) s1') (fun _ _ => False) s1) (fun _ _ => False) s)
    (n : Nat) (h : I n s) : codeAny (model prog w) A (.compLoop (.ListComp elt [⟨target, iter, ifs, 0⟩] scope pos) 0 it acc env) R s := by
  refine codeAny_loop rfl I (fun n s hI => ?_) n h
  show wpAny _ A ((compTurn (.ListComp elt [⟨target, iter, ifs, 0⟩] scope pos) 0 it acc env).onRaise (fun x => do noteFrame x env; theTreesLotGoes x)) _ _ s
  refine wpAny_noted ?_
  rw [compTurn_list]
  refine wpAny_bind (wpAny_standAt (wpAny_bind (wpAny_mono (turn n s hI) (fun r s1 h1 => ?_) fun _ _ h' => h'.elim)))
  cases r with
  | none => exact wpAny_pure h1
  | some v =>
    refine wpAny_bind (wpAny_mono h1 (fun _ s1' h1' => ?_) fun _ _ h' => h'.elim)
    refine wpAny_bind (wpAny_mono h1' (fun _ s2 h2 => wpAny_bind (wpAny_mono h2 (fun ok s3 h3 => ?_) fun _ _ h' => h'.elim)) fun _ _ h' => h'.elim)
    cases ok with
    | false => exact wpAny_pure ⟨rfl, h3⟩
    | true =>
      exact wpAny_bind (wpAny_bind (wpAny_mono h3 (fun x s4 h4 => wpAny_bind (wpAny_mono h4 (fun _ s5 h5 => wpAny_pure (wpAny_pure ⟨rfl, h5⟩)) fun _ _ h' => h'.elim)) fun _ _ h' => h'.elim))
end
/-! ### the block's context -/
def cxC (X : Cx) (s : Shared) (H : Hp) (scope : Scope) (cl : List (Str × Addr)) (C : Addr) (N : List Str) (fp : List Addr) : Cx where
  prog := X.prog
  w := X.w
  K := X.K
  mg := X.mg
  base := X.base
  A := X.A
  N := N
  s₀ := s
  H₀ := H
  env := compEnvC scope cl C X.env
  outer := X.stack
  stack := X.stack
  ex := fp
  fn := fun x => scope.names.lookup x == some NameKind.cell
  calm := X.calm
  pn := []
  xe := fun _ _ => False
/-- slot i of the block is the outer slot, or the block's own -/
def seen (σ : St) (src : List (Option Nat)) : St := src.map fun o => match o with | some j => (σ[j]?).join | none => none
structure CompScope (X : Cx) (scope : Scope) (N : List Str) (src : List (Option Nat)) : Prop where
  kind : scope.kind = .function
  cells : ∀ y ∈ scope.names, y.2 = .cell → scope.names.lookup y.1 = some .cell
  own : ∀ y ∈ scope.names, y.2 = .local → scope.names.lookup y.1 = some .local
  has : ∀ x, (x, NameKind.free) ∈ scope.names → X.env.kindOf x = some .cell ∨ X.env.kindOf x = some .free
  len : src.length = N.length
  src : ∀ (i j : Nat) (x : Str), src[i]? = some (some j) → N[i]? = some x → X.N[j]? = some x ∧ (x, NameKind.free) ∈ scope.names ∧ scope.names.lookup x = some .free
theorem lookup_relabel_free {env : Env} : ∀ {names : List (Str × NameKind)} {x : Str}, names.lookup x = some .free →
    (names.map fun (n, k) => if (k == NameKind.free && env.scope.kind == .function && env.kindOf n == some .cell) then (n, NameKind.cell) else (n, k)).lookup x = some .cell ∨
    (names.map fun (n, k) => if (k == NameKind.free && env.scope.kind == .function && env.kindOf n == some .cell) then (n, NameKind.cell) else (n, k)).lookup x = some .free
  | [], _, h => by simp at h
  | (n, k) :: r, x, h => by
    have ih := @lookup_relabel_free env r x
    show List.lookup x ((if (k == NameKind.free && env.scope.kind == .function && env.kindOf n == some .cell) = true then (n, NameKind.cell) else (n, k)) :: _) = _ ∨ List.lookup x ((if (k == NameKind.free && env.scope.kind == .function && env.kindOf n == some .cell) = true then (n, NameKind.cell) else (n, k)) :: _) = _
    cases hx : x == n with
    | true =>
      simp only [List.lookup_cons, hx] at h
      cases h
      by_cases hc : (NameKind.free == NameKind.free && env.scope.kind == .function && env.kindOf n == some .cell) = true
      · rw [if_pos hc]; left; simp only [List.lookup_cons, hx]
      · rw [if_neg hc]; right; simp only [List.lookup_cons, hx]
    | false =>
      simp only [List.lookup_cons, hx] at h
      by_cases hc : (k == NameKind.free && env.scope.kind == .function && env.kindOf n == some .cell) = true
      · rw [if_pos hc]; simp only [List.lookup_cons, hx]; exact ih h
      · rw [if_neg hc]; simp only [List.lookup_cons, hx]; exact ih h
/-- a cell or a free name of the block was free in it -/
theorem relabel_cell {env : Env} : ∀ {names : List (Str × NameKind)} {x : Str},
    ((names.map fun (n, k) => if (k == NameKind.free && env.scope.kind == .function && env.kindOf n == some .cell) then (n, NameKind.cell) else (n, k)).lookup x = some .cell ∨
    (names.map fun (n, k) => if (k == NameKind.free && env.scope.kind == .function && env.kindOf n == some .cell) then (n, NameKind.cell) else (n, k)).lookup x = some .free) → (x, NameKind.free) ∈ names ∨ (x, NameKind.cell) ∈ names
  | [], _, h => by simp at h
  | (n, k) :: r, x, h => by
    have ih := @relabel_cell env r x
    change List.lookup x ((if (k == NameKind.free && env.scope.kind == .function && env.kindOf n == some .cell) = true then (n, NameKind.cell) else (n, k)) :: _) = _ ∨ List.lookup x ((if (k == NameKind.free && env.scope.kind == .function && env.kindOf n == some .cell) = true then (n, NameKind.cell) else (n, k)) :: _) = _ at h
    cases hx : x == n with
    | true =>
      have e : x = n := by simpa using hx
      by_cases hc : (k == NameKind.free && env.scope.kind == .function && env.kindOf n == some .cell) = true
      · have hk : k = .free := by
          simp only [Bool.and_eq_true, beq_iff_eq] at hc
          exact hc.1.1
        rw [e, hk]; exact .inl (List.mem_cons_self ..)
      · rw [if_neg hc] at h
        simp only [List.lookup_cons, hx, Option.some.injEq] at h
        rcases h with h | h
        · rw [e, h]; exact .inr (List.mem_cons_self ..)
        · rw [e, h]; exact .inl (List.mem_cons_self ..)
    | false =>
      by_cases hc : (k == NameKind.free && env.scope.kind == .function && env.kindOf n == some .cell) = true
      · rw [if_pos hc] at h; simp only [List.lookup_cons, hx] at h; exact (ih h).imp (List.mem_cons_of_mem _) (List.mem_cons_of_mem _)
      · rw [if_neg hc] at h; simp only [List.lookup_cons, hx] at h; exact (ih h).imp (List.mem_cons_of_mem _) (List.mem_cons_of_mem _)
def Weak (σ σ2 : St) : Prop := σ2.length = σ.length ∧ ∀ (i : Nat) (v : V), σ[i]? = some (some v) → σ2[i]? = some (some v)
theorem Weak.refl (σ : St) : Weak σ σ := ⟨rfl, fun _ _ h => h⟩
theorem Weak.set {σ : St} {i : Nat} {o : Option V} (h : ∀ v, σ[i]? ≠ some (some v)) : Weak σ (σ.set i o) := ⟨by simp, fun j v e => by
  have : i ≠ j := fun z => h v (z ▸ e)
  rw [List.getElem?_set_ne this]
  exact e⟩
theorem Weak.trans {a b c : St} (h : Weak a b) (h' : Weak b c) : Weak a c := ⟨h'.1.trans h.1, fun i v e => h'.2 i v (h.2 i v e)⟩
/-- the tests -/
def PIf (X : Cx) (ifs : List Expr) (t : TT) : Prop := ∀ (pins : List (Addr × Obj)) (s : Shared) (σ : St) (H : Hp) (Q : Bool → Hp → Prop), Inv X pins σ H s → t σ H Q →
  wpAny (model X.prog X.w) X.A (forIn ifs true fun c r => if r = true then do let ok ← isTrue c X.env (eval c X.env); pure (ForInStep.yield ok) else pure (ForInStep.yield r)) (TP X pins σ Q) X.xe s
def tYes : TT := fun _ H Q => Q true H
theorem pif_nil {X : Cx} : PIf X [] tYes := fun _ _ _ H _ I h => wpAny_tests_nil ⟨H, I, h⟩
theorem pif_one {X : Cx} {c : Expr} {t : TT} (h : PT X c t) : PIf X [c] t := fun pins s σ H Q I q => wpAny_tests_one (h pins s σ H Q I q)
def tComp (src : List (Option Nat)) (wi : TI) (g : TG) (tc : TT) (te : TE) : TE := fun σ H Q => wi σ H fun J H1 => ∃ W : Nat → Nat → List V → Hp → Prop, (∃ m, W 0 m [] H1) ∧ ∀ i m ys H2, W i m ys H2 →
  (J.stop i H2 ∧ ys.length ≤ sizeLine ∧ ∀ p, H2 p = none → Q (.ref p) (upd H2 p (.lst ys))) ∨
  (J.go i H2 ∧ ∀ x H3, J.yld i H2 x H3 → g x (seen σ src) H3 fun σ2 H4 => Weak (seen σ src) σ2 ∧ tc σ2 H4 fun b H5 =>
    if b = true then te σ2 H5 fun y H6 => ys.length < sizeLine ∧ ∃ m', m' < m ∧ W (i + 1) m' (ys ++ [y]) H6 else ∃ m', m' < m ∧ W (i + 1) m' ys H5)
theorem cellsFrom_app : ∀ (names : List (Str × NameKind)) (n : Nat) (acc : List (Str × Addr)), cellsFrom n names acc = cellsFrom n names [] ++ acc
  | [], _, acc => rfl
  | (x, k) :: r, n, acc => by
    unfold cellsFrom
    split
    · rw [cellsFrom_app r (n + 1) ((x, n) :: acc), cellsFrom_app r (n + 1) [(x, n)], List.append_assoc]
      rfl
    · exact cellsFrom_app r n acc
theorem cellsFrom_mem : ∀ (names : List (Str × NameKind)) (n : Nat) (acc : List (Str × Addr)) (x : Str) (c : Addr), (x, c) ∈ cellsFrom n names acc → (x, c) ∈ acc ∨ (x, NameKind.cell) ∈ names
  | [], _, _, _, _, h => .inl h
  | (y, k) :: r, n, acc, x, c, h => by
    unfold cellsFrom at h
    split at h
    · rename_i hk
      have hk' : k = .cell := by simpa using hk
      rcases cellsFrom_mem r _ _ x c h with z | z
      · rcases List.mem_cons.mp z with z | z
        · cases z
          exact .inr (hk' ▸ List.mem_cons_self ..)
        · exact .inl z
      · exact .inr (List.mem_cons_of_mem _ z)
    · rcases cellsFrom_mem r _ _ x c h with z | z
      · exact .inl z
      · exact .inr (List.mem_cons_of_mem _ z)
theorem new_around {M : Model} {A : Around} {E : Value → Shared → Prop} {s : Shared} {scope : Scope} {globals : Addr} {cl : List (Str × Addr)} {qual : Str} {env : Env} {Q : Env → Shared → Prop}
    (h : ∀ h', h'.Ns s.heap.objs.size (fun _ => none) → (∀ b o, s.heap.get? b = some o → h'.get? b = some o) → CellsOk h' (s.heap.objs.size + 1) (cellsFrom (s.heap.objs.size + 1) scope.names []) →
      Q { scope, locals := s.heap.objs.size, globals, cells := cellsFrom (s.heap.objs.size + 1) scope.names [] ++ cl, qual, func := none, code := env.code, frame := env.frame, builtins := env.builtins } { s with heap := h' }) :
    wpAny M A (newFunctionEnv scope globals cl [] qual none .none (some env)) Q E s := by
  simp only [newFunctionEnv, Option.isSome_some, if_true]
  refine wpAny_bind (wpAny_alloc ?_)
  refine wpAny_bind (wpAny_layCells _ (fun name kind cells => by cases hkc : kind == NameKind.cell <;> simp [hkc]) _ _ _ _ ?_)
  have ok := cellsFrom_ok scope.names (s.heap.push { cls := .type "dict", data := .dict #[] }) (s.heap.objs.size + 1) [] ⟨fun _ _ hm => (nomatch hm), List.Pairwise.nil⟩ (by rw [Heap.size_push]; exact Nat.le_refl _)
  rw [Heap.size_push] at ok
  rw [show ({ s with heap := s.heap.push { cls := .type "dict", data := .dict #[] } } : Shared).heap.objs.size = s.heap.objs.size + 1 from Heap.size_push .., cellsFrom_app]
  rw [List.forIn_nil]
  exact wpAny_bind (wpAny_pure (wpAny_pure (h _ ((Heap.Ns.new s.heap (.type "dict")).keeps (pushCells_keeps _ _)) (fun b o e => pushCells_keeps _ _ b o (Heap.get?_push_of_some _ e)) ok)))
/-- a comprehension, whatever is done with its list -/
theorem comp_core {X : Cx} {elt tg iter : Expr} {ifs : List Expr} {scope : Scope} {pos pos2 : Pos} {N : List Str} {src : List (Option Nat)} {wi : TI} {g : TG} {tc : TT} {te : TE} {use : Option (Value → Sem Unit)} {Post : Value → Shared → Prop} {pins : List (Addr × Obj)} {s : Shared} {σ : St} {H : Hp} {Q : VK}
    (hc : X.calm = true) (S : CompScope X scope N src) (hi : PI X tg iter wi)
    (hg : ∀ s H cl C fp, PG (cxC X s H scope cl C N fp) tg g) (hf : ∀ s H cl C fp, PIf (cxC X s H scope cl C N fp) ifs tc) (he : ∀ s H cl C fp, PE (cxC X s H scope cl C N fp) elt te)
    (hs : ∀ x, foldedSetIterable iter X.env x = pure x) (I : Inv X pins σ H s) (h : tComp src wi g tc te σ H Q)
    (fin : ∀ (C a : Addr) (H1 : Hp) (s' : Shared), (∀ h', Heap.SameBut C s'.heap h' → Inv X pins σ H1 { s' with heap := h' }) → FpOk X pins H1 C → (∃ m, s'.heap.Ns C m) → Q (.ref a) H1 → compPost (model X.prog X.w) X.A X.xe use Post (.ref a) C (.ok .next) s') :
    wpAny (model X.prog X.w) X.A (comprehension (.ListComp elt [⟨tg, iter, ifs, 0⟩] scope pos) scope X.env pos2 (newList []) false (eval iter X.env) use) Post X.xe s := by
  obtain ⟨cl, hcl, cl1, cl2⟩ := closure_of (scope := scope) (env := X.env) (fun x hx => I.ok.has x (S.has x hx))
  refine wpAny_comprehension_free (use := use) rfl hs hcl S.kind S.own (thn (hi pins s σ H _ I h) fun v s1 h1 => thn h1 fun itv s2 h2 => ?_)
  obtain ⟨it, fp, tn, J, H2, rfl, I2, T, st2, f2, W, ⟨m0, w0⟩, turn⟩ := h2
  refine wpAny_newObj_type (new_around fun h3 hns hsb cok => ?_)
  dsimp only at hns hsb cok ⊢
  generalize hHd : s2.heap.push { cls := .type "list", dict := none, data := .seq ([] : List Value).toArray } = Hd at hns hsb cok ⊢
  have hCs : Hd.objs.size = s2.heap.objs.size + 1 := by rw [← hHd, Heap.size_push]
  have hDC : s2.heap.objs.size ≠ Hd.objs.size := by rw [hCs]; exact Nat.ne_of_lt (Nat.lt_succ_self _)
  have below : ∀ b, b < s2.heap.objs.size → b ≠ Hd.objs.size ∧ b ≠ s2.heap.objs.size := fun b hb => ⟨by rw [hCs]; exact Nat.ne_of_lt (Nat.lt_succ_of_lt hb), Nat.ne_of_lt hb⟩
  have old : ∀ b o, s2.heap.get? b = some o → h3.get? b = some o := fun b o e => hsb b o (hHd ▸ Heap.get?_push_of_some _ e)
  have hacc : h3.get? s2.heap.objs.size = some { cls := .type "list", dict := none, data := .seq ([] : List Value).toArray } := hsb _ _ (hHd ▸ Heap.get?_push_size _ rfl)
  have fpObj := T.obj 0 _ st2
  have fpLt : ∀ b ∈ fp, b < s2.heap.objs.size := fun b hb => by
    obtain ⟨o, e, _⟩ := fpObj b hb
    exact Heap.lt_size e
  generalize hown : cellsFrom (Hd.objs.size + 1) scope.names [] = own at cok ⊢
  have ownC : ∀ x c, (x, c) ∈ own → scope.names.lookup x = some .cell := fun x c hm => by
    rw [← hown] at hm
    rcases cellsFrom_mem _ _ _ _ _ hm with z | z
    · exact nomatch z
    · exact S.cells _ z rfl
  have two : ∀ x c, (own ++ cl).lookup x = some c → (cl.lookup x = some c ∧ c < s2.heap.objs.size) ∨ ((x, c) ∈ own ∧ h3.IsCell c none ∧ Hd.objs.size < c) := fun x c e => by
    rw [List.lookup_append] at e
    cases ho : own.lookup x with
    | none =>
      rw [ho, Option.none_or] at e
      obtain ⟨v, q⟩ := I2.cell x c (cl1 x c e)
      exact .inl ⟨e, q.lt⟩
    | some c' =>
      rw [ho, Option.some_or] at e
      cases e
      have hm := mem_of_lookup ho
      exact .inr ⟨hm, (cok.empty x c hm).1, (cok.empty x c hm).2⟩
  have cellNe : ∀ x c, (own ++ cl).lookup x = some c → c ≠ s2.heap.objs.size ∧ ∀ b ∈ fp, c ≠ b := fun x c e => by
    rcases two x c e with ⟨e, lt⟩ | ⟨_, _, lt⟩
    · exact ⟨Nat.ne_of_lt lt, fun b hb => (f2 b hb).2.2.2.2.1 x c (cl1 x c e)⟩
    · rw [hCs] at lt
      exact ⟨Nat.ne_of_gt (Nat.lt_trans (Nat.lt_succ_self _) lt), fun b hb => Nat.ne_of_gt (Nat.lt_trans (fpLt b hb) (Nat.lt_trans (Nat.lt_succ_self _) lt))⟩
  have fresh : ∀ a, s2.heap.objs.size ≤ a → s2.heap.get? a = none := fun a ha => by
    cases e : s2.heap.get? a with
    | none => rfl
    | some o' => exact absurd (Heap.lt_size e) (Nat.not_lt.mpr ha)
  -- the context
  have okY : (cxC X s2 H2 scope (own ++ cl) Hd.objs.size N fp).Ok := by
    refine ⟨I2.ok.mod, S.kind, I2.ok.glob, I2.ok.blt, ?_, ?_, ?_, ?_, fun hcc => I2.ok.hd hcc, I2.ok.frames, .inl rfl, fun b hb => ⟨(below b (fpLt b hb)).1, fun x c e => (cellNe x c e).2 b hb⟩,
      I2.bs, Nat.le_trans I2.ok.bsz I2.sz, fun b o e hb => ?_, fun b hb z => (List.mem_cons.mp (I2.stkSub b z)).elim (f2 b hb).2.1 (f2 b hb).2.2.1, I2.stack, I2.stkFree⟩
    · show s2.heap.objs.size ≤ Hd.objs.size
      rw [hCs]; exact Nat.le_succ _
    · intro x y c e1 e2
      rcases two x c e1 with ⟨e1, l1⟩ | ⟨m1, _, l1⟩ <;> rcases two y c e2 with ⟨e2, l2⟩ | ⟨m2, _, l2⟩
      · exact I2.ok.inj x y c (cl1 x c e1) (cl1 y c e2)
      · rw [hCs] at l2; exact absurd (Nat.lt_trans l1 (Nat.lt_trans (Nat.lt_succ_self _) l2)) (Nat.lt_irrefl _)
      · rw [hCs] at l1; exact absurd (Nat.lt_trans l2 (Nat.lt_trans (Nat.lt_succ_self _) l1)) (Nat.lt_irrefl _)
      · exact name_of_addr cok.apart m1 m2
    · intro x hx
      show ∃ c, (own ++ cl).lookup x = some c
      rw [List.lookup_append]
      cases ho : own.lookup x with
      | some c => exact ⟨c, rfl⟩
      | none =>
        rw [Option.none_or]
        rcases relabel_cell hx with z | z
        · exact cl2 x z
        · have := PySem.W.cellsFrom_some scope.names (Hd.objs.size + 1) [] (.inl (S.cells _ z rfl))
          rw [hown, ho] at this
          cases this
    · intro x c hf e
      have hf' : scope.names.lookup x = some .cell := by simpa [cxC] using hf
      have := PySem.W.cellsFrom_some scope.names (Hd.objs.size + 1) [] (.inl hf')
      rw [hown] at this
      obtain ⟨c', ho⟩ := Option.isSome_iff_exists.mp this
      have e' : (own ++ cl).lookup x = some c := e
      rw [List.lookup_append, ho, Option.some_or] at e'
      cases e'
      have := (cok.empty x c (mem_of_lookup ho)).2
      show s2.heap.objs.size ≤ c
      rw [hCs] at this
      omega
    · rcases (f2 b hb).2.2.2.1 with z | z
      · exact I2.ok.noex b o e z
      · exact absurd (Nat.lt_of_lt_of_le (Heap.lt_size e) (Nat.le_trans I2.ok.bsz z)) (Nat.lt_irrefl _)
  have IY : Inv (cxC X s2 H2 scope (own ++ cl) Hd.objs.size N fp) [] (seen σ src) H2 { s2 with heap := h3 } := by
    refine ⟨okY, rfl, I2.bare, Un.kept old, ⟨_, hns, fun i x v e1 e2 _ => ?_⟩, fun x c e => ?_, I2.hok.fresh (by show s2.heap.objs.size ≤ Hd.objs.size; rw [hCs]; exact Nat.le_succ _), ?_, fun p hp => (nomatch hp), I2.hok.kept old, ?_⟩
    · unfold seen at e2
      rw [List.getElem?_map] at e2
      cases hsr : src[i]? with
      | none => rw [hsr] at e2; cases e2
      | some oj =>
        rw [hsr] at e2
        cases oj with
        | none => cases e2
        | some j =>
          obtain ⟨hN, hfr, hlk⟩ := S.src i j x hsr e1
          have e3 : σ[j]? = some (some v) := by
            have : (σ[j]?).join = some v := Option.some.inj e2
            cases hj : σ[j]? with
            | none => rw [hj] at this; cases this
            | some o => rw [hj] at this; cases this; rfl
          have hk := S.has x hfr
          have vis : Vis X.env.scope x := by
            rcases hk with z | z
            · exact .inr (.inl z)
            · exact .inr (.inr z)
          obtain ⟨m, hnm, hl⟩ := I2.loc
          obtain ⟨u, r, l⟩ := hl j x v hN e3 vis
          refine ⟨u, r, .inr ⟨lookup_relabel_free hlk, ?_⟩⟩
          rcases l with ⟨l1, _⟩ | ⟨_, c, ec, ic⟩
          · rcases hk with z | z <;> (rw [l1] at z; cases z)
          · obtain ⟨c', ec'⟩ := cl2 x hfr
            have := cl1 x c' ec'
            rw [ec] at this
            cases this
            obtain ⟨o, ho, hd⟩ := ic
            have hno : own.lookup x = none := by
              cases ho : own.lookup x with
              | none => rfl
              | some c2 =>
                have := ownC x c2 (mem_of_lookup ho)
                rw [hlk] at this
                cases this
            exact ⟨c, by show (own ++ cl).lookup x = some c; rw [List.lookup_append, hno, Option.none_or]; exact ec', o, old _ _ ho, hd⟩
    · rcases two x c e with ⟨e, _⟩ | ⟨_, q, _⟩
      · obtain ⟨v, o, ho, hd⟩ := I2.cell x c (cl1 x c e)
        exact ⟨v, o, old _ _ ho, hd⟩
      · exact ⟨none, q⟩
    · intro x c e
      rcases two x c e with ⟨e, _⟩ | ⟨_, _, lt⟩
      · exact I2.freeC x c (cl1 x c e)
      · exact I2.hok.fresh (by rw [hCs] at lt; omega)
    · show (seen σ src).length = N.length
      unfold seen
      rw [List.length_map, S.len]
  have dFs : s2.heap.objs.size ∉ frs X.stack := fun z => by
    obtain ⟨_, o, ho, _⟩ := I2.stack.mem z
    exact absurd (Heap.lt_size ho) (Nat.lt_irrefl _)
  have cFs : Hd.objs.size ∉ frs X.stack := fun z => by
    obtain ⟨_, o, ho, _⟩ := I2.stack.mem z
    have z2 := Heap.lt_size ho
    rw [hCs] at z2
    exact absurd z2 (Nat.not_lt.mpr (Nat.le_succ _))
  have stat : ∀ {H' : Hp} {pn : List (Addr × Obj)}, (∀ b ∈ fp, H' b = none) → (∀ p ∈ pn, p.1 = s2.heap.objs.size) → ∀ b ∈ fp, FpOk (cxC X s2 H2 scope (own ++ cl) Hd.objs.size N fp) pn H' b := fun hn hp b hb =>
    ⟨hn b hb, (below b (fpLt b hb)).1, okY.exfs b hb, .inl hb, fun x c e => (cellNe x c e).2 b hb, fun p q z => (below b (fpLt b hb)).2 (z ▸ hp p q)⟩
  have loop : ∀ sA : Shared, sA = { s2 with heap := h3 } →
      codeAny (model X.prog X.w) X.A (.compLoop (.ListComp elt [⟨tg, iter, ifs, 0⟩] scope pos) 0 (.ref it) (.ref s2.heap.objs.size) (compEnvC scope (own ++ cl) Hd.objs.size X.env))
        (compPost (model X.prog X.w) X.A X.xe use Post (.ref s2.heap.objs.size) Hd.objs.size) sA := by
    rintro sA rfl
    refine compLoop_any (fun n s' => ∃ (i : Nat) (ys : List V) (its : List Value) (k : Nat) (σ3 : St) (H3 : Hp), Inv (cxC X s2 H2 scope (own ++ cl) Hd.objs.size N fp) [] σ3 H3 s' ∧ Weak (seen σ src) σ3 ∧ tn i s'.heap ∧ (∀ b ∈ fp, H3 b = none) ∧ W i n ys H3 ∧
        s'.heap.get? s2.heap.objs.size = some { cls := .type "list", data := .seq its.toArray k } ∧ Vals ys its ∧ H3 s2.heap.objs.size = none) ?_ m0
      ⟨0, [], [], 0, _, H2, IY, Weak.refl _, T.keep 0 _ _ st2 (fun b hb o e => old b o e), fun b hb => (f2 b hb).1, w0, hacc, .nil, I2.fresh⟩
    rintro n s3 ⟨i, ys, its, k, σ3, H3, I3, wk, st3, fr3, w3, hD, rv, nD⟩
    have I4 : Inv (cxC X s2 H2 scope (own ++ cl) Hd.objs.size N fp) [] (seen σ src) H3 s3 := I3.weak wk.1.symm wk.2
    have I5 : Inv (cxC X s2 H2 scope (own ++ cl) Hd.objs.size N fp) [(s2.heap.objs.size, { cls := .type "list", data := .seq its.toArray k })] (seen σ src) H3 s3 := I4.pins_of fun p hp => by
      cases List.mem_singleton.mp hp
      exact ⟨hD, nD, hDC, dFs, fun v z => nomatch z⟩
    have one : ∀ p ∈ [((s2.heap.objs.size, { cls := .type "list", data := .seq its.toArray k }) : Addr × Obj)], p.1 = s2.heap.objs.size := fun p hp => by
      cases List.mem_singleton.mp hp
      rfl
    rcases turn i n ys H3 w3 with ⟨stop, hlen, q⟩ | ⟨go, step⟩
    · refine thn (T.done (cxC X s2 H2 scope (own ++ cl) Hd.objs.size N fp) rfl rfl rfl hc i _ s3 _ H3 _ I5 (stat fr3 one) st3 stop) fun r s4 ⟨hr, I6⟩ => ?_
      subst hr
      have hD4 := (I6.pin _ (List.mem_append_right _ (List.mem_singleton.mpr rfl))).1
      obtain ⟨m, hn4, _⟩ := I6.loc
      refine fin Hd.objs.size s2.heap.objs.size (upd H3 s2.heap.objs.size (.lst ys)) s4 (fun h' hsb' => ?_) (I2.fpOk (by rw [hCs]; exact Nat.le_succ _) (by rw [upd_ne (Ne.symm hDC)]; exact I6.free)) ⟨m, hn4⟩ (q _ nD)
      have kp : ∀ b o, b ≠ Hd.objs.size → s4.heap.get? b = some o → h'.get? b = some o := fun b o hb e => (hsb'.2 b hb).trans e
      have neC : ∀ b o, s2.heap.get? b = some o → b ≠ Hd.objs.size := fun b o e => (below b (Heap.lt_size e)).1
      have un : Un (frs X.stack) fp H2 H3 s2.heap h' := by
        have u0 : Un (frs X.stack) fp H2 H3 s2.heap s4.heap := I6.base
        refine ⟨fun b o e n' hb hx => kp b o (neC b o e) (u0.keep b o e n' hb hx), fun b o e n' hb hx => ?_, u0.free, fun b o e hx => ?_, u0.tups, u0.frzs, u0.tbls⟩
        · obtain ⟨sl, e1⟩ := u0.slot b o e n' hb hx
          exact ⟨sl, kp b _ (neC b o e) e1⟩
        · obtain ⟨o', e1⟩ := u0.there b o e hx
          exact ⟨o', kp b o' (neC b o e) e1⟩
      have nC : H3 Hd.objs.size = none := I6.free
      have hok : HOk X.prog X.w H3 h' := fun a o e => (I6.hok a o e).stay (fun b u hb q' => kp b u (fun z => by
        rcases hb with rfl | hb
        · rw [z, nC] at e; cases e
        · rw [z, nC] at hb; cases hb) q') (fun _ q' => q') fun _ _ q' => q'
      have I7 : Inv X pins σ H3 { s4 with heap := h' } := I2.call' (s' := { s4 with heap := h' }) I6.os un hok I6.bare (fun b hb => ⟨(f2 b hb).2.2.2.1, (f2 b hb).2.1, (f2 b hb).2.2.2.2.1, (f2 b hb).2.2.2.2.2⟩)
      have e0 : X.s₀.heap.get? s2.heap.objs.size = none := by
        cases e : X.s₀.heap.get? s2.heap.objs.size with
        | none => rfl
        | some o => exact absurd (Nat.lt_of_lt_of_le (Heap.lt_size e) I2.sz) (Nat.lt_irrefl _)
      have I8 : Inv X pins σ (upd H3 s2.heap.objs.size (.lst ys)) { s4 with heap := h' } := I7.track nD e0 (fun z => Nat.lt_irrefl _ (z ▸ I2.lt)) (fun x c e z => by
        obtain ⟨v, q'⟩ := I2.cell x c e
        exact Nat.lt_irrefl _ (z ▸ q'.lt)) (fun p hp z => Nat.lt_irrefl _ (z ▸ Heap.lt_size (I2.pin p hp).1)) ⟨hlen, its, k, rv, kp _ _ hDC hD4⟩
      exact I8
    · refine thn (T.item (cxC X s2 H2 scope (own ++ cl) Hd.objs.size N fp) rfl rfl rfl hc i _ s3 _ H3 _ I5 (stat fr3 one) st3 go) fun r s4 ⟨u, hr, h4⟩ => ?_
      subst hr
      refine thn h4 fun _ s5 ⟨x, H5, I6, r5, y5, st5, fr5⟩ => ?_
      have I6' := I6.pinned (stat fr5 one) (T.obj _ _ st5)
      refine thn (hg _ _ _ _ _ _ s5 _ H5 x u _ I6' r5 (step x H5 y5)) fun _ s6 ⟨σ6, H6, I7, wk6, q6⟩ => ?_
      refine thn (hf _ _ _ _ _ _ s6 σ6 H6 _ I7 q6) fun ok s7 ⟨H7, I8, q7⟩ => ?_
      have back : ∀ {σ' : St} {H' : Hp} {s' : Shared}, Inv (cxC X s2 H2 scope (own ++ cl) Hd.objs.size N fp) ([(s2.heap.objs.size, { cls := .type "list", data := .seq its.toArray k })] ++ pinsAt fp s5.heap) σ' H' s' →
          tn (i + 1) s'.heap ∧ (∀ b ∈ fp, H' b = none) ∧ s'.heap.get? s2.heap.objs.size = some { cls := .type "list", data := .seq its.toArray k } ∧ H' s2.heap.objs.size = none := fun {σ' H' s'} J => by
        have jD := J.pin (s2.heap.objs.size, { cls := .type "list", data := .seq its.toArray k }) (by simp)
        refine ⟨T.keep _ _ _ st5 fun b hb o e => (J.pin (b, o) (List.mem_append_right _ (List.mem_append_right _ (mem_pinsAt hb e)))).1, fun b hb => ?_, jD.1, jD.2.1⟩
        obtain ⟨o, e, d⟩ := T.obj _ _ st5 b hb
        exact (J.pin (b, o) (List.mem_append_right _ (List.mem_append_right _ (mem_pinsAt hb e)))).2.1
      cases ok with
      | false =>
        rw [if_neg Bool.false_ne_true] at q7
        rw [if_neg Bool.false_ne_true]
        obtain ⟨m', hm, w'⟩ := q7
        obtain ⟨b1, b2, b3, b4⟩ := back I8
        exact ⟨m', hm, i + 1, ys, its, k, σ6, H7, I8.nopins, wk6, b1, b2, w', b3, rv, b4⟩
      | true =>
        rw [if_pos rfl] at q7
        rw [if_pos rfl]
        refine thn (he _ _ _ _ _ _ s7 σ6 H7 _ I8 q7) fun u2 s8 ⟨y, H8, I9, r9, hlt, m', hm, w'⟩ => ?_
        obtain ⟨b1, b2, b3, b4⟩ := back I9
        have hl := rv.length
        refine call_meets F.slot_list_append ⟨_, b3, rfl⟩ F.entry_list_append (F.args_list_append_2 _ _) (PySem.list_append s2.heap.objs.size its.toArray k u2 (by rw [List.size_toArray]; omega)) ⟨b3, ?_⟩
        have qu := PySem.IsL.update b3 (·.push u2)
        rw [show its.toArray.push u2 = (its ++ [u2]).toArray by simp] at qu
        refine ⟨m', hm, i + 1, ys ++ [y], its ++ [u2], _, σ6, H8, ?_, wk6, ?_, b2, w', qu, rv.append (.cons r9 .nil), b4⟩
        · exact I9.nopins.turned (it := s2.heap.objs.size) (fun b o hb e => (Heap.get?_update_other s8.heap (Obj.mapSeq _) (Ne.symm hb)).trans e) b4 hDC (.inr (Nat.le_refl _)) (fun x c e z => (cellNe x c e).1 z) (fun p hp => nomatch hp)
        · exact T.keep _ _ _ b1 fun b hb o e => (Heap.get?_update_other s8.heap (Obj.mapSeq _) ((below b (fpLt b hb)).2.symm)).trans e
  exact codeAny_compStart_list (loop _ rfl) (T.self _ 0 _ _ _ (T.keep 0 _ _ st2 (fun b hb o e => old b o e)) (loop _ rfl))
theorem pe_comp {X : Cx} {elt tg iter : Expr} {ifs : List Expr} {scope : Scope} {pos : Pos} {N : List Str} {src : List (Option Nat)} {wi : TI} {g : TG} {tc : TT} {te : TE} (hc : X.calm = true) (S : CompScope X scope N src) (hi : PI X tg iter wi)
    (hg : ∀ s H cl C fp, PG (cxC X s H scope cl C N fp) tg g) (hf : ∀ s H cl C fp, PIf (cxC X s H scope cl C N fp) ifs tc) (he : ∀ s H cl C fp, PE (cxC X s H scope cl C N fp) elt te)
    (hs : ∀ x, foldedSetIterable iter X.env x = pure x := by intro _; rfl) : PE X (.ListComp elt [⟨tg, iter, ifs, 0⟩] scope pos) (tComp src wi g tc te) := by
  intro pins s σ H Q I h
  rw [eval_ListComp]
  refine comp_core (use := none) hc S hi hg hf he hs I h fun C a H1 s' key _ ⟨m, hn⟩ q => ⟨m, hn, fun h' sb => ⟨.ref a, H1, key h' sb, rfl, q⟩⟩
/-- x = [.. for ..], x a local name on the same row: stored before the block's names are let go -/
theorem ps_setComp {X : Cx} {elt tg iter : Expr} {ifs : List Expr} {scope : Scope} {pos spos pos' : Pos} {x : Str} {i : Nat} {N : List Str} {src : List (Option Nat)} {wi : TI} {g : TG} {tc : TT} {te : TE} (hc : X.calm = true) (S : CompScope X scope N src) (hi : PI X tg iter wi)
    (hg : ∀ s H cl C fp, PG (cxC X s H scope cl C N fp) tg g) (hf : ∀ s H cl C fp, PIf (cxC X s H scope cl C N fp) ifs tc) (he : ∀ s H cl C fp, PE (cxC X s H scope cl C N fp) elt te) (ht : PG X (.Name x pos') (gName i))
    (hsw : swapsWith (.ListComp elt [⟨tg, iter, ifs, 0⟩] scope pos) (some (.Name x pos')) spos.line X.env = pure true := by rfl)
    (hs : ∀ x, foldedSetIterable iter X.env x = pure x := by intro _; rfl) : PS X (.Assign [.Name x pos'] (.ListComp elt [⟨tg, iter, ifs, 0⟩] scope pos) spos) (tAsg (tComp src wi g tc te) (gName i)) := by
  intro pins s σ H D I h
  rw [exec_Assign_Name_used _ _ _ _ hsw]
  refine wpAny_bind (wpAny_standAt (wpAny_bind ?_))
  rw [arm_evalThenUse_ListComp]
  refine wpAny_bind ?_
  refine comp_core (use := some (assign (.Name x pos') X.env)) hc S hi hg hf he hs I h fun C a H1 s' key fp ⟨m, o, es, ep, ho, hd, hk⟩ q => ?_
  have I1 : Inv X pins σ H1 s' := key s'.heap (Heap.SameBut.refl _ _)
  have I2 := I1.pinned (fp := [C]) (fun b hb => by rw [List.mem_singleton.mp hb]; exact fp) (fun b hb => by rw [List.mem_singleton.mp hb]; exact ⟨o, ho, fun v z => by rw [hd] at z; cases z⟩)
  refine thn (ht _ s' σ H1 (.ref a) (.ref a) _ I2 rfl q) fun _ s5 ⟨σ5, H5, I5, q5⟩ => ?_
  have pC := I5.pin (C, o) (List.mem_append_right _ (List.mem_append_right _ (mem_pinsAt (List.mem_singleton.mpr rfl) ho)))
  obtain ⟨f0, f1, f2, f3, f4, f5⟩ := fp
  refine ⟨m, ⟨o, es, ep, pC.1, hd, hk⟩, fun h' sb => ?_⟩
  exact wpAny_pure (wpAny_pure ⟨σ5, H5, I5.unpinned.turned (it := C) (t' := s5.toks) (fun b o' hb e => (sb.2 b hb).trans e) pC.2.1 f1 f3 f4 f5, q5⟩)
/-! ### a scope that is written -/
def compOkB (osc sc : Scope) (oN N : List Str) (src : List (Option Nat)) : Bool :=
  sc.names.all (fun y => decide (y.2 ≠ .cell) || decide (sc.names.lookup y.1 = some .cell)) && sc.names.all (fun y => decide (y.2 ≠ .local) || decide (sc.names.lookup y.1 = some .local)) &&
  sc.names.all (fun y => decide (y.2 ≠ .free) || decide (osc.names.lookup y.1 = some .cell) || decide (osc.names.lookup y.1 = some .free)) && decide (src.length = N.length) &&
  (List.range src.length).all (fun i => match src[i]?, N[i]? with | some (some j), some x => decide (oN[j]? = some x) && decide ((x, NameKind.free) ∈ sc.names) && decide (sc.names.lookup x = some .free) | _, _ => true)
theorem comp_scope {X : Cx} {scope : Scope} {N : List Str} {src : List (Option Nat)} (osc : Scope) (oN : List Str) (e1 : X.env.scope = osc) (e2 : X.N = oN) (c : compOkB osc scope oN N src = true) (k : scope.kind = .function) : CompScope X scope N src := by
  unfold compOkB at c
  simp only [Bool.and_eq_true, List.all_eq_true, decide_eq_true_eq, Bool.or_eq_true] at c
  obtain ⟨⟨⟨⟨c1, c2⟩, c3⟩, c4⟩, c5⟩ := c
  refine ⟨k, fun y hy e => (c1 y hy).resolve_left fun z => z e, fun y hy e => ?_, fun x hx => ?_, c4, fun i j x h1 h2 => ?_⟩
  · rcases c2 y hy with z | z
    · exact absurd e z
    · exact z
  · show X.env.scope.names.lookup x = _ ∨ X.env.scope.names.lookup x = _
    rw [e1]
    rcases c3 (x, .free) hx with (z | z) | z
    · exact absurd rfl z
    · exact .inl z
    · exact .inr z
  · have hi : i < src.length := (List.getElem?_eq_some_iff.mp h1).1
    have z := c5 i (List.mem_range.mpr hi)
    rw [h1, h2] at z
    simp only [Bool.and_eq_true, decide_eq_true_eq] at z
    rw [e2]
    exact ⟨z.1.1, z.1.2, z.2⟩
/-- the same inside another comprehension, whose scope is no closed text -/
theorem comp_scopeX {X : Cx} {scope : Scope} {N : List Str} {src : List (Option Nat)} (oN : List Str) (e2 : X.N = oN) (c : compOkB X.env.scope scope oN N src = true) (k : scope.kind = .function) : CompScope X scope N src := comp_scope X.env.scope oN rfl e2 c k
end L2
/-! EvMore: data read off the abstract heap and compared, any, all; promises of defs in bundles. Behind EvComp. -/
namespace L2
open PySem PySem.Spec PyProof.Rows
/-! ### data -/
mutual
def IsD (K : PySem.W.Frag) (H : Hp) : PyData → V → Prop
  | .none, v => v = .non
  | .bool b, v => v = .bl b
  | .int i, v => v = .int i
  | .str x, v => v = .str x
  | .list ds, v => ∃ a xs, v = .ref a ∧ SqL K H a xs ∧ IsDs K H ds xs
  | .tuple ds, v => ∃ a xs, v = .ref a ∧ SqT K H a xs ∧ IsDs K H ds xs
  | .dict _, _ => False
def IsDs (K : PySem.W.Frag) (H : Hp) : List PyData → List V → Prop
  | [], xs => xs = []
  | d :: ds, xs => ∃ x r, xs = x :: r ∧ IsD K H d x ∧ IsDs K H ds r
end
theorem isTup_reads {h : Heap} {a : Addr} {its : Array Value} (t : IsTup h a its) : ∃ o n, h.get? a = some o ∧ o.cls = .type "tuple" ∧ o.data = .seq its n := by
  obtain ⟨o, ho, hc, n, hd⟩ := t
  exact ⟨o, n, ho, hc, hd⟩
section
variable {X : Cx} {pins : List (Addr × Obj)} {σ : St} {H : Hp} {s : Shared}
mutual
theorem IsD.reads (I : Inv X pins σ H s) : ∀ (d : PyData) {v : V} {u : Value}, IsD X.K H d v → RelV v u → ∃ as, Reads s.heap u d as
  | .none, v, u, h, r => by
    simp only [IsD] at h; subst h
    cases (show u = .none from r); exact ⟨_, .none⟩
  | .bool b, v, u, h, r => by
    simp only [IsD] at h; subst h
    cases (show u = .bool b from r); exact ⟨_, .bool b⟩
  | .int i, v, u, h, r => by
    simp only [IsD] at h; subst h
    obtain ⟨t, rfl⟩ := r; exact ⟨_, .int i t⟩
  | .str x, v, u, h, r => by
    simp only [IsD] at h; subst h
    obtain ⟨t, rfl⟩ := r; exact ⟨_, .str x t⟩
  | .list ds, v, u, h, r => by
    simp only [IsD] at h
    obtain ⟨a, xs, rfl, hs, hd⟩ := h
    cases (show u = .ref a from r)
    obtain ⟨its, rv, p, _⟩ := I.list hs
    obtain ⟨o, ho, hc, n, hdd⟩ := p.isList
    obtain ⟨as, ra⟩ := IsDs.reads I ds hd rv
    exact ⟨_, .list ho hc hdd (by simpa using ra)⟩
  | .tuple ds, v, u, h, r => by
    simp only [IsD] at h
    obtain ⟨a, xs, rfl, hs, hd⟩ := h
    cases (show u = .ref a from r)
    obtain ⟨its, rv, p, _⟩ := I.tuple hs
    obtain ⟨o, n, ho, hc, hdd⟩ := isTup_reads p
    obtain ⟨as, ra⟩ := IsDs.reads I ds hd rv
    exact ⟨_, .tuple ho hc hdd (by simpa using ra)⟩
  | .dict _, v, u, h, r => by
    simp only [IsD] at h
theorem IsDs.reads (I : Inv X pins σ H s) : ∀ (ds : List PyData) {vs : List V} {us : List Value}, IsDs X.K H ds vs → Vals vs us → ∃ as, ReadsAll s.heap us ds as
  | [], vs, us, h, r => by
    simp only [IsDs] at h; subst h
    cases r; exact ⟨_, .nil⟩
  | d :: ds, vs, us, h, r => by
    simp only [IsDs] at h
    obtain ⟨x, rr, rfl, hx, hr⟩ := h
    cases r with
    | cons r1 r2 =>
      obtain ⟨as, ra⟩ := IsD.reads I d hx r1
      obtain ⟨bs, rb⟩ := IsDs.reads I ds hr r2
      exact ⟨_, .cons ra rb⟩
end
end
mutual
theorem IsD.imp {K : PySem.W.Frag} {H H' : Hp} (sl : ∀ a xs, SqL K H a xs → SqL K H' a xs) (st : ∀ a xs, SqT K H a xs → SqT K H' a xs) : ∀ (d : PyData) {v : V}, IsD K H d v → IsD K H' d v
  | .none, v, h => by simp only [IsD] at h ⊢; exact h
  | .bool b, v, h => by simp only [IsD] at h ⊢; exact h
  | .int i, v, h => by simp only [IsD] at h ⊢; exact h
  | .str x, v, h => by simp only [IsD] at h ⊢; exact h
  | .list ds, v, h => by
    simp only [IsD] at h ⊢
    obtain ⟨a, xs, e, hs, hd⟩ := h
    exact ⟨a, xs, e, sl a xs hs, IsDs.imp sl st ds hd⟩
  | .tuple ds, v, h => by
    simp only [IsD] at h ⊢
    obtain ⟨a, xs, e, hs, hd⟩ := h
    exact ⟨a, xs, e, st a xs hs, IsDs.imp sl st ds hd⟩
  | .dict _, v, h => by simp only [IsD] at h
theorem IsDs.imp {K : PySem.W.Frag} {H H' : Hp} (sl : ∀ a xs, SqL K H a xs → SqL K H' a xs) (st : ∀ a xs, SqT K H a xs → SqT K H' a xs) : ∀ (ds : List PyData) {vs : List V}, IsDs K H ds vs → IsDs K H' ds vs
  | [], vs, h => by simp only [IsDs] at h ⊢; exact h
  | d :: ds, vs, h => by
    simp only [IsDs] at h ⊢
    obtain ⟨x, r, e, hx, hr⟩ := h
    exact ⟨x, r, e, IsD.imp sl st d hx, IsDs.imp sl st ds hr⟩
end
/-! ### == and != of data -/
def rEqD (K : PySem.W.Frag) (neg : Bool) : R2 := fun x y H Q => ∃ da db, IsD K H da x ∧ IsD K H db y ∧ PySem.SeqAt.shaped da = true ∧ PySem.SeqAt.shaped db = true ∧ Q (.bl (if neg then !PyData.eqv da db else PyData.eqv da db)) H
theorem op_eqD {X : Cx} (hu : X.A.units + 64 < cLine) : OpR X (compareOp .Eq) (rEqD X.K false) := by
  intro pins s σ H x y v u Q I rx ry h
  obtain ⟨da, db, ha, hb, sa, sb, q⟩ := h
  obtain ⟨as, ra⟩ := IsD.reads I da ha rx
  obtain ⟨bs, rb⟩ := IsD.reads I db hb ry
  exact PySem.SeqAt.compareEq_shaped ra rb sa sb hu ⟨.bl _, H, I, rfl, q⟩
theorem op_neD {X : Cx} (hu : X.A.units + 64 < cLine) : OpR X (compareOp .NotEq) (rEqD X.K true) := by
  intro pins s σ H x y v u Q I rx ry h
  obtain ⟨da, db, ha, hb, sa, sb, q⟩ := h
  obtain ⟨as, ra⟩ := IsD.reads I da ha rx
  obtain ⟨bs, rb⟩ := IsD.reads I db hb ry
  exact PySem.SeqAt.compareNe_shaped ra rb sa sb hu ⟨.bl _, H, I, rfl, q⟩
/-! ### any, all -/
theorem bools_of : ∀ {bs : List Bool} {us : List Value}, Vals (bs.map V.bl) us → LSm.BoolsAre us bs
  | [], _, .nil => .nil
  | b :: bs, _, .cons h t => by
    cases (show _ = Value.bool b from h)
    exact .cons b (bools_of t)
theorem call_any {X : Cx} (hc : X.calm = true) : CallR X (.builtin "any") (fun xs H Q => ∃ (a : Addr) (bs : List Bool), xs = [.ref a] ∧ SqL X.K H a (bs.map V.bl) ∧ Q (.bl (bs.any id)) H) := by
  intro pins s σ H xs us Q I r h
  obtain ⟨a, bs, rfl, hS, q⟩ := h
  obtain ⟨u, rfl, ru⟩ := r.one
  cases (show u = Value.ref a from ru)
  obtain ⟨its, rv, p, _⟩ := I.list hS
  have hl := p.isList
  have hb := bools_of rv
  have hlt : a < s.heap.objs.size := by obtain ⟨_, e, _⟩ := hl; exact Heap.lt_size e
  refine call_any_walk (wpAny_pyIter_list hl ?_)
  refine ⟨s.heap.objs.size, [s.heap.objs.size, a], [s.heap.objs.size], its.toArray.size, _, _, fun i => (bs[i]?).getD false, rfl, Walks.list (A := X.A.in1) (I.ok.hd hc) _ a (Nat.ne_of_lt hlt) its.toArray,
    ⟨⟨_, Heap.get?_push_size _ rfl, rfl, rfl⟩, hl.push _⟩, fun i v s' Q' E' hP hQ => ?_, fun h' tk hk => ?_⟩
  · obtain ⟨b, e, rfl⟩ := hb.get i v (by simpa using hP)
    simp only [e, Option.getD_some] at hQ
    exact wpAny_truthy_bool hQ
  · have e : ((List.range its.toArray.size).any fun i => (bs[i]?).getD false) = bs.any id := by
      rw [List.size_toArray, hb.length]; exact LSm.range_any bs
    rw [e]
    exact ⟨.bl _, H, I.kept (LSm.kept_iter hk), rfl, q⟩
theorem call_all {X : Cx} (hc : X.calm = true) : CallR X (.builtin "all") (fun xs H Q => ∃ (a : Addr) (bs : List Bool), xs = [.ref a] ∧ SqL X.K H a (bs.map V.bl) ∧ Q (.bl (bs.all id)) H) := by
  intro pins s σ H xs us Q I r h
  obtain ⟨a, bs, rfl, hS, q⟩ := h
  obtain ⟨u, rfl, ru⟩ := r.one
  cases (show u = Value.ref a from ru)
  obtain ⟨its, rv, p, _⟩ := I.list hS
  have hl := p.isList
  have hb := bools_of rv
  have hlt : a < s.heap.objs.size := by obtain ⟨_, e, _⟩ := hl; exact Heap.lt_size e
  refine call_all_walk (wpAny_pyIter_list hl ?_)
  refine ⟨s.heap.objs.size, [s.heap.objs.size, a], [s.heap.objs.size], its.toArray.size, _, _, fun i => (bs[i]?).getD true, rfl, Walks.list (A := X.A.in1) (I.ok.hd hc) _ a (Nat.ne_of_lt hlt) its.toArray,
    ⟨⟨_, Heap.get?_push_size _ rfl, rfl, rfl⟩, hl.push _⟩, fun i v s' Q' E' hP hQ => ?_, fun h' tk hk => ?_⟩
  · obtain ⟨b, e, rfl⟩ := hb.get i v (by simpa using hP)
    simp only [e, Option.getD_some] at hQ
    exact wpAny_truthy_bool hQ
  · have e : ((List.range its.toArray.size).all fun i => (bs[i]?).getD true) = bs.all id := by
      rw [List.size_toArray, hb.length]; exact LSm.range_all bs
    rw [e]
    exact ⟨.bl _, H, I.kept (LSm.kept_iter hk), rfl, q⟩
/-! ### a def with its promise, in one -/
def Pm (P : Program) (w : World) (K : PySem.W.Frag) (mg : Str → Option Value) (base : Heap) (CX : CXT) (k : Nat) (x : Str) (ps : List Str) (sp : Sp) : Prop :=
  ∃ (f : Addr) (fd : FuncData), mg x = some (.ref f) ∧ PySem.W.keepIn K (.ref f) = true ∧ Binds K fd ps [] ∧ FnOk P w K mg base CX k f fd ps sp
theorem pe_callP {X : Cx} {CX : CXT} {k : Nat} {x : Str} {ps : List Str} {sp : Sp} {E : XK} {p pos : Pos} {e : Expr} {es : List Expr} {t : TA} (h : Pm X.prog X.w X.K X.mg X.base CX k x ps sp) (hr : Room k X.A) (hg : Gl X x) (hx : Passes CX X E) (ha : PA X (e :: es) t)
    (hdb : (x == ("__debug__" : Str)) = false := by decide) (he : starEach (e :: es) X.env = (false, eval e X.env) :: starEach es X.env := by rfl) (hpl : (backTo pos (starEach es X.env)).any (·.1) = false := by rfl) :
    PE X (.Call (.Name x p) (e :: es) [] pos) (tCall sp [] E t) := by
  obtain ⟨f, fd, hm, hk, hb, F⟩ := h
  exact pe_call F hr hg hm hk hb .nil hx ha hdb he hpl
end L2
/-! EvQ: made by mkq.py. The rules over structures. -/
namespace L2
open PySem PySem.Spec PyProof.Rows
set_option autoImplicit true
set_option relaxedAutoImplicit true
structure QE (X : Cx) (e : Expr) (t : TE) : Prop where
  h : PE X e t
structure QT (X : Cx) (e : Expr) (t : TT) : Prop where
  h : PT X e t
structure QW (X : Cx) (e : Expr) (t : TT) : Prop where
  h : PW X e t
structure QA (X : Cx) (e : List Expr) (t : TA) : Prop where
  h : PA X e t
structure QS (X : Cx) (e : Stmt) (t : TS) : Prop where
  h : PS X e t
structure QSs (X : Cx) (e : List Stmt) (t : TS) : Prop where
  h : PSs X e t
structure QGs (X : Cx) (e : List Expr) (t : TGs) : Prop where
  h : PGs X e t
structure QG (X : Cx) (e : Expr) (t : TG) : Prop where
  h : PG X e t
structure QF (X : Cx) (e : List Expr) (t : TF) : Prop where
  h : PF X e t
structure QIf (X : Cx) (e : List Expr) (t : TT) : Prop where
  h : PIf X e t
structure QO (X : Cx) (e : Option Expr) (t : TO) : Prop where
  h : PO X e t
structure QI (X : Cx) (tg iter : Expr) (t : TI) : Prop where
  h : PI X tg iter t
theorem QW.pt {X : Cx} {e : Expr} {t : TT} (k : QW X e t) : QT X e t := ⟨k.h.pt⟩
theorem QSs.nox {X : Cx} {e : List Stmt} {t : TS} (k : QSs X.nox e t) : QSs X e t := ⟨k.h.nox⟩
theorem qe_int {i j pos} : QE X (.Constant (.int i) j pos) (tC (.int i)) := ⟨pe_int ⟩
theorem qe_bl {b j pos} : QE X (.Constant (.bool b) j pos) (tC (.bl b)) := ⟨pe_bl ⟩
theorem qe_non {j pos} : QE X (.Constant .none j pos) (tC .non) := ⟨pe_non ⟩
theorem qe_str {x j pos} : QE X (.Constant (.str x) j pos) (tC (.str x)) := ⟨pe_str ⟩
theorem qe_glob {x : Str} {v : V} {u : Value} {pos : Pos} (hg : Gl X x) (hm : X.mg x = some u) (r : RelV v u) (hd : (x == ("__debug__" : Str)) = false := by decide) : QE X (.Name x pos) (tC v) := ⟨pe_glob (hg) (hm) (r) (hd)⟩
theorem qe_bltn {x : Str} {v : V} {u : Value} {pos : Pos} (hg : Gl X x) (hm : X.mg x = none) (hv : bootBuiltins x = some u) (r : RelV v u) (hn : x ≠ "__name__" := by decide) (hd : (x == ("__debug__" : Str)) = false := by decide) : QE X (.Name x pos) (tC v) := ⟨pe_bltn (hg) (hm) (hv) (r) (hn) (hd)⟩
theorem qt_cmp {op : CmpOp} {t : TE} (h : PC X op a b t) (h1 : behindInMarks op b = false := by first | exact nobehind _ (by decide) (by decide) | rfl) : QT X (.Compare a [op] [b] pos) (tB t) := ⟨pt_cmp (h) (h1)⟩
theorem qt_val {e : Expr} {t : TE} (h : QE X e t) (he : ∀ whole, isTrue e X.env whole = (do let v ← whole; standAt e.pos; holding [v] (truthy v)) := by intro _; rfl) : QT X e (tB t) := ⟨pt_val h.h (he)⟩
theorem qw_and1 (ha : QT X a tA) : QW X (.BoolOp .And [a] pos) tA := ⟨pw_and1 ha.h⟩
theorem qw_or1 (ha : QT X a tA) : QW X (.BoolOp .Or [a] pos) tA := ⟨pw_or1 ha.h⟩
theorem qw_and (ha : QT X a tA) (hb : QW X (.BoolOp .And (b :: restq) pos) tB') : QW X (.BoolOp .And (a :: b :: restq) pos) (tAnd tA tB') := ⟨pw_and ha.h hb.h⟩
theorem qw_or (ha : QT X a tA) (hb : QW X (.BoolOp .Or (b :: restq) pos) tB') : QW X (.BoolOp .Or (a :: b :: restq) pos) (tOr tA tB') := ⟨pw_or ha.h hb.h⟩
theorem qt_not (ha : QT X a tA) : QT X (.UnaryOp .Not a pos) (tNot tA) := ⟨pt_not ha.h⟩
theorem qe_one {op} {t : TE} (h : QE X a t) : QE X (.BoolOp op [a] pos) t := ⟨pe_one h.h⟩
theorem qe_or (ha : QE X a ta) (hb : QE X (.BoolOp .Or (b :: restq) pos) tb) : QE X (.BoolOp .Or (a :: b :: restq) pos) (tOrV ta tb) := ⟨pe_or ha.h hb.h⟩
theorem qss_nil  : QSs X [] tNext := ⟨pss_nil ⟩
theorem qss_cons (h1 : QS X stq t) (h2 : QSs X restq u) : QSs X (stq :: restq) (tSeq t u) := ⟨pss_cons h1.h h2.h⟩
theorem qss_one (h1 : QS X stq t) : QSs X [stq] t := ⟨pss_one h1.h⟩
theorem qs_expr (he : QE X e te) (hs : swapsWith e none pos.line X.env = pure false := by rfl) : QS X (.Expr e pos) (tDrop te) := ⟨ps_expr he.h (hs)⟩
theorem qs_ret (he : QE X e te) : QS X (.Return (some e) pos) (tRet te) := ⟨ps_ret he.h⟩
theorem qs_if {c : Expr} {a b : List Stmt} {tc : TT} (hc : QT X c tc) (ha : QSs X a t) (hb : QSs X b u) : QS X (.If c a b pos) (tIfS tc t u) := ⟨ps_if hc.h ha.h hb.h⟩
theorem qg_name {i : Nat} {x : Str} (hN : X.N.Nodup) (hiq : X.N[i]? = some x) (hx : Loc X.env.scope x) (hf : X.fn x = true ∨ X.env.scope.names.lookup x = some .local := by first | exact .inl rfl | exact .inr rfl | assumption) : QG X (.Name x pos) (gName i) := ⟨pg_name (hN) (hiq) (hx) (hf)⟩
theorem qgs_nil  : QGs X [] gNil := ⟨pgs_nil ⟩
theorem qgs_cons {e : Expr} {es : List Expr} {t : TG} {u : TGs} (h1 : QG X e t) (h2 : QGs X es u) (hs : (assignEach (e :: es) X.env).map (·.2) = assign e X.env :: (assignEach es X.env).map (·.2) := by rfl) : QGs X (e :: es) (gCons t u) := ⟨pgs_cons h1.h h2.h (hs)⟩
theorem qg_tup {es : List Expr} {k : Nat} {t : TGs} {n : Nat} (hc : X.calm = true) (h : QGs X es t) (hn : (assignEach es X.env).length = n := by rfl) (hst : (assignEach es X.env).findIdx? (·.1) = none := by rfl) : QG X (.Tuple es k pos) (gTup X.K n t) := ⟨pg_tup (hc) h.h (hn) (hst)⟩
theorem qg_sub {o i : Expr} {to ti : TE} {t : TSet} (ho : QE X o to) (hiq : QE X i ti) (hs : PSet X t) (ha : ∀ v, assign (.Subscript o i pos) X.env v = (do
      let ov ← holding [v] (eval o X.env)
      let iv ← holding [v, ov] (eval i X.env)
      standAt pos
      holding [v, ov, iv] (setItem ov iv v)
      release [v, ov, iv] []) := by intro _; rfl) : QG X (.Subscript o i pos) (gSub to ti t) := ⟨pg_sub ho.h hiq.h (hs) (ha)⟩
theorem qs_asg {tg e : Expr} {te : TE} {g : TG} (he : QE X e te) (hg : QG X tg g) (hs : swapsWithSole [tg] e pos.line X.env = pure false := by rfl) (hw : swappedStores [tg] e X.env = pure none := by rfl) (h1 : (assignEach [tg] X.env).map (·.2) = [assign tg X.env] := by rfl) : QS X (.Assign [tg] e pos) (tAsg te g) := ⟨ps_asg he.h hg.h (hs) (hw) (h1)⟩
theorem qs_set {i : Nat} {x : Str} {e : Expr} {te : TE} {pos' : Pos} (hN : X.N.Nodup) (hiq : X.N[i]? = some x) (hx : Loc X.env.scope x) (he : QE X e te) (hs : swapsWith e (some (.Name x pos')) pos.line X.env = pure false := by rfl) (hf : X.fn x = true ∨ X.env.scope.names.lookup x = some .local := by first | exact .inl rfl | exact .inr rfl | assumption) : QS X (.Assign [.Name x pos'] e pos) (tAsg te (gName i)) := ⟨ps_set (hN) (hiq) (hx) he.h (hs) (hf)⟩
theorem qs_while {c : Expr} {body : List Stmt} {tc : TT} {tb : TS} (hp : PassesOwn (model X.prog X.w) X.A X.env X.xe) (hc : QT X c tc) (hb : QSs X body tb) : QS X (.While c body [] pos) (tWhile tc tb) := ⟨ps_while (hp) hc.h hb.h⟩
theorem qi_list {l : Expr} {tl : TE} (hl : QE X l tl) : QI X tg l (iList X.K tl) := ⟨pi_list hl.h⟩
theorem qi_tup {l : Expr} {tl : TE} (hl : QE X l tl) : QI X tg l (iTup X.K tl) := ⟨pi_tup hl.h⟩
theorem qi_range1 {a : Expr} {ta : TA} {p pos : Pos} (hg : Gl X "range") (hm : X.mg "range" = none) (ha : QA X [a] ta) (hs : starEach [a] X.env = [(false, eval a X.env)] := by rfl) : QI X tg (.Call (.Name "range" p) [a] [] pos) (iRng1 ta) := ⟨pi_range1 (hg) (hm) ha.h (hs)⟩
theorem qi_range2 {a b : Expr} {ta : TA} {p pos : Pos} (hg : Gl X "range") (hm : X.mg "range" = none) (ha : QA X [a, b] ta) (hs : starEach [a, b] X.env = [(false, eval a X.env), (false, eval b X.env)] := by rfl) (hs2 : starEach [b] X.env = [(false, eval b X.env)] := by rfl) : QI X tg (.Call (.Name "range" p) [a, b] [] pos) (iRng2 ta) := ⟨pi_range2 (hg) (hm) ha.h (hs) (hs2)⟩
theorem qs_for {iter : Expr} {body : List Stmt} {wi : TI} {g : TG} {tb : TS} {pos : Pos} (hp : PassesOwn (model X.prog X.w) X.A X.env X.xe) (hc : X.calm = true) (hiq : QI X tg iter wi) (hg : QG X tg g) (hb : QSs X body tb) (hs : ∀ x, foldedSetIterable iter X.env x = pure x := by intro _; rfl) : QS X (.For tg iter body [] pos) (tFor wi g tb) := ⟨ps_for (hp) (hc) hiq.h hg.h hb.h (hs)⟩
theorem qe_op {op : Operator} {r : R2} (ho : OpR X (binaryOp op) r) (ha : QE X a ta) (hb : QE X b tb) : QE X (.BinOp a op b pos) (tOp r ta tb) := ⟨pe_op (ho) ha.h hb.h⟩
theorem qe_cmpR {op : CmpOp} {r : R2} (ho : OpR X (compareOp op) r) (ha : QE X a ta) (hb : QE X b tb) (hm : behindInMarks op b = false) : QE X (.Compare a [op] [b] pos) (tOp r ta tb) := ⟨pe_cmpR (ho) ha.h hb.h (hm)⟩
theorem qt_cmpR {op : CmpOp} {r : R2} (ho : OpR X (compareOp op) r) (ha : QE X a ta) (hb : QE X b tb) (hm : behindInMarks op b = false) : QT X (.Compare a [op] [b] pos) (tTest (tOp r ta tb)) := ⟨pt_cmpR (ho) ha.h hb.h (hm)⟩
theorem qa_nil  : QA X [] tNil := ⟨pa_nil ⟩
theorem qe_tup {x1} (h : QA X es t) : QE X (.Tuple es x1 pos) (tTup t) := ⟨pe_tup h.h⟩
theorem qe_lst (h : QA X es t) : QE X (.List es pos) (tLst t) := ⟨pe_lst h.h⟩
theorem qe_callB (hc : CallR X (.builtin idq) r) (hg : Gl X x) (hm : X.mg x = none) (hv : bootBuiltins x = some (.builtin idq)) (ha : QA X (e :: es) t) (hn : x ≠ "__name__" := by decide) (hdb : (x == ("__debug__" : Str)) = false := by decide) (he : starEach (e :: es) X.env = (false, eval e X.env) :: starEach es X.env := by rfl) (hpl : (backTo pos (starEach es X.env)).any (·.1) = false := by rfl) : QE X (.Call (.Name x p) (e :: es) [] pos) (tCB r t) := ⟨pe_callB (hc) (hg) (hm) (hv) ha.h (hn) (hdb) (he) (hpl)⟩
theorem qe_callTy (hc : CallR X (.type T) r) (hg : Gl X x) (hm : X.mg x = none) (hv : bootBuiltins x = some (.type T)) (ha : QA X (e :: es) t) (hn : x ≠ "__name__" := by decide) (hdb : (x == ("__debug__" : Str)) = false := by decide) (he : starEach (e :: es) X.env = (false, eval e X.env) :: starEach es X.env := by rfl) (hpl : (backTo pos (starEach es X.env)).any (·.1) = false := by rfl) : QE X (.Call (.Name x p) (e :: es) [] pos) (tCB r t) := ⟨pe_callTy (hc) (hg) (hm) (hv) ha.h (hn) (hdb) (he) (hpl)⟩
theorem qo_none  : QO X none tNoPart := ⟨po_none ⟩
theorem qo_some (h : QE X e te) : QO X (some e) (tPart te) := ⟨po_some h.h⟩
theorem qe_slice {r : V → Option Int → Option Int → Hp → VK → Prop} (hr : SlR X r) (he : QE X e te) (hl : QO X loq tl) (hu : QO X hiq th) : QE X (.Subscript e (.Slice loq hiq none p2) pos) (tSl r te tl th) := ⟨pe_slice (hr) he.h hl.h hu.h⟩
theorem qe_ix {r : R2} (hr : IxR X r) (ha : QE X a ta) (hb : QE X b tb) (hs : PlainIx b) : QE X (.Subscript a b pos) (tOp r ta tb) := ⟨pe_ix (hr) ha.h hb.h (hs)⟩
theorem qe_bm (pa : PlainAttrs T) (slot : Slot T nameq idq) (hty : typeOf (.builtin idq) = pure (.type "method_descriptor")) (hm : MtR X idq r) (ho : QE X o to) (ha : QA X (e :: es) t) (hbase : attributeBase o nameq X.env (eval o X.env) = eval o X.env := by rfl) (hfew : ((backTo cpos (starEach (e :: es) X.env)).all (fun x => !x.1) && (backToKw cpos (keywordEach [] X.env)).all (fun x => x.1.isSome)
      && decide ((e :: es).length + ([] : List Keyword).length + (if ([] : List Keyword).isEmpty then 0 else 1) < 30)) = true := by rfl) (hline : (apos.endLine == cpos.line) = true := by rfl) (hs : starEach (e :: es) X.env = (false, eval e X.env) :: starEach es X.env := by rfl) (hplain : (backTo cpos (starEach es X.env)).any (·.1) = false := by rfl) : QE X (.Call (.Attribute o nameq apos) (e :: es) [] cpos) (tBM X.K T r to t) := ⟨pe_bm (pa) (slot) (hty) (hm) ho.h ha.h (hbase) (hfew) (hline) (hs) (hplain)⟩
theorem qv (i : Nat) {x : Str} {pos : Pos} (hN : X.N[i]? = some x := by rfl) (hv : Vis X.env.scope x := by first | exact Or.inl rfl | exact Or.inr (Or.inl rfl) | exact Or.inr (Or.inr rfl)) (hd : (x == ("__debug__" : Str)) = false := by decide) (hcd : (x == ("__classdict__" : Str)) = false := by decide) : QE X (.Name x pos) (tVar i) := ⟨pv (i) (hN) (hv) (hd) (hcd)⟩
theorem qf_nil {X : Cx} : QF X [] (fun out _ H Q => Q out H) := ⟨pf_nil ⟩
theorem qf_cons {X : Cx} {e : Expr} {es : List Expr} {te : TE} {tr : TF} (he : QE X e te) (hr : QF X es tr) : QF X (e :: es) (fun out σ H Q => te σ H fun v H1 => ∃ y, v = .str y ∧ (out ++ y).length ≤ sizeLine ∧ tr (out ++ y) σ H1 Q) := ⟨pf_cons he.h hr.h⟩
theorem qe_fstr {X : Cx} {e1 e2 : Expr} {es : List Expr} {pos : Pos} {t : TF} (h : QF X (e1 :: e2 :: es) t) : QE X (.JoinedStr (e1 :: e2 :: es) pos) (fun σ H Q => t Str.empty σ H fun z H1 => z.length ≤ sizeLine ∧ Q (.str z) H1) := ⟨pe_fstr h.h⟩
theorem qif_nil {X : Cx} : QIf X [] tYes := ⟨pif_nil ⟩
theorem qif_one {X : Cx} {c : Expr} {t : TT} (h : QT X c t) : QIf X [c] t := ⟨pif_one h.h⟩
theorem qe_callP {X : Cx} {CX : CXT} {k : Nat} {x : Str} {ps : List Str} {sp : Sp} {E : XK} {p pos : Pos} {e : Expr} {es : List Expr} {t : TA} (h : Pm X.prog X.w X.K X.mg X.base CX k x ps sp) (hr : Room k X.A) (hg : Gl X x) (hx : Passes CX X E) (ha : QA X (e :: es) t) (hdb : (x == ("__debug__" : Str)) = false := by decide) (he : starEach (e :: es) X.env = (false, eval e X.env) :: starEach es X.env := by rfl) (hpl : (backTo pos (starEach es X.env)).any (·.1) = false := by rfl) : QE X (.Call (.Name x p) (e :: es) [] pos) (tCall sp [] E t) := ⟨pe_callP (h) (hr) (hg) (hx) ha.h (hdb) (he) (hpl)⟩
/-- an argument, by a test that is small -/
def notStar : Expr → Bool
  | .Starred .. => false
  | _ => true
theorem starEach_cons {e : Expr} {es : List Expr} {env : Env} (h : notStar e = true) : starEach (e :: es) env = (false, eval e env) :: starEach es env := by
  cases e <;> first | rfl | cases h
theorem qac {X : Cx} {e : Expr} {es : List Expr} {te : TE} {t : TA} (ha : QE X e te) (hr : QA X es t) (hs : notStar e = true := by rfl) : QA X (e :: es) (tCons te t) := ⟨pa_cons ha.h hr.h (starEach_cons hs)⟩
theorem qe_comp {X : Cx} {elt tg iter : Expr} {ifs : List Expr} {scope : Scope} {pos : Pos} {N : List Str} {src : List (Option Nat)} {wi : TI} {g : TG} {tc : TT} {te : TE} (hc : X.calm = true) (S : CompScope X scope N src) (hi : QI X tg iter wi)
    (hg : ∀ s H cl C fp, QG (cxC X s H scope cl C N fp) tg g) (hf : ∀ s H cl C fp, QIf (cxC X s H scope cl C N fp) ifs tc) (he : ∀ s H cl C fp, QE (cxC X s H scope cl C N fp) elt te)
    (hs : ∀ x, foldedSetIterable iter X.env x = pure x := by intro _; rfl) : QE X (.ListComp elt [⟨tg, iter, ifs, 0⟩] scope pos) (tComp src wi g tc te) :=
  ⟨pe_comp hc S hi.h (fun s H cl C fp => (hg s H cl C fp).h) (fun s H cl C fp => (hf s H cl C fp).h) (fun s H cl C fp => (he s H cl C fp).h) hs⟩
theorem qs_setComp {X : Cx} {elt tg iter : Expr} {ifs : List Expr} {scope : Scope} {pos spos pos' : Pos} {x : Str} {i : Nat} {N : List Str} {src : List (Option Nat)} {wi : TI} {g : TG} {tc : TT} {te : TE} (hc : X.calm = true) (S : CompScope X scope N src) (hi : QI X tg iter wi)
    (hg : ∀ s H cl C fp, QG (cxC X s H scope cl C N fp) tg g) (hf : ∀ s H cl C fp, QIf (cxC X s H scope cl C N fp) ifs tc) (he : ∀ s H cl C fp, QE (cxC X s H scope cl C N fp) elt te) (ht : QG X (.Name x pos') (gName i))
    (hsw : swapsWith (.ListComp elt [⟨tg, iter, ifs, 0⟩] scope pos) (some (.Name x pos')) spos.line X.env = pure true := by rfl)
    (hs : ∀ x, foldedSetIterable iter X.env x = pure x := by intro _; rfl) : QS X (.Assign [.Name x pos'] (.ListComp elt [⟨tg, iter, ifs, 0⟩] scope pos) spos) (tAsg (tComp src wi g tc te) (gName i)) :=
  ⟨ps_setComp hc S hi.h (fun s H cl C fp => (hg s H cl C fp).h) (fun s H cl C fp => (hf s H cl C fp).h) (fun s H cl C fp => (he s H cl C fp).h) ht.h hsw hs⟩
/-! ### defs -/
section
variable {P : Program} {w : World} {K : PySem.W.Frag} {mg : Str → Option Value} {base : Heap} {x qual : Str} {st : Stmt} {f : Addr} {fd : FuncData} {N ps : List Str} {k : Nat} {sp : Sp}
theorem Fun.okQ (F : Fun K x qual st f fd) (S : FnScope N ps (defScope st)) (len : ∀ vs H Q E, sp vs H Q E → vs.length = ps.length)
    (hbody : ∀ (cdv : Value) (A : Around) (outer : List Env) (s : Shared) (H : Hp) (vs : List V) (Q : VK) (E : XK), Room k (A.deeper (envOfC qual (defScope st) s.heap.objs.size f cdv)) → sp vs H Q E →
      ∃ t, QSs (cxOf CX0 P w K mg base N qual (defScope st) f cdv A outer s H E).nox (defBody st) t ∧ t { nx := fun _ H' => Q .non H', rt := Q } (start N vs) H) : FnOk P w K mg base CX0 (k + 1) f fd ps sp :=
  F.ok S len fun cdv A outer s H vs Q E hr h => let ⟨t, a, b⟩ := hbody cdv A outer s H vs Q E hr h; ⟨t, a.h, b⟩
end

end L2
/-! EvRange: range with a step. Behind EvQ. -/
namespace L2
open PySem PySem.Spec PyProof.Rows
section
variable {X : Cx} {tg : Expr}
end
theorem comp_rng {lo : Int} {n : Nat} {g : TG} {tc : TT} {te : TE} {σ' : St} {H : Hp} {G : Addr → Hp → List V → Prop} (Pv : Nat → List V → Hp → Prop) (h0 : Pv 0 [] H)
    (hs : ∀ i ys H (N : List V → Hp → Prop), i < n → Pv i ys H → (∀ ys' H', Pv (i + 1) ys' H' → N ys' H') → g (.int (lo + i)) σ' H fun σ2 H4 => Weak σ' σ2 ∧ tc σ2 H4 fun b H5 => if b = true then te σ2 H5 fun y H6 => ys.length < sizeLine ∧ N (ys ++ [y]) H6 else N ys H5)
    (hd : ∀ ys H, Pv n ys H → ys.length ≤ sizeLine ∧ ∀ p, H p = none → G p H ys) :
    ∃ W : Nat → Nat → List V → Hp → Prop, (∃ m, W 0 m [] H) ∧ ∀ i m ys H2, W i m ys H2 →
      ((Itr lo n).stop i H2 ∧ ys.length ≤ sizeLine ∧ ∀ p, H2 p = none → G p H2 ys) ∨
      ((Itr lo n).go i H2 ∧ ∀ x H3, (Itr lo n).yld i H2 x H3 → g x σ' H3 fun σ2 H4 => Weak σ' σ2 ∧ tc σ2 H4 fun b H5 =>
        if b = true then te σ2 H5 fun y H6 => ys.length < sizeLine ∧ ∃ m', m' < m ∧ W (i + 1) m' (ys ++ [y]) H6 else ∃ m', m' < m ∧ W (i + 1) m' ys H5) := by
  refine ⟨fun i m ys H => m = n - i ∧ i ≤ n ∧ Pv i ys H, ⟨n, rfl, Nat.zero_le _, h0⟩, ?_⟩
  rintro i m ys H2 ⟨rfl, hi, p⟩
  by_cases hlt : i < n
  · refine .inr ⟨hlt, fun x H' y => ?_⟩
    obtain ⟨e, rfl⟩ := y
    subst e
    exact hs i ys _ (fun ys' H'' => ∃ m', m' < n - i ∧ m' = n - (i + 1) ∧ i + 1 ≤ n ∧ Pv (i + 1) ys' H'') hlt p (fun ys' H'' p' => ⟨_, by omega, rfl, hlt, p'⟩)
  · have e : i = n := by omega
    subst e
    exact .inl ⟨Nat.le_refl _, hd ys H2 p⟩
end L2
/-! EvMath: the mathematics of primes, by naturals; core alone. -/
namespace EM
/-! ### lists of primes with how often -/
/-! ### plain parts -/
/-! ### roots -/
end EM
/-! EvEuler: Fermat and Euler for a prime, by naturals and ints; core alone. Behind EvMath. -/
namespace EM
/-! ### lists without repeats -/
/-! ### roots of a sum of powers, the highest one once -/
/-! ### Euler -/
/-! ### rests of squares -/
/-! ### powers by squaring -/
/-! ### small primes by looking -/
/-! ### plain parts are told in one way -/
/-! ### what shuts a form -/
/-! ### the plain part by looking -/
/-! ### odd primes by looking -/
end EM
/-! EvBase: what every row of stage 1 shares; no row is named here. Behind EvTry, EvMath. -/
namespace E1
open PySem L2
/-! ### whole numbers by their kinds -/
section
variable (K : PySem.W.Frag)
theorem kit_int_bool : PySem.W.kitOne K (.type "int") (.type "bool") = some false := by kernel_rfl
end
theorem rel_ty {n : String} {K : PySem.W.Frag} {t : Value} {b : Bool} (h : PySem.W.kitOne K t (.type n) = some b) : ∀ u, RelV (.ty n) u → PySem.W.kitOne K t u = some b := fun u r => by
  cases (show u = Value.type n from r)
  exact h
theorem rel_ref {c : Addr} {K : PySem.W.Frag} {t : Value} {b : Bool} (h : PySem.W.kitOne K t (.ref c) = some b) : ∀ u, RelV (.ref c) u → PySem.W.kitOne K t u = some b := fun u r => by
  cases (show u = Value.ref c from r)
  exact h
/-! ### the promises -/
theorem same_new {q : Addr} {H : Hp} {o : HO} (n : H q = none) : Same H (upd H q o) := fun b u h => by rw [upd_ne (ne_of_none h n)]; exact h
theorem abs_nn (i : Int) : 0 ≤ (if i < 0 then -i else i) := by split <;> omega
theorem cut_ints {ns : List Int} {lo hi : Option Int} : ∀ x ∈ cutV (ns.map V.int) lo hi, ∃ z, x = V.int z := fun x hx => by
  unfold cutV at hx
  obtain ⟨z, _, e⟩ := List.mem_map.mp (List.mem_of_mem_drop (List.mem_of_mem_take hx))
  exact ⟨z, e.symm⟩
/-! ### primes as tuples in a list -/
theorem same_upd {H H' : Hp} {l : Addr} {o : HO} (s : Same H H') (hl : H l = none) : Same H (upd H' l o) := fun b u e => by
  rw [upd_ne (ne_of_none e hl)]
  exact s _ _ e
/-! ### primes as data -/
/-! ### forms -/
theorem kit_lst_lst (K : PySem.W.Frag) : PySem.W.kitOne K (.type "list") (.type "list") = some true := by kernel_rfl
theorem kit_tup_tup (K : PySem.W.Frag) : PySem.W.kitOne K (.type "tuple") (.type "tuple") = some true := by kernel_rfl

/-! ### a law's loop over its cells -/
theorem fn_mk {K : PySem.W.Frag} {x : Str} {st : Stmt} {f : Addr} {oc : Value} {od an : Option Addr} {osl : Array (Option Value)} {kV doc pm cdv ct : Value}
    (a : PySem.W.nsIn K mainGlobals x = some (some (.ref f)))
    (l : K.lookup f = some ⟨oc, od, .func (PySem.W.fnOf x x (defArgs st) (defBody st) (defScope st) .none kV doc pm an cdv ct), osl⟩)
    (c : PySem.W.codeIn K cdv x = true) (k : PySem.W.keepIn K (.ref f) = true) :
    ∃ (f : Addr) (fd : FuncData), PySem.W.nsIn K mainGlobals x = some (some (.ref f)) ∧ Fun K x x st f fd := ⟨f, _, a, fun_mk l c k⟩
def spLaw (K : PySem.W.Frag) : Sp := fun vs H Q _ => ∃ (a : Addr) (ns : List Int), vs = [.ref a] ∧ SqL K H a (ns.map V.int) ∧ ns.length ≤ 63 ∧ ∀ H', Q (.bl true) H'
theorem walk {l : PySem.W.OpenLaw} {q : Program} {loose : List Str} {XP : (Str → Option Value) → Heap → Prop} {YP : World → Heap → Prop} {d : DefRec} {K : Params → PySem.W.Frag} {k : Nat} (hr : Room k PySem.callerA) (hn : l.most = some 63) (hdf : d.params.defaults = [])
    (hY : ∀ (w : World) (h : Heap), YP w h → (K w.params).In h)
    (F : ∀ (w : World) (mg : Str → Option Value) (fa : Addr) (h : Heap), (K w.params).In h → h.Ns mainGlobals mg → mg d.name = some (.ref fa) →
      ∃ fd : FuncData, (∀ (s : Shared) (u : Value), BindsTo s fd ⟨[u], []⟩ [("_law_script", u)]) ∧ ∀ base : Heap, (K w.params).In base → base.Ns mainGlobals mg → FnOk l.prog w (K w.params) mg base CX0 k fa fd ["_law_script"] (spLaw (K w.params))) :
    PySem.W.WalkO q loose XP YP l.row.toRowW d [] (fun f vs => PySem.call f vs) :=
  L2.walk_of (n := 63) (k := k) (x := "_law_script") (CX := fun _ => CX0) (sp := fun w => spLaw (K w.params)) hn (by decide) hdf hr hY F (fun _ _ a ns hl _ hS => ⟨a, ns, rfl, hS, hl, fun _ => rfl⟩) fun _ _ _ _ _ z => z
abbrev At (K : PySem.W.Frag) (x : Str) (st : Stmt) : Prop := ∃ (f : Addr) (fd : FuncData), PySem.W.nsIn K mainGlobals x = some (some (.ref f)) ∧ Fun K x x st f fd

end E1
/-! EvLay: rules for sorted numbers, sets of numbers, lists taken so often, turned about, made of a range. Behind EvRange. -/
namespace L2
open PySem PySem.Spec PyProof.Rows
theorem ints_of_vals {ns : List Int} {us : List Value} (r : Vals (ns.map V.int) us) : IntsAre us ns := intsAre_of r
theorem vals_of_ints : ∀ {ns : List Int} {us : List Value}, IntsAre us ns → Vals (ns.map V.int) us
  | _, _, .nil => .nil
  | _, _, .cons n tk t => .cons ⟨tk, rfl⟩ (vals_of_ints t)
/-- sorted(list of numbers) -/
def rSortI (K : PySem.W.Frag) : List V → Hp → VK → Prop := fun xs H Q => ∃ (a : Addr) (ns : List Int), xs = [.ref a] ∧ SqL K H a (ns.map V.int) ∧ ns.length < 64 ∧ ∀ (l : Addr) (ns' : List Int), H l = none → ns'.Perm ns → ns'.Pairwise (· ≤ ·) → Q (.ref l) (upd H l (.lst (ns'.map V.int)))
theorem call_sortI {X : Cx} : CallR X (.builtin "sorted") (rSortI X.K) := by
  intro pins s σ H xs us Q I r h
  obtain ⟨a, ns, rfl, hq, h64, q⟩ := h
  obtain ⟨u, rfl, rx⟩ := vals1 r
  cases rx
  obtain ⟨its, r', pl, hz⟩ := I.list hq
  have hlen := r'.length
  rw [List.length_map] at hlen
  refine sorted_ints pl.isList (ints_of_vals r') (by omega) fun out ns' a1 a2 a3 => ?_
  obtain ⟨e, he⟩ := sortedAll_at s.heap its out
  have hl2 := a2.length_eq
  refine ⟨.ref (s.heap.objs.size + 1), _, I.laid (t' := s.toks) (o := .lst (ns'.map V.int)) (fun b o => sortedAll_old) (Nat.le_succ _) ?_, rfl, q _ _ (I.hok.fresh (Nat.le_succ _)) a2 a3⟩
  refine ⟨by rw [List.length_map, hl2]; exact Nat.le_trans (Nat.le_of_lt h64) (by decide), out.toList, e, vals_of_ints a1, ?_⟩
  rw [Array.toArray_toList]
  exact he
/-- list * number -/
def rMulL (K : PySem.W.Frag) : R2 := fun x y H Q => ∃ (a : Addr) (xs : List V) (n : Int), x = .ref a ∧ y = .int n ∧ SqL K H a xs ∧ n < 2 ^ 63 ∧ 0 ≤ n ∧ xs.length * n.toNat ≤ 65536 ∧ ∀ l, H l = none → Q (.ref l) (upd H l (.lst (List.replicate n.toNat xs).flatten))
theorem vals_flat {xs : List V} {us : List Value} (r : Vals xs us) : ∀ n, Vals (List.replicate n xs).flatten (List.replicate n us).flatten
  | 0 => .nil
  | n + 1 => by
    rw [List.replicate_succ, List.replicate_succ, List.flatten_cons, List.flatten_cons]
    exact r.append (vals_flat r n)
theorem op_mulL {X : Cx} : OpR X (binaryOp .Mult) (rMulL X.K) := by
  intro pins s σ H x y v u Q I rx ry h
  obtain ⟨a, xs, n, rfl, rfl, hx, hn, h0, hsz, q⟩ := h
  cases rx
  obtain ⟨tk, rfl⟩ := ry
  obtain ⟨its, r, pl, hz⟩ := I.list hx
  have hlen := r.length
  obtain ⟨⟨oc, od, odt, osl⟩, k, hl, e1, e2, e3⟩ := pl
  dsimp only at e1 e2 e3
  subst e1 e2 e3
  refine wpAny_binaryOp_repeat_ref (T := "list") (U := "int") (by decide) ⟨_, hl, rfl⟩ (fun s' => typeIs_int s' n tk) noFill_list_mul F.fills_int_mul F.slot_int_rmul repeat_list F.slot_int_index.lookup
    (call_meets F.slot_int_rmul (typeIs_int s n tk) F.entry_int_rmul (F.args_int_rmul_2 _ _) (lm_int_rmul_list_any n tk a its.toArray k _ _)
      ⟨hl, rfl, ⟨_, hl, rfl⟩, call_meets F.slot_list_mul ⟨_, hl, rfl⟩ F.entry_list_mul (F.args_list_mul_2 _ _)
        (lm_list_mul_any a its.toArray k _ _ n tk (by simp [Builtin.List.listFitsIndex]; omega) (by rw [List.size_toArray, ← hlen]; omega) (by rw [List.size_toArray, ← hlen]; simp [Builtin.List.listTooLong, sizeLine]; omega))
        ⟨hl, ?_⟩⟩)
  rw [listMul_foldl_if, List.toList_toArray]
  refine ⟨.ref s.heap.objs.size, _, I.laid (t' := s.toks) (o := .lst (List.replicate n.toNat xs).flatten) (fun b ob q => Heap.get?_push_of_some _ q) (Nat.le_refl _) ?_, rfl, q _ (I.hok.fresh (Nat.le_refl _))⟩
  refine ⟨?_, (List.replicate n.toNat its).flatten, 0, vals_flat r _, Heap.get?_push_size _ rfl⟩
  rw [List.length_flatten, List.map_replicate, List.sum_replicate_nat, Nat.mul_comm]
  exact Nat.le_trans hsz (by decide)
/-! ### enumerate(list) -/
theorem Inv.turnedL {X : Cx} {pins : List (Addr × Obj)} {σ : St} {H : Hp} {s : Shared} {h' : Heap} {t' : Nat} {wr : List Addr} (I : Inv X pins σ H s) (k : ∀ b o, b ∉ wr → s.heap.get? b = some o → h'.get? b = some o) (hf : ∀ b ∈ wr, FpOk X pins H b) : Inv X pins σ H { s with heap := h', toks := t' } := by
  have nit : ∀ b u, H b = some u → b ∉ wr := fun b u e z => by rw [(hf b z).1] at e; cases e
  refine I.step (g' := s.gens) (d' := s.drawn) (ch := wr) (fun b hb => ?_) (fun b o _ _ hc e _ => k b o hc e) (fun b o _ _ hc e _ => ⟨o.slots, k b o hc e⟩) (fun _ _ _ _ n => n) (fun b o hc e => ⟨o, k b o hc e⟩) (fun _ _ e => e) (fun _ _ _ e => e) (fun b ps e => ⟨#[], by rw [e]; simp⟩) (fun m hm => ?_) (fun b u e => ?_) I.bare
  · obtain ⟨_, f1, _, f3, f4, f5⟩ := hf b hb
    exact ⟨f3, f1, f4, f5⟩
  · obtain ⟨o, es, ep, ho, r⟩ := hm
    exact ⟨o, es, ep, k _ o (fun z => (hf _ z).2.1 rfl) ho, r⟩
  · refine (I.hok b u e).stay (fun c v hc q => k c v ?_ q) (fun _ q => q) fun _ _ q => q
    rcases hc with z | z
    · exact z ▸ nit b u e
    · exact nit c _ z
/-- the pairs (number, item) of a list -/
def Ite (K : PySem.W.Frag) (a : Addr) : It :=
  ⟨fun i H => ∃ xs x, SqL K H a xs ∧ xs[i]? = some x, fun i H v H' => ∃ T x, (∀ xs, SqL K H a xs → xs[i]? = some x) ∧ H T = none ∧ v = .ref T ∧ H' = upd H T (.tup [.int (i : Nat), x]), fun i H => ∃ xs, SqL K H a xs ∧ xs.length ≤ i⟩
theorem Inv.tracked {X : Cx} {pins : List (Addr × Obj)} {σ : St} {H : Hp} {s s' : Shared} {T : Addr} {o : HO} (I0 : Inv X pins σ H s) (I : Inv X pins σ H s') (hT : s.heap.objs.size ≤ T) (new : ObjOk X.prog X.w (upd H T o) s'.heap T o) : Inv X pins σ (upd H T o) s' := by
  obtain ⟨f0, f1, f2, f3, f4, f5⟩ := I0.fpOk (H' := H) hT (I0.hok.fresh hT)
  refine I.track f0 ?_ f1 f4 f5 new
  cases e : X.s₀.heap.get? T with
  | none => rfl
  | some ob => exact absurd (Nat.lt_of_lt_of_le (Heap.lt_size e) (Nat.le_trans I0.sz hT)) (Nat.lt_irrefl _)
theorem turn_enum {P : Program} {w : World} {K : PySem.W.Frag} {elts : List Expr} {k : Nat} {tp : Pos} (l e it : Addr) (hei : e ≠ it) : Turn P w K (.Tuple elts k tp) (Ite K l) [e, it] e (fun i h => (∃ old, IsEnum h e it ((i : Nat) : Int) old) ∧ h.IsListIter it l i) where
  mem := by simp
  obj := fun i h st b hb => by
    obtain ⟨⟨old, he⟩, o, ho, hc, hd⟩ := st
    simp only [List.mem_cons, List.not_mem_nil, or_false] at hb
    rcases hb with rfl | rfl
    · exact ⟨_, he, fun v z => by cases z⟩
    · exact ⟨o, ho, fun v z => by rw [hd] at z; cases z⟩
  keep := fun i h h' st kp => ⟨⟨_, kp e (by simp) _ st.1.choose_spec⟩, st.2.at fun o q => kp it (by simp) o q⟩
  item := by
    intro X hP hw hK hc i pins s σ H E I hf st hg
    subst hP hw hK
    obtain ⟨xs, x, hq, hx⟩ := hg
    obtain ⟨its, rv, p, hz⟩ := I.list hq
    obtain ⟨u, hu, ru⟩ := rv.get hx
    obtain ⟨⟨old, he⟩, hit⟩ := st
    have hlt : ∀ b ∈ [e, it], b ≠ s.heap.objs.size := fun b hb z => by
      simp only [List.mem_cons, List.not_mem_nil, or_false] at hb
      rcases hb with rfl | rfl
      · exact absurd (z ▸ Heap.lt_size he) (Nat.lt_irrefl _)
      · obtain ⟨_, ho, _⟩ := hit
        exact absurd (z ▸ Heap.lt_size ho) (Nat.lt_irrefl _)
    have fr : H s.heap.objs.size = none := I.hok.fresh (Nat.le_refl _)
    refine wpAny_pyNext_enum_item he hit p.isList (x := u) (by simpa using hu) hei fun h' ho hit' hT hsz hk => ?_
    have I1 : Inv X pins σ H { s with heap := h', toks := s.toks + 1 } := I.turnedL (wr := [e, it]) (fun b o hb q => hk b o (fun z => hb (by simp [z])) (fun z => hb (by simp [z])) q) hf
    have I2 : Inv X pins σ (upd H s.heap.objs.size (.tup [.int (i : Nat), x])) { s with heap := h', toks := s.toks + 1 } := I.tracked I1 (Nat.le_refl _) ⟨by show 2 ≤ sizeLine; decide, [.int i s.toks, u], .cons ⟨_, rfl⟩ (.cons ru .nil), ⟨_, hT, rfl, _, rfl⟩⟩
    have hf2 : ∀ b ∈ [e, it], FpOk X pins (upd H s.heap.objs.size (.tup [.int (i : Nat), x])) b := fun b hb => by
      obtain ⟨f0, f1, f2, f3, f4, f5⟩ := hf b hb
      exact ⟨by rw [upd_ne (hlt b hb)]; exact f0, f1, f2, f3, f4, f5⟩
    refine ⟨_, rfl, wpAny_letOwnedTupleGo_enum ho fun h'' he' hs' => ?_⟩
    refine ⟨.ref s.heap.objs.size, _, I2.turnedL (wr := [e]) (t' := s.toks + 1) (fun b o hb q => (hs'.2 b (fun z => hb (by simp [z]))).trans q) (fun b hb => hf2 b (by rw [List.mem_singleton.mp hb]; simp)), rfl, ⟨_, x, fun ys hy => by rw [I.list_inj hy hq]; exact hx, fr, rfl, rfl⟩, ⟨⟨_, by simpa using he'⟩, hit'.at fun o q => (hs'.2 it hei.symm).trans q⟩, fun b hb => (hf2 b hb).1⟩
  done := by
    intro X hP hw hK hc i pins s σ H E I hf st hg
    subst hP hw hK
    obtain ⟨xs, hq, hx⟩ := hg
    obtain ⟨its, rv, p, hz⟩ := I.list hq
    have hl := rv.length
    obtain ⟨⟨old, he⟩, hit⟩ := st
    exact wpAny_pyNext_enum_end (I.ok.hd hc) he hit p.isList (by simp; omega) fun h' eb => ⟨rfl, I.turnedL (wr := [it]) (t' := s.toks) (fun b o hb q => eb b o (fun z => hb (by simp [z])) q) (fun b hb => hf b (by rw [List.mem_singleton.mp hb]; simp))⟩
  self := fun _ _ _ _ _ st h => wpAny_pyIter_enum st.1.choose_spec h
section
variable {X : Cx} {elts : List Expr} {k : Nat} {tp : Pos}
def iEnum (K : PySem.W.Frag) (ta : TA) : TI := fun σ H R => ta σ H fun vs H1 => ∃ a, vs = [.ref a] ∧ (∃ xs, SqL K H1 a xs) ∧ R (Ite K a) H1
theorem pi_enum {a : Expr} {ta : TA} {p pos : Pos} (hg : Gl X "enumerate") (hm : X.mg "enumerate" = none) (ha : PA X [a] ta) (hs : starEach [a] X.env = [(false, eval a X.env)] := by rfl) : PI X (.Tuple elts k tp) (.Call (.Name "enumerate" p) [a] [] pos) (iEnum X.K ta) := by
  intro pins s σ H R I h
  refine Call_ (ld_blt I hg hm (show bootBuiltins "enumerate" = some (.type "enumerate") by decide +kernel) (PyProof.Rows.callWith_type1 (thn (ha pos pins s σ H _ I h) fun us s1 ⟨vs, H1, I1, r1, q1⟩ => ?_) (by rw [hs]; rfl) (by rfl)))
  obtain ⟨a, e, ⟨xs, hq⟩, q⟩ := q1
  subst e
  obtain ⟨u, rfl, rx⟩ := vals1 r1
  cases rx
  obtain ⟨its, rv, pl, hz⟩ := I1.list hq
  refine call_enumerate_list pl.isList fun h' he hit hsz kp => ?_
  have I2 : Inv X pins σ H1 { s1 with heap := h' } := I1.kept (t' := s1.toks) kp
  refine wpAny_pyIter_enum he ?_
  refine ⟨s1.heap.objs.size + 1, [s1.heap.objs.size + 1, s1.heap.objs.size], _, _, H1, rfl, I2, turn_enum a _ _ (Nat.succ_ne_self _), ⟨⟨_, he⟩, hit⟩, fun b hb => ?_, q⟩
  simp only [List.mem_cons, List.not_mem_nil, or_false] at hb
  rcases hb with rfl | rfl
  · exact I1.fpOk (Nat.le_succ _) (I1.hok.fresh (Nat.le_succ _))
  · exact I1.fpOk (Nat.le_refl _) (I1.hok.fresh (Nat.le_refl _))
theorem qi_enum {a : Expr} {ta : TA} {p pos : Pos} (hg : Gl X "enumerate") (hm : X.mg "enumerate" = none) (ha : QA X [a] ta) (hs : starEach [a] X.env = [(false, eval a X.env)] := by rfl) : QI X (.Tuple elts k tp) (.Call (.Name "enumerate" p) [a] [] pos) (iEnum X.K ta) := ⟨pi_enum hg hm ha.h hs⟩
end
/-- range(n) as a thing -/
theorem call_rng1 {X : Cx} : CallR X (.type "range") (fun xs H Q => ∃ n : Int, xs = [.int n] ∧ ∀ r, H r = none → Q (.ref r) (upd H r (.rng 0 n))) := by
  intro pins s σ H xs us Q I r h
  obtain ⟨n, rfl, q⟩ := h
  obtain ⟨u, rfl, rx⟩ := vals1 r
  obtain ⟨t, rfl⟩ := rx
  exact call_range_1 ⟨.ref s.heap.objs.size, _, I.laid (t' := s.toks + 1 + 1) (o := .rng 0 n) (fun b o e => Heap.get?_push_of_some _ e) (Nat.le_refl _) ⟨_, _, _, Heap.get?_push_size _ rfl⟩, rfl, q _ (I.hok.fresh (Nat.le_refl _))⟩
theorem items_nats {acc : Array Value} {n : Nat} (h : ItemsOf (fun i v => ∃ t, v = .int (0 + (i : Nat) * 1) t) acc n) : Vals ((List.range n).map fun p => V.int ((p : Nat) : Int)) acc.toList := by
  obtain ⟨hs, hv⟩ := h
  have key : ∀ (k : Nat) (l : List Value), (∀ (j : Nat) (v : Value), l[j]? = some v → ∃ t, v = Value.int ((k : Int) + (j : Int)) t) → Vals ((List.range' k l.length).map fun p => V.int ((p : Nat) : Int)) l := by
    intro k l
    induction l generalizing k with
    | nil => intro _; exact .nil
    | cons x l ih =>
      intro h
      rw [List.length_cons, List.range'_succ, List.map_cons]
      refine .cons ?_ (ih (k + 1) fun j v e => ?_)
      · obtain ⟨t, e⟩ := h 0 x rfl
        exact ⟨t, by rw [e]; simp⟩
      · obtain ⟨t, e'⟩ := h (j + 1) v e
        exact ⟨t, by rw [e']; congr 1; omega⟩
  have := key 0 acc.toList fun j v e => by
    obtain ⟨t, e'⟩ := hv j v (by simpa using e)
    exact ⟨t, by rw [e']; congr 1; omega⟩
  rw [Array.length_toList, hs] at this
  rw [List.range_eq_range']
  exact this
/-- list(range(n)) -/
theorem call_list_rng {X : Cx} (hc : X.calm = true) : CallR X (.type "list") (fun xs H Q => ∃ (r : Addr) (n : Nat), xs = [.ref r] ∧ H r = some (.rng 0 (n : Nat)) ∧ n ≤ 100000 ∧ ∀ l, H l = none → Q (.ref l) (upd H l (.lst ((List.range n).map fun p => V.int ((p : Nat) : Int))))) := by
  intro pins s σ H xs us Q I r h
  obtain ⟨a, n, rfl, ha, hn, q⟩ := h
  obtain ⟨u, rfl, rx⟩ := vals1 r
  cases rx
  obtain ⟨t, u, v, ho⟩ := (show ∃ t u v, s.heap.get? a = some { cls := .type "range", data := .fields #[.int 0 t, .int (n : Nat) u, .int 1 v] } from I.hok a _ ha)
  refine call_list_range (n := n) (I.ok.hd hc) ho (small_one (by decide) (by decide) (by omega) (by omega)) (by rw [rangeSize_one]; split <;> omega) (Nat.le_trans hn (by decide)) fun h' tk acc c kp hg hit => ?_
  refine ⟨.ref s.heap.objs.size, _, I.laid (t' := tk) kp (Nat.le_refl _) (show ObjOk X.prog X.w _ h' _ (.lst _) from ⟨by rw [List.length_map, List.length_range]; exact Nat.le_trans hn (by decide), acc.toList, c, items_nats hit, by rw [Array.toArray_toList]; exact hg⟩), rfl, q _ (I.hok.fresh (Nat.le_refl _))⟩
theorem iteV {c : Bool} {t1 t2 : TS} {D : Ends} {σ : St} {H : Hp} (J : St → Hp → Prop) (hJ : ∀ σ' H', J σ' H' → D.nx σ' H') (h1 : c = true → (∀ σ' H', J σ' H' → D.nx σ' H') → t1 D σ H) (h2 : ¬ c = true → (∀ σ' H', J σ' H' → D.nx σ' H') → t2 D σ H) : if c = true then t1 D σ H else t2 D σ H := by
  by_cases h : c = true
  · rw [if_pos h]; exact h1 h hJ
  · rw [if_neg h]; exact h2 h hJ
/-- names of builtins that the text does not give -/
structure TxtB (mg : Str → Option Value) : Prop where
  isi : mg "isinstance" = none
  int : mg "int" = none
  bool : mg "bool" = none
  abs : mg "abs" = none
  len : mg "len" = none
  range : mg "range" = none
  tup : mg "tuple" = none
  lst : mg "list" = none
  sor : mg "sorted" = none
  all : mg "all" = none
  set : mg "set" = none
  zip : mg "zip" = none
  enu : mg "enumerate" = none
  any : mg "any" = none
  max : mg "max" = none
  min : mg "min" = none
  str : mg "str" = none
  sum : mg "sum" = none
/-- a block: a list of numbers -/
def nats (L : List Nat) : List V := L.map fun p => V.int ((p : Nat) : Int)
theorem nats_ints (L : List Nat) : nats L = (L.map fun p => ((p : Nat) : Int)).map V.int := by simp [nats]
theorem nats_snoc (L : List Nat) (j : Nat) : nats (L ++ [j]) = nats L ++ [V.int (j : Int)] := by unfold nats; rw [List.map_append]; rfl
theorem nats_len (L : List Nat) : (nats L).length = L.length := by unfold nats; rw [List.length_map]
/-- lists of blocks -/
def BlAt (H : Hp) : List V → List (List Nat) → Prop
  | [], [] => True
  | v :: vs, b :: bs => (∃ a, v = .ref a ∧ H a = some (.lst (nats b))) ∧ BlAt H vs bs
  | _, _ => False
/-- tuples of blocks, rising -/
def TpAt (H : Hp) : List V → List (List Nat) → Prop
  | [], [] => True
  | v :: vs, b :: bs => (∃ a, v = .ref a ∧ H a = some (.tup (nats b))) ∧ TpAt H vs bs
  | _, _ => False
theorem TpAt.len {H : Hp} : ∀ {vs : List V} {bs : List (List Nat)}, TpAt H vs bs → vs.length = bs.length
  | [], [], _ => rfl
  | _ :: _, _ :: _, h => by rw [List.length_cons, List.length_cons, TpAt.len h.2]
theorem TpAt.same {H H' : Hp} (s : ∀ a xs, H a = some (.tup xs) → H' a = some (.tup xs)) : ∀ {vs : List V} {bs : List (List Nat)}, TpAt H vs bs → TpAt H' vs bs
  | [], [], _ => trivial
  | v :: vs, b :: bs, ⟨⟨a, e, q⟩, r⟩ => ⟨⟨a, e, s _ _ q⟩, r.same s⟩
theorem TpAt.snoc {H : Hp} {a : Addr} {b : List Nat} (e : H a = some (.tup (nats b))) : ∀ {vs : List V} {bs : List (List Nat)}, TpAt H vs bs → TpAt H (vs ++ [.ref a]) (bs ++ [b])
  | [], [], _ => ⟨⟨a, rfl, e⟩, trivial⟩
  | _ :: _, _ :: _, h => ⟨h.1, h.2.snoc e⟩
theorem TpAt.get {H : Hp} : ∀ {vs : List V} {bs : List (List Nat)} {i : Nat} {v : V}, TpAt H vs bs → vs[i]? = some v → ∃ a b, v = .ref a ∧ bs[i]? = some b ∧ H a = some (.tup (nats b))
  | v :: vs, b :: bs, 0, _, h, e => by
    cases e
    obtain ⟨a, e, q⟩ := h.1
    exact ⟨a, b, e, rfl, q⟩
  | _ :: vs, _ :: bs, i + 1, v, h, e => TpAt.get (i := i) h.2 e
/-- a block below p -/
structure Blk (p : Nat) (b : List Nat) : Prop where
  nd : b.Nodup
  lt : ∀ x ∈ b, x < p
theorem nodup_le : ∀ (n : Nat) (b : List Nat), b.Nodup → (∀ x ∈ b, x < n) → b.length ≤ n
  | 0, [], _, _ => Nat.le_refl _
  | 0, x :: b, _, h => absurd (h x (List.mem_cons_self ..)) (Nat.not_lt_zero _)
  | n + 1, b, hn, hl => by
    have h1 := nodup_le n (b.filter (fun x => decide (x ≠ n))) (hn.filter _) (fun x hx => by
      have := List.mem_filter.mp hx
      have h2 := hl x this.1
      have h3 : x ≠ n := of_decide_eq_true this.2
      omega)
    by_cases hm : n ∈ b
    · have e : b.length = (b.filter (fun x => decide (x ≠ n))).length + 1 := by
        clear h1 hl
        induction b with
        | nil => cases hm
        | cons y b ih =>
          rw [List.nodup_cons] at hn
          by_cases hy : y = n
          · subst hy
            rw [List.filter_cons_of_neg (by simp)]
            have : b.filter (fun x => decide (x ≠ y)) = b := List.filter_eq_self.mpr fun x hx => decide_eq_true fun z => hn.1 (z ▸ hx)
            rw [this]; rfl
          · rw [List.filter_cons_of_pos (by simpa using hy)]
            have hm' : n ∈ b := (List.mem_cons.mp hm).resolve_left (fun z => hy z.symm)
            simp only [List.length_cons]
            rw [ih hn.2 hm']
      omega
    · have : b.filter (fun x => decide (x ≠ n)) = b := List.filter_eq_self.mpr fun x hx => decide_eq_true fun z => hm (z ▸ hx)
      rw [this] at h1
      omega
theorem Blk.len {p : Nat} {b : List Nat} (h : Blk p b) : b.length ≤ p := nodup_le p b h.nd h.lt
theorem Blk.perm {p : Nat} {b c : List Nat} (h : Blk p b) (e : c.Perm b) : Blk p c := ⟨e.nodup_iff.mpr h.nd, fun x hx => h.lt x (e.mem_iff.mp hx)⟩
theorem Blk.snoc {i : Nat} {b : List Nat} (hb : Blk i b) : Blk (i + 1) (b ++ [i]) := by
  refine ⟨?_, fun x hx => ?_⟩
  · rw [List.nodup_append]
    exact ⟨hb.nd, by simp, fun x hx y hy e => by
      have := hb.lt x hx
      rw [List.mem_singleton.mp hy] at e
      omega⟩
  · rcases List.mem_append.mp hx with z | z
    · exact Nat.lt_succ_of_lt (hb.lt x z)
    · rw [List.mem_singleton.mp z]
      exact Nat.lt_succ_self i
/-! ### a list or a tuple, gone through -/
def iSeq (K : PySem.W.Frag) (tl : TE) : TI := fun σ H R => tl σ H fun x H1 => ∃ a, x = .ref a ∧ (((∃ xs, SqL K H1 a xs) ∧ R (Itl K a) H1) ∨ ((∃ xs, SqT K H1 a xs) ∧ R (Itt K a) H1))
theorem pi_seq {X : Cx} {tg l : Expr} {tl : TE} (hl : PE X l tl) : PI X tg l (iSeq X.K tl) := by
  intro pins s σ H R I h
  refine thn (hl pins s σ H _ I h) fun v s1 ⟨x, H1, I1, r1, q1⟩ => ?_
  obtain ⟨a, e, q⟩ := q1
  subst e
  cases r1
  have fp : ∀ b ∈ [s1.heap.objs.size], FpOk X pins H1 b := fun b hb => by
    have e : b = s1.heap.objs.size := by simpa using hb
    subst e
    exact I1.fpOk (Nat.le_refl _) (I1.hok.fresh (Nat.le_refl _))
  rcases q with ⟨⟨xs, hq⟩, q⟩ | ⟨⟨xs, hq⟩, q⟩
  · obtain ⟨its, rv, p, hz⟩ := I1.list hq
    exact wpAny_pyIter_list p.isList ⟨s1.heap.objs.size, [s1.heap.objs.size], _, _, H1, rfl, I1.kept (t' := s1.toks) fun b o e => Heap.get?_push_of_some _ e, turn_list a _, ⟨_, Heap.get?_push_size _ rfl, rfl, rfl⟩, fp, q⟩
  · obtain ⟨its, rv, p, hz⟩ := I1.tuple hq
    exact wpAny_pyIter_tuple (show s1.heap.IsTuple a its.toArray from p) ⟨s1.heap.objs.size, [s1.heap.objs.size], _, _, H1, rfl, I1.kept (t' := s1.toks) fun b o e => Heap.get?_push_of_some _ e, turn_tuple a _, ⟨_, Heap.get?_push_size _ rfl, rfl, rfl⟩, fp, q⟩
theorem qi_seq {X : Cx} {tg l : Expr} {tl : TE} (hl : QE X l tl) : QI X tg l (iSeq X.K tl) := ⟨pi_seq hl.h⟩
theorem Blk.erase {m : Nat} {b : List Nat} (h : Blk m b) (k : Nat) : Blk m (b.eraseIdx k) := ⟨h.nd.sublist (List.eraseIdx_sublist ..), fun x hx => h.lt x ((List.eraseIdx_sublist ..).subset hx)⟩
theorem map_erase {α β : Type} (f : α → β) : ∀ (b : List α) (k : Nat), (b.map f).eraseIdx k = (b.eraseIdx k).map f
  | [], _ => rfl
  | _ :: _, 0 => rfl
  | x :: b, k + 1 => congrArg (f x :: ·) (map_erase f b k)
theorem nats_erase (b : List Nat) (k : Nat) : (nats b).eraseIdx k = nats (b.eraseIdx k) := map_erase _ b k
/-! ### rules that name K, for comprehensions -/
def rLenQ (K : PySem.W.Frag) : List V → Hp → VK → Prop := fun xs H Q => ∃ p ys, xs = [.ref p] ∧ (SqL K H p ys ∨ SqT K H p ys) ∧ Q (.int ys.length) H
theorem call_lenQ {X : Cx} : CallR X (.builtin "len") (rLenQ X.K) := call_len_seq
def rTupQ (K : PySem.W.Frag) : List V → Hp → VK → Prop := fun xs H Q => ∃ p ys, xs = [.ref p] ∧ ((SqL K H p ys ∧ ∀ l, H l = none → Q (.ref l) (upd H l (.tup ys))) ∨ (SqT K H p ys ∧ Q (.ref p) H))
theorem call_tupQ {X : Cx} : CallR X (.type "tuple") (rTupQ X.K) := call_tuple_of
theorem TpAt.sm {H H' : Hp} (s : Same H H') {vs : List V} {bs : List (List Nat)} (h : TpAt H vs bs) : TpAt H' vs bs := h.same fun a xs q => s _ _ q
theorem back_nats {b : List Nat} {ns : List Int} (hp : ns.Perm (b.map fun p => ((p : Nat) : Int))) (hs : ns.Pairwise (· ≤ ·)) : ∃ b' : List Nat, ns.map V.int = nats b' ∧ b'.Perm b ∧ b'.Pairwise (· ≤ ·) := by
  have hnn : ∀ x ∈ ns, 0 ≤ x := fun x hx => by
    obtain ⟨p, _, rfl⟩ := List.mem_map.mp (hp.mem_iff.mp hx)
    omega
  have e : ns = (ns.map Int.toNat).map fun p => ((p : Nat) : Int) := by
    rw [List.map_map]
    conv => lhs; rw [← List.map_id ns]
    exact List.map_congr_left fun x hx => by
      have := hnn x hx
      show x = ((x.toNat : Nat) : Int)
      omega
  refine ⟨ns.map Int.toNat, ?_, ?_, ?_⟩
  · rw [nats_ints, ← e]
  · have := hp.map Int.toNat
    rw [List.map_map] at this
    have e2 : (b.map (Int.toNat ∘ fun p => ((p : Nat) : Int))) = b := by
      conv => rhs; rw [← List.map_id b]
      exact List.map_congr_left fun x _ => by simp
    rwa [e2] at this
  · rw [List.pairwise_map]
    exact hs.imp fun h => by omega
theorem nats_get {b : List Nat} {j : Nat} {x : V} (h : (nats b)[j]? = some x) : ∃ p : Nat, b[j]? = some p ∧ x = V.int ((p : Nat) : Int) := by
  unfold nats at h
  rw [List.getElem?_map] at h
  cases e : b[j]? with
  | none => rw [e] at h; cases h
  | some p => rw [e] at h; cases h; exact ⟨p, rfl, rfl⟩
theorem TpAt.app {H : Hp} : ∀ {vs ws : List V} {bs cs : List (List Nat)}, TpAt H vs bs → TpAt H ws cs → TpAt H (vs ++ ws) (bs ++ cs)
  | [], _, [], _, _, h => h
  | _ :: _, _, _ :: _, _, h, h' => ⟨h.1, h.2.app h'⟩
theorem ints_isD' {K : PySem.W.Frag} {H : Hp} : ∀ L : List Nat, IsDs K H (L.map fun p => PyData.int ((p : Nat) : Int)) (nats L)
  | [] => by simp [nats, IsDs]
  | p :: L => by
    simp only [nats, List.map_cons, IsDs]
    exact ⟨_, _, rfl, by simp [IsD], ints_isD' L⟩
theorem lay_ints' : ∀ L : List Nat, PyData.canLayAll0 (L.map fun p => PyData.int ((p : Nat) : Int)) = true
  | [] => by simp [PyData.canLayAll0]
  | x :: L => by simp [PyData.canLayAll0, PyData.canLay0, lay_ints' L]
theorem depth_ints' : ∀ L : List Nat, PyData.depthAll (L.map fun p => PyData.int ((p : Nat) : Int)) ≤ 1
  | [] => by simp [PyData.depthAll]
  | x :: L => by
    have := depth_ints' L
    simp [PyData.depthAll, PyData.depth]
    omega
def dBlk (L : List Nat) : PyData := .list (L.map fun p => PyData.int ((p : Nat) : Int))
theorem shaped_blk (L : List Nat) : PySem.SeqAt.shaped (dBlk L) = true := by
  unfold PySem.SeqAt.shaped dBlk
  rw [Bool.and_eq_true]
  refine ⟨by simp only [PyData.canLay0]; exact lay_ints' L, decide_eq_true ?_⟩
  have := depth_ints' L
  simp only [PyData.depth]
  omega
theorem cut_from {xs : List V} {k : Nat} (hk : k ≤ xs.length) : cutV xs (some (k : Int)) none = xs.drop k := by
  unfold cutV
  have h1 : HT.sIx xs.length 0 (some (k : Int)) = k := by rw [HT.sIx_nat]; omega
  have h2 : HT.sIx xs.length xs.length none = xs.length := by simp [HT.sIx]
  rw [h1, h2, List.take_of_length_le (by rw [List.length_drop]; exact Nat.le_refl _)]
theorem cut_to {xs : List V} {k : Nat} (hk : k ≤ xs.length) : cutV xs none (some (k : Int)) = xs.take k := by
  unfold cutV
  have h1 : HT.sIx xs.length 0 none = 0 := by simp [HT.sIx]
  have h2 : HT.sIx xs.length xs.length (some (k : Int)) = k := by rw [HT.sIx_nat]; omega
  rw [h1, h2, List.drop_zero, Nat.sub_zero]
theorem seqVia {t rest : TS} {D : Ends} {σ : St} {H : Hp} (J : St → Hp → Prop) (hJ : ∀ σ' H', J σ' H' → rest D σ' H') (h : ∀ D' : Ends, (∀ σ' H', J σ' H' → D'.nx σ' H') → t D' σ H) : tSeq t rest D σ H := h { D with nx := rest D } hJ
theorem eqv_ints' : ∀ L : List Nat, PyData.eqvAll (L.map fun p => PyData.int ((p : Nat) : Int)) (L.map fun p => PyData.int ((p : Nat) : Int)) = true
  | [] => by simp [PyData.eqvAll]
  | x :: L => by simp [PyData.eqvAll, PyData.eqv, eqv_ints' L]
def dTup (L : List Nat) : PyData := .tuple (L.map fun p => PyData.int ((p : Nat) : Int))
theorem tps_isD {K : PySem.W.Frag} {H : Hp} : ∀ {vs : List V} {bs : List (List Nat)}, TpAt H vs bs → IsDs K H (bs.map dTup) vs
  | [], [], _ => by simp [IsDs]
  | v :: vs, b :: bs, ⟨⟨a, e, q⟩, r⟩ => by
    simp only [List.map_cons, IsDs]
    refine ⟨v, vs, rfl, ?_, tps_isD r⟩
    simp only [dTup, IsD]
    exact ⟨a, _, e, SqT.of q, ints_isD' b⟩
theorem lay_tps : ∀ bs : List (List Nat), PyData.canLayAll0 (bs.map dTup) = true
  | [] => by simp [PyData.canLayAll0]
  | b :: bs => by
    have h1 := lay_ints' b
    simp only [List.map_cons, PyData.canLayAll0, dTup, PyData.canLay0, h1, lay_tps bs, Bool.and_self, Bool.true_and]
theorem depth_tps : ∀ bs : List (List Nat), PyData.depthAll (bs.map dTup) ≤ 2
  | [] => by simp [PyData.depthAll]
  | b :: bs => by
    have h1 := depth_ints' b
    have h2 := depth_tps bs
    simp only [List.map_cons, PyData.depthAll, dTup, PyData.depth]
    omega
def dTps (bs : List (List Nat)) : PyData := .list (bs.map dTup)
theorem shaped_tps (bs : List (List Nat)) : PySem.SeqAt.shaped (dTps bs) = true := by
  unfold PySem.SeqAt.shaped dTps
  rw [Bool.and_eq_true]
  refine ⟨by simp only [PyData.canLay0]; exact lay_tps bs, decide_eq_true ?_⟩
  have := depth_tps bs
  simp only [PyData.depth]
  omega
theorem ints_get {L : List Int} {j : Nat} {x : V} (h : (L.map V.int)[j]? = some x) : ∃ z : Int, z ∈ L ∧ x = V.int z := by
  rw [List.getElem?_map] at h
  cases e : L[j]? with
  | none => rw [e] at h; cases h
  | some p => rw [e] at h; cases h; exact ⟨p, List.mem_of_getElem? e, rfl⟩
theorem TpAt.take {H : Hp} : ∀ {vs : List V} {bs : List (List Nat)} (n : Nat), TpAt H vs bs → TpAt H (vs.take n) (bs.take n)
  | [], [], _, _ => by simp [TpAt]
  | _ :: _, _ :: _, 0, _ => trivial
  | _ :: _, _ :: _, n + 1, h => ⟨h.1, h.2.take n⟩
theorem TpAt.set {H : Hp} {a : Addr} {b : List Nat} (e : H a = some (.tup (nats b))) : ∀ {vs : List V} {bs : List (List Nat)} (n : Nat), TpAt H vs bs → TpAt H (vs.set n (.ref a)) (bs.set n b)
  | [], [], _, _ => trivial
  | _ :: _, _ :: _, 0, h => ⟨⟨a, rfl, e⟩, h.2⟩
  | _ :: _, _ :: _, n + 1, h => ⟨h.1, h.2.set e n⟩
theorem cut_le {xs : List V} {k : Nat} : cutV xs none (some (k : Int)) = xs.take k := by
  by_cases hk : k ≤ xs.length
  · exact cut_to hk
  · unfold cutV
    have h1 : HT.sIx xs.length 0 none = 0 := by simp [HT.sIx]
    have h2 : HT.sIx xs.length xs.length (some (k : Int)) = xs.length := by rw [HT.sIx_nat]; omega
    rw [h1, h2, List.drop_zero, Nat.sub_zero, List.take_length, List.take_of_length_le (by omega)]
/-! ### a[i] += .. -/
end L2
/-! EvSort: sorted of a list of pairs of numbers: the same pairs in some order. Behind EvLay. -/
namespace L2
open PySem PySem.Spec PyProof.Rows PySem.W
/-- all ends of a tree of questions, the questions below n -/
def KAll {α : Type} (n : Nat) (R : α → Prop) : KasT α → Prop
  | .ret a => R a
  | .ask i j k => i < n ∧ j < n ∧ ∀ b, KAll n R (k b)
theorem KAll.bind {α β : Type} {n : Nat} {R : α → Prop} {S : β → Prop} {f : α → KasT β} : ∀ {t : KasT α}, KAll n R t → (∀ a, R a → KAll n S (f a)) → KAll n S (t.bind f)
  | .ret a, h, hf => hf a h
  | .ask i j k, h, hf => ⟨h.1, h.2.1, fun b => KAll.bind (h.2.2 b) hf⟩
theorem KAll.wp {α : Type} {n : Nat} {R : α → Prop} {cmp : Nat → Nat → (Bool → Shared → Prop) → Shared → Prop} {Q : α → Shared → Prop} {s : Shared} (hc : ∀ i j C, i < n → j < n → (∀ b, C b s) → cmp i j C s) (hq : ∀ a, R a → Q a s) : ∀ {t : KasT α}, KAll n R t → t.kasWp cmp Q s
  | .ret a, h => hq a h
  | .ask i j k, h => hc i j _ h.1 h.2.1 fun b => KAll.wp hc hq (h.2.2 b)
/-- an order of the first n numbers -/
def Ord (n : Nat) (p : Array Nat) : Prop := p.toList.Perm (List.range n)
theorem Ord.lt {n : Nat} {p : Array Nat} (h : Ord n p) (hn : 0 < n) (k : Nat) : p.getD k 0 < n := by
  by_cases hk : k < p.size
  · have : p.getD k 0 ∈ p.toList := by
      have e : p.getD k 0 = p[k] := by simp [hk]
      rw [e]
      exact Array.mem_toList_iff.mpr (Array.getElem_mem hk)
    exact List.mem_range.mp (h.mem_iff.mp this)
  · have : p.getD k 0 = 0 := by simp [hk]
    omega
theorem Ord.rev {n : Nat} {p : Array Nat} (h : Ord n p) (i j : Nat) : Ord n (kas_rev p i j) := ((mirror_perm p i j _).toList).trans h
theorem Ord.bub {n : Nat} {p : Array Nat} (h : Ord n p) (k d : Nat) : Ord n (bubble p k d) := ((bubble_perm p k d).toList).trans h
section
variable {n : Nat} (hn : 0 < n)
include hn
theorem all_asc {p : Array Nat} (h : Ord n p) : ∀ f k, KAll n (fun _ => True) (kas_asc p f k)
  | 0, _ => trivial
  | f + 1, k => ⟨h.lt hn _, h.lt hn _, fun b => by
    cases b
    · exact all_asc h f (k + 1)
    · exact trivial⟩
theorem all_desc : ∀ f {p : Array Nat} (k q : Nat), Ord n p → KAll n (fun r => Ord n r.1) (kas_desc f p k q)
  | 0, _, _, _, h => h
  | f + 1, p, k, q, h => ⟨h.lt hn _, h.lt hn _, fun b => by
    cases b
    · exact ⟨h.lt hn _, h.lt hn _, fun c => by
        cases c
        · exact all_desc f _ _ h
        · exact h⟩
    · show KAll n _ (if q > 0 then kas_desc f (kas_rev p (k - (q + 1)) k) (k + 1) 0 else kas_desc f p (k + 1) 0)
      split
      · exact all_desc f _ _ (h.rev _ _)
      · exact all_desc f _ _ h⟩
theorem all_tail3 {p : Array Nat} (h : Ord n p) (k m : Nat) : KAll n (fun r => Ord n r.2) (kas_tail3 k m p) := (all_asc hn (h.rev 0 k) _ _).bind fun _ _ => h.rev 0 k
theorem all_descPart {p : Array Nat} (h : Ord n p) (k m : Nat) : KAll n (fun r => Ord n r.2) (kas_descPart k m p) := (all_desc hn _ _ _ h).bind fun r hr => by
  split
  · exact all_tail3 hn (hr.rev _ _) _ _
  · exact all_tail3 hn hr _ _
theorem all_count {p : Array Nat} (h : Ord n p) (m : Nat) : KAll n (fun r => Ord n r.2) (kas_count m p) := (all_asc hn h _ _).bind fun k _ => by
  split
  · exact h
  · split
    · exact ⟨h.lt hn _, h.lt hn _, fun b => by
        cases b
        · exact all_descPart hn (h.rev _ _) _ _
        · exact h⟩
    · exact all_descPart hn h _ _
theorem all_place {p : Array Nat} (h : Ord n p) (k : Nat) : ∀ f l r, KAll n (fun _ => True) (kas_place p k f l r)
  | 0, _, _ => trivial
  | f + 1, l, r => by
    unfold kas_place
    split
    · trivial
    · exact ⟨h.lt hn _, h.lt hn _, fun b => by
        cases b
        · exact all_place h k f _ _
        · exact all_place h k f _ _⟩
theorem all_bin : ∀ f {p : Array Nat} (k : Nat), Ord n p → KAll n (Ord n) (kas_bin f p k)
  | 0, _, _, h => h
  | f + 1, p, k, h => (all_place hn h k _ _ _).bind fun l _ => all_bin f (k + 1) (h.bub _ _)
theorem all_sort : KAll n (Ord n) (kas_sort n) := (all_count hn (p := List.toArray (List.range n)) (by unfold Ord; simp) n).bind fun r hr => by
  split
  · exact all_bin hn _ _ hr
  · exact hr
end
/-- a pair of numbers, in the heap -/
def PrAt (h : Heap) (v : Value) : Prop := ∃ (x : Addr) (o : Obj) (k : Nat) (a b : Int) (t u : Tok), v = .ref x ∧ h.get? x = some o ∧ o.cls = .type "tuple" ∧ o.data = .seq #[.int a t, .int b u] k
theorem prs_tups {h : Heap} : ∀ {vs : List Value}, (∀ v ∈ vs, PrAt h v) → ∃ fs : List Value, KatTups h vs fs ∧ fs.length = vs.length ∧ ∀ f ∈ fs, ∃ (a : Int) (t : Tok), f = .int a t
  | [], _ => ⟨[], trivial, rfl, by simp⟩
  | v :: vs, hv => by
    obtain ⟨fs, h1, h2, h3⟩ := prs_tups (vs := vs) fun w hw => hv w (List.mem_cons_of_mem _ hw)
    obtain ⟨x, o, k, a, b, t, u, e, ho, hc, hd⟩ := hv v (List.mem_cons_self ..)
    refine ⟨.int a t :: fs, ⟨⟨x, o, _, k, e, ho, hc, hd, rfl⟩, h1⟩, by simp [h2], fun f hf => ?_⟩
    rcases List.mem_cons.mp hf with e | e
    · exact ⟨a, t, e⟩
    · exact h3 f e
section
variable {prog : Program} {w : World} {A : Around} {E : Value → Shared → Prop} {s : Shared}
theorem pr_lt {v v' : Value} {C : Bool → Shared → Prop} (hv : PrAt s.heap v) (hv' : PrAt s.heap v') (hC : ∀ b, C b s) : wpAny (model prog w) A (keyLt' (tuples' true) v v') C (fun _ _ => False) s := by
  obtain ⟨x, o, k, a, b, t, u, rfl, ho, hc, hd⟩ := hv
  obtain ⟨x', o', k', a', b', t', u', rfl, ho', hc', hd'⟩ := hv'
  refine kat_lt ho hd ho' hd' (kat_cons (wpAny_eqBool_int ?_))
  refine kat_go (fun _ => kat_yes ?_) (fun _ => kat_no ?_)
  · refine kat_cons (wpAny_eqBool_int (kat_go (fun _ => kat_yes (kat_nil (hC _))) (fun _ => kat_no ?_)))
    exact kat_one _ _ (lt_int (hC _))
  · exact kat_lt_int (hC _)
theorem map_getD (vs : List Value) : ((List.range vs.length).map fun i => vs.getD i Value.none) = vs := by
  apply List.ext_getElem
  · simp
  · intro i h1 h2
    simp [List.getElem_map, List.getElem_range, h2]
theorem list_sortP {a : Addr} {vs : List Value} {n : Nat} {Z : PySem.Fin → Shared → Prop} (ho : s.heap.get? a = some (seqObj "list" vs.toArray n)) (h64 : vs.length < 64) (hv : ∀ v ∈ vs, PrAt s.heap v)
    (h : ∀ out : List Value, out.Perm vs → Z (.done (.ret .none)) { s with heap := sortedHeap s.heap a vs out.toArray }) : wpAny (model prog w) A (Builtin.«list.sort» ⟨[.ref a], []⟩) Z E s := by
  have hlt : a < s.heap.objs.size := Heap.lt_size ho
  obtain ⟨c1, g1⟩ : ∃ c1, (s.heap.update a (Obj.mapSeq fun _ => #[])).get? a = some (seqObj "list" #[] c1) := ⟨_, get?_update_seq ho (fun _ => #[])⟩
  have up : ∀ b o, b ≠ a → s.heap.get? b = some o → (((s.heap.update a (Obj.mapSeq fun _ => #[])).push (seqObj "tuple" vs.toArray 0)).push (seqObj "list" #[] 0)).get? b = some o := fun b o nb q => by
    refine Heap.get?_push_of_some _ (Heap.get?_push_of_some _ ?_)
    rw [Heap.get?_update_ne _ _ _ _ nb]
    exact q
  have g6 : (((s.heap.update a (Obj.mapSeq fun _ => #[])).push (seqObj "tuple" vs.toArray 0)).push (seqObj "list" #[] 0)).get? a = some (seqObj "list" #[] c1) := Heap.get?_push_of_some _ (Heap.get?_push_of_some _ g1)
  rw [list_sort_plain]
  refine wpAny_bind (listItems_at ho rfl (wpAny_bind (listUpdate_at ho rfl ?_ (by rw [List.size_toArray, sizeLine_eq]; omega) (Nat.zero_le _))))
  refine wpAny_bind (seqEpoch_at g1 rfl (wpAny_bind (wpAny_newTuple ?_ (show vs.length ≤ sizeLine by rw [sizeLine_eq]; omega))))
  refine wpAny_bind (wpAny_newList (wpAny_holding ?_) (Nat.zero_le _))
  show wpAny (model prog w) A _ Z E { s with heap := ((s.heap.update a (Obj.mapSeq fun _ => #[])).push (seqObj "tuple" vs.toArray 0)).push (seqObj "list" #[] 0) }
  dsimp only
  by_cases h2 : vs.toArray.size < 2
  · rw [if_pos h2, if_pos h2]
    refine wpAny_bind (wpAny_pure ?_)
    rw [StateT.run_pure]
    refine wpAny_bind (wpAny_pure ?_)
    dsimp only
    refine wpAny_bind (seqEpoch_at g6 rfl (wpAny_bind (listUpdate_at g6 rfl ?_ (Nat.zero_le _) (by rw [Array.size_map]; show (pairsOf vs).size ≤ _; rw [pairsOf_size, sizeLine_eq]; omega))))
    simp only [bne_self_eq_false, Bool.false_eq_true, if_false]
    have e : (arrOf (SortSt.mk' general' (vs.toArray.zip vs.toArray) #[] 7 none)).map (·.2) = vs.toArray := by
      show (vs.toArray.zip vs.toArray).map (·.2) = vs.toArray
      apply Array.toList_inj.mp
      simp [List.map_snd_zip]
    have := h vs (List.Perm.refl _)
    refine wpAny_pure ?_
    rw [e]
    exact this
  · rw [if_neg h2, if_neg h2]
    rw [List.size_toArray] at h2
    obtain ⟨fs, hT, hfl, hfi⟩ := prs_tups (h := ((s.heap.update a (Obj.mapSeq fun _ => #[])).push (seqObj "tuple" vs.toArray 0)).push (seqObj "list" #[] 0)) (vs := vs) fun v hv' => by
      obtain ⟨x, o, k, p, q, t, u, e, hx, hc, hd⟩ := hv v hv'
      exact ⟨x, o, k, p, q, t, u, e, up _ _ (fun z => by rw [z, ho] at hx; cases hx; injection (show Value.type "list" = Value.type "tuple" from hc) with e'; exact absurd e' (by decide)) hx, hc, hd⟩
    refine wpAny_bind (kat_kind (T := .type "int") hT (by omega) (fun f hf => ?_) rfl ?_)
    · obtain ⟨p, t, rfl⟩ := hfi f hf
      exact Looks.now
    show wpAny (model prog w) A _ Z E _
    have run : (kas_sort vs.length).kasWp (kas_ask prog w A (tuples' true) vs) (fun p s' => Ord vs.length p ∧ s' = { s with heap := ((s.heap.update a (Obj.mapSeq fun _ => #[])).push (seqObj "tuple" vs.toArray 0)).push (seqObj "list" #[] 0) }) { s with heap := ((s.heap.update a (Obj.mapSeq fun _ => #[])).push (seqObj "tuple" vs.toArray 0)).push (seqObj "list" #[] 0) } :=
      KAll.wp (n := vs.length) (fun i j C hi hj hC => by
        have pr : ∀ k, k < vs.length → PrAt (((s.heap.update a (Obj.mapSeq fun _ => #[])).push (seqObj "tuple" vs.toArray 0)).push (seqObj "list" #[] 0)) (vs.getD k Value.none) := fun k hk => by
          have em : vs.getD k Value.none = vs[k] := by simp [hk]
          rw [em]
          obtain ⟨x, o, k', p, q, t, u, e, hx, hc, hd⟩ := hv _ (List.getElem_mem hk)
          exact ⟨x, o, k', p, q, t, u, e, up _ _ (fun z => by rw [z, ho] at hx; cases hx; injection (show Value.type "list" = Value.type "tuple" from hc) with e'; exact absurd e' (by decide)) hx, hc, hd⟩
        exact pr_lt (pr i hi) (pr j hj) hC) (fun p hp => ⟨hp, rfl⟩) (all_sort (by omega))
    refine wpAny_bind (wpAny_mono (kat_run (Q := fun st' s' => ∃ p : Array Nat, arrOf st' = p.map (kas_item (vs.toArray.zip vs.toArray)) ∧ failedOf st' = none ∧ Ord vs.length p ∧ s' = { s with heap := ((s.heap.update a (Obj.mapSeq fun _ => #[])).push (seqObj "tuple" vs.toArray 0)).push (seqObj "list" #[] 0) })
      rfl (by omega) h64 (fun p st' s' _ q2 q3 q4 => ⟨p, q2, q3, q4.1, q4.2⟩) run) ?_ fun _ _ e => e)
    rintro ⟨⟨⟩, st'⟩ s' ⟨p, har, hf, hp, rfl⟩
    dsimp only
    have eo := kat_snds rfl har
    have hpm : (p.toList.map fun i => vs.getD i Value.none).Perm vs := by
      have := hp.map fun i => vs.getD i Value.none
      rwa [map_getD] at this
    have fin := h _ hpm
    rw [eo]
    refine wpAny_bind (seqEpoch_at g6 rfl (wpAny_bind (listUpdate_at g6 rfl ?_ (Nat.zero_le _) (by rw [List.size_toArray, hpm.length_eq, sizeLine_eq]; omega))))
    rw [hf]
    simp only [bne_self_eq_false, Bool.false_eq_true, if_false]
    exact wpAny_pure fin
theorem sorted_prs {l : Addr} {vs : List Value} {Q : Value → Shared → Prop} (hl : s.heap.IsList l vs.toArray) (h64 : vs.length < 64) (hv : ∀ v ∈ vs, PrAt s.heap v)
    (h : ∀ out : List Value, out.Perm vs → Q (.ref (s.heap.objs.size + 1)) { s with heap := sortedAll s.heap vs out.toArray }) : wpAny (model prog w) A (call (.builtin "sorted") [.ref l]) Q E s := by
  refine Calls.call_function_entry kind_sorted plain_sorted entry_sorted (args_sorted1 _) ?_
  unfold Builtin.«sorted»
  refine wpAny_bind (m := checkCount "sorted" 1 1 _) (wpAny_pure (wpAny_bind (collect_list hl (wpAny_bind (wpAny_newList ?_ (by rw [sizeLine_eq]; omega))) (by rw [sizeLine_eq]; omega))))
  have n1 : ((s.heap.push (seqObj "list" #[] 0)).update s.heap.objs.size (Obj.mapSeq (· ++ vs.toArray))).objs.size = s.heap.objs.size + 1 := by rw [Heap.size_update, size_push']
  have up : ∀ b o, s.heap.get? b = some o → (((s.heap.push (seqObj "list" #[] 0)).update s.heap.objs.size (Obj.mapSeq (· ++ vs.toArray))).push (seqObj "list" vs.toArray 0)).get? b = some o := fun b o q => by
    refine Heap.get?_push_of_some _ ?_
    rw [Heap.get?_update_ne _ _ _ _ (Nat.ne_of_lt (Heap.lt_size q))]
    exact Heap.get?_push_of_some _ q
  have g2 : (((s.heap.push (seqObj "list" #[] 0)).update s.heap.objs.size (Obj.mapSeq (· ++ vs.toArray))).push (seqObj "list" vs.toArray 0)).get? (s.heap.objs.size + 1) = some (seqObj "list" vs.toArray 0) := by
    rw [← n1]; exact Heap.get?_push_size _ rfl
  show wpAny _ _ _ _ _ { s with heap := ((s.heap.push (seqObj "list" #[] 0)).update s.heap.objs.size (Obj.mapSeq (· ++ vs.toArray))).push (seqObj "list" vs.toArray 0) }
  rw [n1]
  refine wpAny_bind (wpAny_holding (wpAny_call_entry slot_list_sort ⟨_, g2, rfl⟩ entry_list_sort (list_sortP g2 h64 (fun v hv' => ?_) fun out hp => ⟨_, rfl, wpAny_pure ⟨_, rfl, h out hp⟩⟩) (args_list_sort _)))
  obtain ⟨x, o, k, p, q, t, u, e, hx, hc, hd⟩ := hv v hv'
  exact ⟨x, o, k, p, q, t, u, e, up _ _ hx, hc, hd⟩
end
/-- pairs of numbers, by values -/
def PrsAt (H : Hp) : List V → List (Int × Int) → Prop
  | [], [] => True
  | v :: vs, x :: xs => (∃ a, v = .ref a ∧ H a = some (.tup [.int x.1, .int x.2])) ∧ PrsAt H vs xs
  | _, _ => False
theorem PrsAt.val {X : Cx} {pins : List (Addr × Obj)} {σ : St} {H : Hp} {s : Shared} (I : Inv X pins σ H s) : ∀ {vs : List V} {xs : List (Int × Int)} {us : List Value}, PrsAt H vs xs → Vals vs us → (∀ u ∈ us, PrAt s.heap u) ∧ vs = us.map fun u => V.ref (match u with | .ref a => a | _ => 0)
  | [], [], _, _, r => by cases r; exact ⟨by simp, rfl⟩
  | v :: vs, x :: xs, _, ⟨⟨a, e, q⟩, hr⟩, r => by
    cases r with
    | cons h t =>
      subst e
      cases h
      obtain ⟨h1, h2⟩ := PrsAt.val I hr t
      obtain ⟨its, rv, ⟨o, ho, hc, n, hd⟩, _⟩ := I.tuple (SqT.of q)
      refine ⟨fun u hu => ?_, by rw [List.map_cons, ← h2]⟩
      rcases List.mem_cons.mp hu with e | e
      · cases rv with
        | cons r1 rr =>
          cases rr with
          | cons r2 rr =>
            cases rr
            obtain ⟨t1, rfl⟩ := r1
            obtain ⟨t2, rfl⟩ := r2
            exact ⟨a, o, n, _, _, _, _, e, ho, hc, hd⟩
      · exact h1 u e
/-- sorted(list of pairs): the same refs in some order -/
def rSortP (K : PySem.W.Frag) : List V → Hp → VK → Prop := fun xs H Q => ∃ (a : Addr) (vs : List V) (ps : List (Int × Int)), xs = [.ref a] ∧ SqL K H a vs ∧ PrsAt H vs ps ∧ vs.length < 64 ∧ ∀ (l : Addr) (vs' : List V), H l = none → vs'.Perm vs → Q (.ref l) (upd H l (.lst vs'))
theorem call_sortP {X : Cx} : CallR X (.builtin "sorted") (rSortP X.K) := by
  intro pins s σ H xs us Q I r h
  obtain ⟨a, vs, ps, rfl, hq, hP, h64, q⟩ := h
  obtain ⟨u, rfl, rx⟩ := vals1 r
  cases rx
  obtain ⟨its, r', pl, hz⟩ := I.list hq
  have hlen := r'.length
  obtain ⟨hpr, hvs⟩ := PrsAt.val I hP r'
  refine sorted_prs pl.isList (by omega) hpr fun out hp => ?_
  obtain ⟨e, he⟩ := sortedAll_at s.heap its out.toArray
  have hl2 := hp.length_eq
  have hpm : (out.map fun u => V.ref (match u with | .ref a => a | _ => 0)).Perm vs := by
    rw [hvs]
    exact hp.map _
  refine ⟨.ref (s.heap.objs.size + 1), _, I.laid (t' := s.toks) (o := .lst (out.map fun u => V.ref (match u with | .ref a => a | _ => 0))) (fun b o => sortedAll_old) (Nat.le_succ _) ?_, rfl, q _ _ (I.hok.fresh (Nat.le_succ _)) hpm⟩
  refine ⟨by rw [List.length_map]; exact Nat.le_trans (show out.length ≤ 64 by omega) (by decide), out, e, ?_, he⟩
  have hall : ∀ u ∈ out, ∃ x, u = .ref x := fun u hu => by
    obtain ⟨x, _, _, _, _, _, _, e, _⟩ := hpr u (hp.mem_iff.mp hu)
    exact ⟨x, e⟩
  clear he hpm hp hl2
  induction out with
  | nil => exact .nil
  | cons u out ih =>
    obtain ⟨x, rfl⟩ := hall u (List.mem_cons_self ..)
    exact .cons rfl (ih fun u hu => hall u (List.mem_cons_of_mem _ hu))
theorem PrsAt.same {H H' : Hp} (s : Same H H') : ∀ {vs : List V} {ps : List (Int × Int)}, PrsAt H vs ps → PrsAt H' vs ps
  | [], [], _ => trivial
  | _ :: _, _ :: _, ⟨⟨a, e, q⟩, r⟩ => ⟨⟨a, e, s _ _ q⟩, r.same s⟩
theorem PrsAt.snoc {H : Hp} {a : Addr} {p : Int × Int} (e : H a = some (.tup [.int p.1, .int p.2])) : ∀ {vs : List V} {ps : List (Int × Int)}, PrsAt H vs ps → PrsAt H (vs ++ [.ref a]) (ps ++ [p])
  | [], [], _ => ⟨⟨a, rfl, e⟩, trivial⟩
  | _ :: _, _ :: _, h => ⟨h.1, h.2.snoc e⟩
theorem PrsAt.len {H : Hp} : ∀ {vs : List V} {ps : List (Int × Int)}, PrsAt H vs ps → vs.length = ps.length
  | [], [], _ => rfl
  | _ :: _, _ :: _, h => by rw [List.length_cons, List.length_cons, PrsAt.len h.2]
theorem PrsAt.get {H : Hp} : ∀ {vs : List V} {ps : List (Int × Int)} {i : Nat} {v : V}, PrsAt H vs ps → vs[i]? = some v → ∃ a p, v = .ref a ∧ ps[i]? = some p ∧ H a = some (.tup [.int p.1, .int p.2])
  | v :: vs, p :: ps, 0, _, h, e => by
    cases e
    obtain ⟨a, e, q⟩ := h.1
    exact ⟨a, p, e, rfl, q⟩
  | _ :: vs, _ :: ps, i + 1, v, h, e => PrsAt.get (i := i) h.2 e
theorem PrsAt.perm {H : Hp} {vs vs' : List V} (hp : vs'.Perm vs) : ∀ {ps : List (Int × Int)}, PrsAt H vs ps → ∃ ps', PrsAt H vs' ps' ∧ ps'.Perm ps := by
  induction hp with
  | nil => intro ps h; exact ⟨ps, h, .refl _⟩
  | cons x _ ih =>
    intro ps h
    cases ps with
    | nil => exact h.elim
    | cons p ps =>
      obtain ⟨ps', h1, h2⟩ := ih h.2
      exact ⟨p :: ps', ⟨h.1, h1⟩, h2.cons p⟩
  | swap x y l =>
    intro ps h
    match ps, h with
    | [], h => exact h.elim
    | [_], h => exact h.2.elim
    | p :: q :: ps, h => exact ⟨q :: p :: ps, ⟨h.2.1, h.1, h.2.2⟩, .swap ..⟩
  | trans _ _ ih1 ih2 =>
    intro ps h
    obtain ⟨ps1, a1, a2⟩ := ih2 h
    obtain ⟨ps2, b1, b2⟩ := ih1 a1
    exact ⟨ps2, b1, b2.trans a2⟩
end L2
/-! EvMul: tuple * number. Behind EvLay. -/
namespace PySem
open Sem (wp)
open Builtin
end PySem
namespace L2
open PySem PySem.Spec PyProof.Rows
end L2
namespace HT2
open PySem PySem.Spec PyProof.Rows HT
variable {prog : Program} {w : World} {A : Around} {E : Value → Shared → Prop} {s : Shared}
end HT2
namespace L2
open PySem PySem.Spec PyProof.Rows
end L2
/-! EvTold: loops by steps, zip of two lists, a def that calls itself. Behind EvMul. -/
namespace L2
open PySem PySem.Spec PyProof.Rows
section
variable {X : Cx} {elts : List Expr} {k : Nat} {tp : Pos}
end
end L2
/-! EvZip: zip of a tuple and a list. Behind EvLay. -/
namespace L2
open PySem PySem.Spec PyProof.Rows
section
variable {prog : Program} {w : World} {A : Around} {E : Value → Shared → Prop} {s : Shared}
/-- the next of a tuple's iterator, asked by a builtin -/
theorem nextT_item {it t : Addr} {i : Nat} {its : Array Value} {x : Value} {Q : Value → Shared → Prop} (hi : s.heap.IsTupleIter it t i) (ht : s.heap.IsTuple t its) (hx : its[i]? = some x)
    (hQ : ∀ h', h'.IsTupleIter it t (i + 1) → Heap.SameBut it s.heap h' → Q x { s with heap := h' }) : wpAny (model prog w) A (Builtin.SmallTypes.nextOf (.ref it)) Q E s := by
  obtain ⟨oi, gi, ci, di⟩ := id hi
  obtain ⟨ot, gt, _, nt, dt⟩ := ht
  unfold Builtin.SmallTypes.nextOf
  refine wpAny_bind (wpAny_callSpecial?_slot (name := Str.ofString "__next__") hi.typeIs PySem.F.slot_tuple_iterator_next (wpAny_call_entry PySem.F.slot_tuple_iterator_next hi.typeIs PySem.F.entry_tuple_iterator_next ?_ (PySem.F.args_tuple_iterator_next_1 _)))
  show wpAny _ _ (field (.ref it) 0 >>= _) _ _ s; refine wpAny_bind (wpAny_field gi di (x := .ref t) rfl ?_)
  show wpAny _ _ (if (Value.ref t == Value.none) = true then _ else _) _ _ s; rw [if_neg (show ¬ ((Value.ref t == Value.none) = true) from Bool.false_ne_true)]
  show wpAny _ _ (field (.ref it) 1 >>= _) _ _ s; refine wpAny_bind (wpAny_field gi di (x := .int i 0) rfl ?_)
  show wpAny _ _ (seqItems? (.ref t) >>= _) _ _ s; refine wpAny_bind (wpAny_seqItems gt dt ?_)
  simp only [Int.toNat_natCast, hx]
  have hn : ∀ f, (s.heap.update it (Obj.mapFields f)).get? it = some (Obj.mapFields f oi) := fun f => Heap.get?_update_self _ gi (Obj.isFreed_of_fields (Obj.data_mapFields di _))
  refine wpAny_bind (wpAny_setField gi di (by simp) (wpAny_pure ⟨x, rfl, wpAny_pure (hQ _ ⟨_, hn _, (Obj.cls_mapFields ..).trans ci, ?_⟩ (Heap.SameBut.update ..))⟩))
  rw [Obj.data_mapFields di]; simp [rawInt]
theorem nextT_end {it t : Addr} {i : Nat} {its : Array Value} {Q : Value → Shared → Prop} (hh : A.handled = none) (hi : s.heap.IsTupleIter it t i) (ht : s.heap.IsTuple t its) (hx : its[i]? = none)
    (hE : ∀ h' e, Heap.ExtBut it s.heap h' → (∃ o, h'.get? e = some o ∧ o.cls = .type "StopIteration") → E (.ref e) { s with heap := h' }) : wpAny (model prog w) A (Builtin.SmallTypes.nextOf (.ref it)) Q E s := by
  obtain ⟨oi, gi, ci, di⟩ := id hi
  obtain ⟨ot, gt, _, nt, dt⟩ := ht
  unfold Builtin.SmallTypes.nextOf
  refine wpAny_bind (wpAny_callSpecial?_slot (name := Str.ofString "__next__") hi.typeIs PySem.F.slot_tuple_iterator_next (wpAny_call_entry PySem.F.slot_tuple_iterator_next hi.typeIs PySem.F.entry_tuple_iterator_next ?_ (PySem.F.args_tuple_iterator_next_1 _)))
  show wpAny _ _ (field (.ref it) 0 >>= _) _ _ s; refine wpAny_bind (wpAny_field gi di (x := .ref t) rfl ?_)
  show wpAny _ _ (if (Value.ref t == Value.none) = true then _ else _) _ _ s; rw [if_neg (show ¬ ((Value.ref t == Value.none) = true) from Bool.false_ne_true)]
  show wpAny _ _ (field (.ref it) 1 >>= _) _ _ s; refine wpAny_bind (wpAny_field gi di (x := .int i 0) rfl ?_)
  show wpAny _ _ (seqItems? (.ref t) >>= _) _ _ s; refine wpAny_bind (wpAny_seqItems gt dt ?_)
  simp only [Int.toNat_natCast, hx]
  refine wpAny_bind (wpAny_rule (wpAny_bind (wpAny_setField gi di (by simp) ?_)))
  show wpAny _ _ (newExc (.type "StopIteration") [] >>= _) _ _ _; refine wpAny_bind ?_
  simp only [newExc, newTuple]; refine wpAny_bind (wpAny_newObj_type ?_ (by size_fits))
  refine wpAny_bind (m := firstArgMember _ _) (wpAny_of_eq (a := Value.none) (by first | rfl | (simp only [firstArgMember]; rfl)) (wpAny_newObj_type ?_ (by size_fits)))
  simp only [raiseNew]; refine wpAny_bind (wpAny_handled ?_)
  first | rw [show A.in1.handled = none from hh] | rw [hh]
  exact wpAny_bind (wpAny_pure (wpAny_throw (hE _ _ (((Heap.SameBut.update ..).extBut.push _).push _) ⟨_, Heap.get?_push_size _ rfl, rfl⟩)))
end
section
variable {prog : Program} {w : World} {A : Around} {E : Value → Shared → Prop} {s : Shared}
end
section
variable {X : Cx} {elts : List Expr} {k : Nat} {tp : Pos}
end
end L2
/-! EvEnt: enumerate of a tuple, values of an `or`, a list taken apart. Behind EvTold and EvZip. -/
namespace L2
open PySem PySem.Spec PyProof.Rows
section
variable {prog : Program} {w : World} {A : Around} {E : Value → Shared → Prop} {s : Shared}
theorem tup_ne_it {h : Heap} {t it : Addr} {its : Array Value} {i : Nat} (p : h.IsTuple t its) (q : h.IsTupleIter it t i) : t ≠ it := fun z => by
  obtain ⟨o, ho, hc, _⟩ := q
  obtain ⟨o', ho', hc', _⟩ := p
  rw [z, ho] at ho'
  cases ho'
  rw [hc] at hc'
  exact absurd hc' (by decide)
theorem enum_ne_tup {h : Heap} {e it t : Addr} {its : Array Value} {i : Int} {old : Value} (q : IsEnum h e it i old) (p : h.IsTuple t its) : e ≠ t := fun z => by
  obtain ⟨o', ho', hc', _⟩ := p
  rw [← z, q] at ho'
  cases ho'
  exact absurd (show Value.type "enumerate" = Value.type "tuple" from hc') (by decide)
theorem drawsT (hh : A.handled = none) {it t : Addr} (hne : t ≠ it) (its : Array Value) : Draws prog w A it [it, t] its.size (fun i v => its[i]? = some v) (fun i h => h.IsTupleIter it t i ∧ h.IsTuple t its) where
  live := fun _ _ st => by
    obtain ⟨⟨o, ho, _⟩, _⟩ := st
    exact ⟨o, ho⟩
  frame := fun _ _ _ st hk => ⟨st.1.at fun o e => hk it (by simp) o e, st.2.at fun o e => hk t (by simp) o e⟩
  item := fun i s Q E hi st hQ => nextT_item st.1 st.2 (x := its[i]) (by simp [hi]) fun h' j sb => hQ _ h' s.toks (by simp [hi]) ⟨j, st.2.extBut sb.extBut hne⟩ sb
  done := fun s Q E st hE => nextT_end hh st.1 st.2 (by simp) hE
abbrev et1 (h : Heap) (t : Addr) : Heap := h.push { cls := .type "tuple_iterator", data := .fields #[.ref t, .int 0 0] }
abbrev et2 (h : Heap) (t : Addr) : Heap := (et1 h t).push { cls := .type "enumerate", data := .fields #[.none, .bool false, .ref h.objs.size, rawInt 0, .none, .none] }
theorem enumT_new (t : Addr) (its : Array Value) :
    Meets (Builtin.«enumerate.__new__» ⟨[.type "enumerate", .ref t], []⟩) (fun _ R s => s.heap.IsTuple t its ∧ R (.ok (.ret (.ref (et1 s.heap t).objs.size))) { s with heap := et2 s.heap t }) :=
  .of_wp fun prog w A R s h => by
    obtain ⟨hp, g, d, tk, os⟩ := s; obtain ⟨g1, h⟩ := h
    have hsub := sub_enumerate
    have a1 : Heap.IsTuple (Shared.heap ⟨hp, g, d, tk, os⟩) t its := g1
    obtain ⟨⟨oc, od, odt, osl⟩, hl, hc, n, hd⟩ := id g1
    replace hc : oc = .type "tuple" := hc
    replace hd : odt = .seq its n := hd
    subst hc hd
    wp_walk using AutoSeq1.wpAny_loadPart' hl
    refine wpAny_stack_any fun st => wpAny_pure ?_
    split
    · rename_i c _ _ _ _ _
      cases (c == Value.type "enumerate")
      · wp_walk using AutoSeq1.wpAny_loadPart' hl, wpAny_pyIter_tuple a1
        exact ⟨_, rfl, h⟩
      · wp_walk using AutoSeq1.wpAny_loadPart' hl, wpAny_pyIter_tuple a1
        exact ⟨_, rfl, h⟩
    · wp_walk using AutoSeq1.wpAny_loadPart' hl, wpAny_pyIter_tuple a1
      exact ⟨_, rfl, h⟩
theorem call_enumT {t : Addr} {its : Array Value} {Q : Value → Shared → Prop} (g1 : s.heap.IsTuple t its)
    (h : ∀ h', IsEnum h' (s.heap.objs.size + 1) s.heap.objs.size 0 .none → h'.IsTupleIter s.heap.objs.size t 0 → (∀ c o, s.heap.get? c = some o → h'.get? c = some o) → Q (.ref (s.heap.objs.size + 1)) { s with heap := h' }) :
    wpAny (model prog w) A (call (.type "enumerate") [.ref t]) Q E s := by
  refine callType_new PySem.F.called_enumerate (by decide) (PySem.F.typeCall_enumerate_1 _) (PySem.F.newCall_enumerate_1 _) (fun obj => PySem.F.args_object_init_2 obj _) PySem.F.entry_enumerate_new (enumT_new t its) ⟨g1, ?_⟩
  have n1 : (et1 s.heap t).objs.size = s.heap.objs.size + 1 := Heap.size_push ..
  have q2 : (et2 s.heap t).get? (et1 s.heap t).objs.size = some _ := Heap.get?_push_size _ rfl
  have q1 : (et2 s.heap t).get? s.heap.objs.size = some _ := Heap.get?_push_of_some _ (Heap.get?_push_size _ rfl)
  show _ ∧ _
  rw [n1] at q2
  rw [n1]
  exact ⟨⟨_, q2, rfl⟩, h _ q2 ⟨_, q1, rfl, rfl⟩ fun c o q => Heap.get?_push_of_some _ (Heap.get?_push_of_some _ q)⟩
end
/-- the pairs (number, item) of a tuple -/
def Itet (K : PySem.W.Frag) (a : Addr) : It :=
  ⟨fun i H => ∃ xs x, SqT K H a xs ∧ xs[i]? = some x, fun i H v H' => ∃ T x, (∀ xs, SqT K H a xs → xs[i]? = some x) ∧ H T = none ∧ v = .ref T ∧ H' = upd H T (.tup [.int (i : Nat), x]), fun i H => ∃ xs, SqT K H a xs ∧ xs.length = i⟩
theorem turn_enumT {P : Program} {w : World} {K : PySem.W.Frag} {elts : List Expr} {k : Nat} {tp : Pos} (l e it : Addr) (hei : e ≠ it) : Turn P w K (.Tuple elts k tp) (Itet K l) [e, it] e (fun i h => (∃ old, IsEnum h e it ((i : Nat) : Int) old) ∧ h.IsTupleIter it l i) where
  mem := by simp
  obj := fun i h st b hb => by
    obtain ⟨⟨old, he⟩, o, ho, hc, hd⟩ := st
    simp only [List.mem_cons, List.not_mem_nil, or_false] at hb
    rcases hb with rfl | rfl
    · exact ⟨_, he, fun v z => by cases z⟩
    · exact ⟨o, ho, fun v z => by rw [hd] at z; cases z⟩
  keep := fun i h h' st kp => ⟨⟨_, kp e (by simp) _ st.1.choose_spec⟩, st.2.at fun o q => kp it (by simp) o q⟩
  item := by
    intro X hP hw hK hc i pins s σ H E I hf st hg
    subst hP hw hK
    obtain ⟨xs, x, hq, hx⟩ := hg
    obtain ⟨its, rv, p, hz⟩ := I.tuple hq
    obtain ⟨u, hu, ru⟩ := rv.get hx
    obtain ⟨⟨old, he⟩, hit⟩ := st
    have hlt : ∀ b ∈ [e, it], b ≠ s.heap.objs.size := fun b hb z => by
      simp only [List.mem_cons, List.not_mem_nil, or_false] at hb
      rcases hb with rfl | rfl
      · exact absurd (z ▸ Heap.lt_size he) (Nat.lt_irrefl _)
      · obtain ⟨_, ho, _⟩ := hit
        exact absurd (z ▸ Heap.lt_size ho) (Nat.lt_irrefl _)
    have fr : H s.heap.objs.size = none := I.hok.fresh (Nat.le_refl _)
    have p' : s.heap.IsTuple l its.toArray := p
    have hlen := rv.length
    have hil := (List.getElem?_eq_some_iff.mp hx).1
    refine wpAny_pyNext_enum_itemD (drawsT (show X.A.in1.handled = none from I.ok.hd hc) (tup_ne_it p' hit) its.toArray) he ⟨hit, p'⟩ (by rw [List.size_toArray]; omega) hei (by
      simp only [List.mem_cons, List.not_mem_nil, or_false, not_or]
      exact ⟨hei, enum_ne_tup he p'⟩) fun y h' tk hy ho hit2 hT hsz hk => ?_
    have hit' := hit2.1
    have ey : y = u := by
      rw [List.getElem?_toArray, hu] at hy
      exact (Option.some.inj hy).symm
    subst ey
    have I1 : Inv X pins σ H { s with heap := h', toks := tk + 1 } := I.turnedL (wr := [e, it]) (fun b o hb q => hk b o (fun z => hb (by simp [z])) (fun z => hb (by simp [z])) q) hf
    have I2 : Inv X pins σ (upd H s.heap.objs.size (.tup [.int (i : Nat), x])) { s with heap := h', toks := tk + 1 } := I.tracked I1 (Nat.le_refl _) ⟨by show 2 ≤ sizeLine; decide, [.int i tk, y], .cons ⟨_, rfl⟩ (.cons ru .nil), ⟨_, hT, rfl, _, rfl⟩⟩
    have hf2 : ∀ b ∈ [e, it], FpOk X pins (upd H s.heap.objs.size (.tup [.int (i : Nat), x])) b := fun b hb => by
      obtain ⟨f0, f1, f2, f3, f4, f5⟩ := hf b hb
      exact ⟨by rw [upd_ne (hlt b hb)]; exact f0, f1, f2, f3, f4, f5⟩
    refine ⟨_, rfl, wpAny_letOwnedTupleGo_enum ho fun h'' he' hs' => ?_⟩
    refine ⟨.ref s.heap.objs.size, _, I2.turnedL (wr := [e]) (t' := tk + 1) (fun b o hb q => (hs'.2 b (fun z => hb (by simp [z]))).trans q) (fun b hb => hf2 b (by rw [List.mem_singleton.mp hb]; simp)), rfl, ⟨_, x, fun ys hy => by rw [I.tuple_inj hy hq]; exact hx, fr, rfl, rfl⟩, ⟨⟨_, by simpa using he'⟩, hit'.at fun o q => (hs'.2 it hei.symm).trans q⟩, fun b hb => (hf2 b hb).1⟩
  done := by
    intro X hP hw hK hc i pins s σ H E I hf st hg
    subst hP hw hK
    obtain ⟨xs, hq, hx⟩ := hg
    obtain ⟨its, rv, p, hz⟩ := I.tuple hq
    have hl := rv.length
    obtain ⟨⟨old, he⟩, hit⟩ := st
    have p' : s.heap.IsTuple l its.toArray := p
    have hsz : its.toArray.size = i := by rw [List.size_toArray]; omega
    have D := drawsT (prog := X.prog) (w := X.w) (show X.A.in1.handled = none from I.ok.hd hc) (tup_ne_it p' hit) its.toArray
    rw [hsz] at D
    exact wpAny_pyNext_enum_endD D he ⟨hit, p'⟩ fun h' eb => ⟨rfl, I.turnedL (wr := [it]) (t' := s.toks) (fun b o hb q => eb b o (fun z => hb (by simp [z])) q) (fun b hb => hf b (by rw [List.mem_singleton.mp hb]; simp))⟩
  self := fun _ _ _ _ _ st h => wpAny_pyIter_enum st.1.choose_spec h
section
variable {X : Cx} {elts : List Expr} {k : Nat} {tp : Pos}
def iEnumT (K : PySem.W.Frag) (ta : TA) : TI := fun σ H R => ta σ H fun vs H1 => ∃ a, vs = [.ref a] ∧ (∃ xs, SqT K H1 a xs) ∧ R (Itet K a) H1
theorem pi_enumT {a : Expr} {ta : TA} {p pos : Pos} (hg : Gl X "enumerate") (hm : X.mg "enumerate" = none) (ha : PA X [a] ta) (hs : starEach [a] X.env = [(false, eval a X.env)] := by rfl) : PI X (.Tuple elts k tp) (.Call (.Name "enumerate" p) [a] [] pos) (iEnumT X.K ta) := by
  intro pins s σ H R I h
  refine Call_ (ld_blt I hg hm (show bootBuiltins "enumerate" = some (.type "enumerate") by decide +kernel) (PyProof.Rows.callWith_type1 (thn (ha pos pins s σ H _ I h) fun us s1 ⟨vs, H1, I1, r1, q1⟩ => ?_) (by rw [hs]; rfl) (by rfl)))
  obtain ⟨a, e, ⟨xs, hq⟩, q⟩ := q1
  subst e
  obtain ⟨u, rfl, rx⟩ := vals1 r1
  cases rx
  obtain ⟨its, rv, pl, hz⟩ := I1.tuple hq
  refine call_enumT pl fun h' he hit kp => ?_
  have I2 : Inv X pins σ H1 { s1 with heap := h' } := I1.kept (t' := s1.toks) kp
  refine wpAny_pyIter_enum he ?_
  refine ⟨s1.heap.objs.size + 1, [s1.heap.objs.size + 1, s1.heap.objs.size], _, _, H1, rfl, I2, turn_enumT a _ _ (Nat.succ_ne_self _), ⟨⟨_, he⟩, hit⟩, fun b hb => ?_, q⟩
  simp only [List.mem_cons, List.not_mem_nil, or_false] at hb
  rcases hb with rfl | rfl
  · exact I1.fpOk (Nat.le_succ _) (I1.hok.fresh (Nat.le_succ _))
  · exact I1.fpOk (Nat.le_refl _) (I1.hok.fresh (Nat.le_refl _))
theorem qi_enumT {a : Expr} {ta : TA} {p pos : Pos} (hg : Gl X "enumerate") (hm : X.mg "enumerate" = none) (ha : QA X [a] ta) (hs : starEach [a] X.env = [(false, eval a X.env)] := by rfl) : QI X (.Tuple elts k tp) (.Call (.Name "enumerate" p) [a] [] pos) (iEnumT X.K ta) := ⟨pi_enumT hg hm ha.h hs⟩
end
theorem for_enumT {K : PySem.W.Frag} {a : Addr} {xs : List V} {g : TG} {tb : TS} {D : Ends} {σ : St} {H : Hp} (Pv : Nat → St → Hp → Prop) (h0 : Pv 0 σ H) (hl : ∀ i σ H, i ≤ xs.length → Pv i σ H → SqT K H a xs)
    (hs : ∀ i x T σ H, xs[i]? = some x → Pv i σ H → H T = none → g (.ref T) σ (upd H T (.tup [.int (i : Nat), x])) fun σ2 H2 => tb { D with nx := Pv (i + 1), ct := Pv (i + 1), bk := D.nx } σ2 H2) (hd : ∀ σ H, Pv xs.length σ H → D.nx σ H) :
    ∃ W : Nat → Nat → St → Hp → Prop, (∃ m, W 0 m σ H) ∧ ∀ i m σ H, W i m σ H →
      ((Itet K a).stop i H ∧ D.nx σ H) ∨ ((Itet K a).go i H ∧ ∃ N : St → Hp → Prop, (∀ σ' H', N σ' H' → ∃ m', m' < m ∧ W (i + 1) m' σ' H') ∧ ∀ x H', (Itet K a).yld i H x H' → g x σ H' fun σ2 H2 => tb { D with nx := N, ct := N, bk := D.nx } σ2 H2) := by
  refine ⟨fun i m σ H => m = xs.length - i ∧ i ≤ xs.length ∧ Pv i σ H, ⟨xs.length, by simp, Nat.zero_le _, h0⟩, ?_⟩
  rintro i m σ H ⟨rfl, hi, p⟩
  have q := hl i σ H hi p
  by_cases hlt : i < xs.length
  · refine .inr ⟨⟨xs, xs[i], q, by simp [hlt]⟩, Pv (i + 1), fun σ' H' p' => ⟨xs.length - (i + 1), by omega, rfl, hlt, p'⟩, fun v H' y => ?_⟩
    obtain ⟨T, x, hx, hT, rfl, rfl⟩ := y
    exact hs i x T σ _ (hx xs q) p hT
  · have e : i = xs.length := by omega
    subst e
    exact .inl ⟨⟨xs, q, rfl⟩, hd σ H p⟩
end L2
/-! EvZit: zip of two tuples. Behind EvZip. -/
namespace L2
open PySem PySem.Spec PyProof.Rows
section
variable {prog : Program} {w : World} {A : Around} {E : Value → Shared → Prop} {s : Shared}
end
section
variable {prog : Program} {w : World} {A : Around} {E : Value → Shared → Prop} {s : Shared}
end
section
variable {X : Cx} {elts : List Expr} {k : Nat} {tp : Pos}
end
theorem comp_enum {K : PySem.W.Frag} {a : Addr} {xs : List V} {g : TG} {tc : TT} {te : TE} {σ' : St} {H : Hp} {G : Addr → Hp → List V → Prop} (Pv : Nat → List V → Hp → Prop) (h0 : Pv 0 [] H) (hl : ∀ i ys H, i ≤ xs.length → Pv i ys H → SqL K H a xs)
    (hs : ∀ i x t ys H (N : List V → Hp → Prop), xs[i]? = some x → Pv i ys H → H t = none → (∀ ys' H', Pv (i + 1) ys' H' → N ys' H') → g (.ref t) σ' (upd H t (.tup [.int (i : Nat), x])) fun σ2 H4 => Weak σ' σ2 ∧ tc σ2 H4 fun b H5 => if b = true then te σ2 H5 fun y H6 => ys.length < sizeLine ∧ N (ys ++ [y]) H6 else N ys H5)
    (hd : ∀ ys H, Pv xs.length ys H → ys.length ≤ sizeLine ∧ ∀ p, H p = none → G p H ys) :
    ∃ W : Nat → Nat → List V → Hp → Prop, (∃ m, W 0 m [] H) ∧ ∀ i m ys H2, W i m ys H2 →
      ((Ite K a).stop i H2 ∧ ys.length ≤ sizeLine ∧ ∀ p, H2 p = none → G p H2 ys) ∨
      ((Ite K a).go i H2 ∧ ∀ x H3, (Ite K a).yld i H2 x H3 → g x σ' H3 fun σ2 H4 => Weak σ' σ2 ∧ tc σ2 H4 fun b H5 =>
        if b = true then te σ2 H5 fun y H6 => ys.length < sizeLine ∧ ∃ m', m' < m ∧ W (i + 1) m' (ys ++ [y]) H6 else ∃ m', m' < m ∧ W (i + 1) m' ys H5) := by
  refine ⟨fun i m ys H => m = xs.length - i ∧ i ≤ xs.length ∧ Pv i ys H, ⟨xs.length, rfl, Nat.zero_le _, h0⟩, ?_⟩
  rintro i m ys H2 ⟨rfl, hi, p⟩
  have q := hl i ys H2 hi p
  by_cases hlt : i < xs.length
  · refine .inr ⟨⟨xs, xs[i], q, by simp [hlt]⟩, fun v H' y => ?_⟩
    obtain ⟨t, x, hx, ht, rfl, rfl⟩ := y
    exact hs i x t ys _ (fun ys' H'' => ∃ m', m' < xs.length - i ∧ m' = xs.length - (i + 1) ∧ i + 1 ≤ xs.length ∧ Pv (i + 1) ys' H'') (hx xs q) p ht (fun ys' H'' p' => ⟨_, by omega, rfl, hlt, p'⟩)
  · have e : i = xs.length := by omega
    subst e
    exact .inl ⟨⟨xs, q, Nat.le_refl _⟩, hd ys H2 p⟩
end L2
namespace L2
open PySem PySem.Spec PyProof.Rows
section
variable {X : Cx} {pins : List (Addr × Obj)} {σ : St} {H : Hp} {s : Shared}
/-- the clause's name goes, the others stay -/
theorem name_goneK {n : Str} {i : Nat} {pos : Pos} {Q : Unit → Shared → Prop} {E : Value → Shared → Prop} (I : Inv X pins σ H s) (hN : X.N.Nodup) (hi : X.N[i]? = some n) (hl : X.env.scope.names.lookup n = some .local) (h : ∀ s', Inv X pins (σ.set i none) H s' → Q () s') :
    wpAny (model X.prog X.w) X.A (do bindName X.env n .none; unbindBehindTheSuite X.env n pos) Q E s := by
  obtain ⟨m, hn, hrel⟩ := I.loc
  refine wpAny_nameGoes_keeps hl hn (by rw [I.ok.kind]; rfl) fun h' v0 hn' hs => h _ ?_
  have k : ∀ b o, b ≠ X.env.locals → s.heap.get? b = some o → h'.get? b = some o := fun b o hb e => (hs.2 b hb).trans e
  have cellK : ∀ c v, c ≠ X.env.locals → s.heap.IsCell c v → h'.IsCell c v := fun c v hc z => z.sameBut hs hc
  have nL : ∀ b o, X.s₀.heap.get? b = some o → b ≠ X.env.locals := fun b o e => Nat.ne_of_lt (Nat.lt_of_lt_of_le (Heap.lt_size e) I.ok.above)
  refine ⟨I.ok, I.os, I.bare, ⟨fun b o e n' hb hx => k b o (nL b o e) (I.base.keep b o e n' hb hx), fun b o e n' hb hx => ?_, I.base.free, fun b o e hx => ?_, I.base.tups, I.base.frzs, I.base.tbls⟩, ⟨_, hn', fun j x v e1 e2 e3 => ?_⟩, fun x c e => ?_, I.free, I.freeC, fun p hp => ?_, fun a o e => ?_, by rw [List.length_set]; exact I.len⟩
  · obtain ⟨sl, e1⟩ := I.base.slot b o e n' hb hx
    exact ⟨sl, k b _ (nL b o e) e1⟩
  · obtain ⟨o', e1⟩ := I.base.there b o e hx
    exact ⟨o', k b o' (nL b o e) e1⟩
  · have hji : j ≠ i := fun z => by
      rw [z] at e2
      by_cases hlt : i < σ.length
      · rw [List.getElem?_set_self hlt] at e2
        cases e2
      · rw [List.getElem?_eq_none (by rw [List.length_set]; omega)] at e2
        cases e2
    rw [List.getElem?_set_ne (Ne.symm hji)] at e2
    obtain ⟨u, r, lk⟩ := hrel j x v e1 e2 e3
    have hxn : x ≠ n := fun z => by
      subst z
      obtain ⟨h1, g1⟩ := List.getElem?_eq_some_iff.mp e1
      obtain ⟨h2, g2⟩ := List.getElem?_eq_some_iff.mp hi
      exact hji ((List.getElem_inj hN).mp (g1.trans g2.symm))
    refine ⟨u, r, ?_⟩
    rcases lk with ⟨l1, l2⟩ | ⟨l1, c, l2, l3⟩
    · exact .inl ⟨l1, (if_neg hxn).trans l2⟩
    · exact .inr ⟨l1, c, l2, cellK c _ (I.cne x c l2) l3⟩
  · obtain ⟨v, z⟩ := I.cell x c e
    exact ⟨v, cellK c v (I.cne x c e) z⟩
  · obtain ⟨e, n', ne, r⟩ := I.pin p hp
    exact ⟨k _ _ ne e, n', ne, r⟩
  · refine (I.hok a o e).stay (fun b u hb q => k b u (fun z => ?_) q) (fun _ q => q) fun _ _ q => q
    have n' := I.free
    rcases hb with rfl | hb
    · rw [z, n'] at e; cases e
    · rw [z, n'] at hb; cases hb
end
/-- what stands behind the clause: its name is gone -/
def Ends.gone (D : Ends) (i : Nat) : Ends := { nx := fun σ H => D.nx (σ.set i none) H, rt := D.rt, bk := fun σ H => D.bk (σ.set i none) H, ct := fun σ H => D.ct (σ.set i none) H }
end L2
/-! EvRin: a number in a range that is just made. Behind EvLay. -/
namespace L2
open PySem PySem.Spec PyProof.Rows
theorem rng_place (n i : Int) : (Builtin.Range.rangePlace? 0 n 1 i).isSome = decide (0 ≤ i ∧ i < n) := by
  unfold Builtin.Range.rangePlace?
  have e : (if (1 : Int) > 0 then (decide (0 ≤ i) && decide (i < n)) else (decide (n < i) && decide (i ≤ 0))) = decide (0 ≤ i ∧ i < n) := by
    rw [if_pos (by decide)]
    simp [Bool.decide_and]
  have e2 : ((i - 0) % 1 == 0) = true := by simp [Int.emod_one]
  dsimp only
  rw [e, e2, Bool.and_true]
  cases decide (0 ≤ i ∧ i < n) <;> rfl
/-- i not in range(n) -/
theorem op_notInRng {X : Cx} : OpR X (compareOp .NotIn) (fun x y H Q => ∃ (i n : Int) (r : Addr), x = .int i ∧ y = .ref r ∧ H r = some (.rng 0 n) ∧ Q (.bl (!decide (0 ≤ i ∧ i < n))) H) := by
  intro pins s σ H x y v u Q I rx ry h
  obtain ⟨i, n, r, rfl, rfl, hr, q⟩ := h
  obtain ⟨ti, rfl⟩ := rx
  cases (show u = Value.ref r from ry)
  obtain ⟨t, u, v, ho⟩ := (show ∃ t u v, s.heap.get? r = some { cls := .type "range", data := .fields #[.int 0 t, .int n u, .int 1 v] } from I.hok r _ hr)
  have hT : s.TypeIs (.ref r) "range" := ⟨_, ho, rfl⟩
  refine NotIn_slot hT PySem.F.slot_range_contains (wpAny_call_entry PySem.F.slot_range_contains hT PySem.F.entry_range_contains ?_ (PySem.F.args_range_contains_2 _ _))
  obtain ⟨hh, g, d, tk, os⟩ := s
  unfold Builtin.«range.__contains__»
  refine wpAny_bind (wpAny_of_eq (show slotArgs "__contains__" 1 ⟨[.ref r, .int i ti], []⟩ = pure (.ref r, [.int i ti]) by kernel_rfl) ?_)
  show wpAny _ _ (rule "range.contains.reckoned" >>= _) _ _ _
  unfold Builtin.Range.rangeFields
  repeat (first | (with_reducible refine wpAny_loadPart_at ho ?_) | wp_step)
  refine ⟨_, rfl, wpAny_truthy_bool ⟨.bl _, H, I, rfl, ?_⟩⟩
  rw [rng_place]
  exact q
end L2
/-! EvXi: refusals whose class has its own __init__: the making, the base's __init__, a field set and read, the raise (on the model's level). Behind Layer. -/
namespace PySem
open PySem.Spec PyProof.Rows
abbrev tupObj (rest : List Value) : Obj := { cls := .type "tuple", data := .seq rest.toArray }
abbrev excObj (C t : Addr) : Obj := { cls := .ref C, data := .fields #[.ref t, .none, .none, .none, .bool false, .none] }
theorem type_call_exc_own {prog : Program} {w : World} {A : Around} {E : Value → Shared → Prop} {h : Heap} {g : Array GenState} {d : Drawn} {t : Nat} {os : OsState} {nm q : Str} {C N fI : Addr} {bs bm bmB : List Value} {hdct : Bool} {sn : List Str} {sub : List Value} {ab : Bool} {col : Option Bool} {dd : Option Addr} {k0 k1 k2 k3 k5 : Option Value}
    {B Bn newId nid initId inN : String} {bmN : List Value} (Fn : ExcBaseFacts Bn newId inN bmN) (hBn : bmB.contains (.type Bn) = true) (F : ExcBaseFacts B nid initId bmB) (T : OwnTail h bmB bm) {mN : Str → Option Value} {rest : List Value} {Q : Fin → Shared → Prop}
    (hC : h.get? C = some (excClassObj nm q C N bs bm hdct sn sub ab col dd k0 k1 k2 k3 k5 newId)) (hn : h.Ns N mN) (hi : mN (Str.ofString "__init__") = some (.ref fI)) (hrest : rest.length ≤ sizeLine)
    (hq : wpAny (model prog w) A (bindSpecial (.ref fI) (.ref (h.objs.size + 1))) (fun r s' => wpAny (model prog w) A (call r.1 (r.2 ++ rest)) (fun v s'' => v = .none ∧ Q (.done (.ret (.ref (h.objs.size + 1)))) s'') E s') E ⟨(h.push (tupObj rest)).push (excObj C h.objs.size), g, d, t, os⟩) :
    wpAny (model prog w) A (Builtin.«type.__call__» ⟨.ref C :: rest, []⟩) Q E ⟨h, g, d, t, os⟩ := by
  unfold Builtin.«type.__call__»
  refine wpAny_ite_false rfl ?_
  refine wpAny_bind ?_
  show wpAny _ _ (mroOf (.ref C)) _ _ _
  unfold mroOf
  refine wpAny_bind ?_
  unfold classData
  refine wpAny_bind (wpAny_load' hC ?_)
  refine wpAny_pure (wpAny_pure (wpAny_ite_false rfl ?_))
  refine wpAny_bind (wpAny_madeBy_exc hC (wpAny_bind (wpAny_pure (wpAny_bind (wpAny_holding (wpAny_call (codeAny_call_builtin_code (Code.quiet_builtin _ Fn.quiet) (wpAny_check_new_subU Fn hBn T hC (codeAny_exc_new_subU Fn hBn F T hC ?_ hrest))))))))) 
  have kp : ∀ b o, h.get? b = some o → ((h.push (tupObj rest)).push (excObj C h.objs.size)).get? b = some o := fun b o e => Heap.get?_push_of_some _ (Heap.get?_push_of_some _ e)
  have hC1 := kp _ _ hC
  have hn1 := hn.keeps kp
  have T1 := T.keeps kp
  have hget : ((h.push (tupObj rest)).push (excObj C h.objs.size)).get? (h.objs.size + 1) = some (excObj C h.objs.size) := Heap.get?_push_at (by rw [Heap.size_push]) rfl
  show wpAny _ _ _ _ _ _
  refine wpAny_bind ?_
  unfold isInstance
  refine wpAny_bind ?_
  unfold typeOf
  refine wpAny_bind (wpAny_loadPart_at hget (wpAny_pure ?_))
  refine wpAny_isSubtype_exc hC1 ?_
  rw [show (Value.ref C :: bm).contains (Value.ref C) = true by simp]
  refine wpAny_ite_false rfl ?_
  refine wpAny_bind (wpAny_holding ?_)
  unfold callSpecial? specialOf
  refine wpAny_bind ?_
  refine wpAny_bind ?_
  unfold typeOf
  refine wpAny_bind (wpAny_loadPart_at hget (wpAny_pure ?_))
  refine wpAny_typeLookup_tail hC1 hn1 T1 F.mroIs F.init.lookup ?_
  rw [hi]
  refine wpAny_holding (wpAny_bind ?_)
  refine wpAny_mono hq (fun r s' hr => ?_) fun _ _ z => z
  refine wpAny_bind (wpAny_mono hr (fun v s'' hv => ?_) fun _ _ z => z)
  obtain ⟨rfl, hv⟩ := hv
  refine wpAny_pure (wpAny_ite_false rfl ?_)
  exact wpAny_pure hv
/-- C(..) for an own exception class with its own __init__ -/
theorem call_exc_own {prog : Program} {w : World} {A : Around} {E : Value → Shared → Prop} {h : Heap} {g : Array GenState} {d : Drawn} {t : Nat} {os : OsState} {nm q : Str} {C N fI : Addr} {bs bm bmB : List Value} {hdct : Bool} {sn : List Str} {sub : List Value} {ab : Bool} {col : Option Bool} {dd : Option Addr} {k0 k1 k2 k3 k5 : Option Value}
    {B Bn newId nid initId inN : String} {bmN : List Value} (Fn : ExcBaseFacts Bn newId inN bmN) (hBn : bmB.contains (.type Bn) = true) (F : ExcBaseFacts B nid initId bmB) (T : OwnTail h bmB bm) {mN : Str → Option Value} {rest : List Value} {Q : Value → Shared → Prop}
    (hC : h.get? C = some (excClassObj nm q C N bs bm hdct sn sub ab col dd k0 k1 k2 k3 k5 newId)) (hn : h.Ns N mN) (hi : mN (Str.ofString "__init__") = some (.ref fI)) (hrest : rest.length ≤ sizeLine)
    (hq : wpAny (model prog w) (A.under (.builtin "type.__call__" ⟨.ref C :: rest, []⟩)) (bindSpecial (.ref fI) (.ref (h.objs.size + 1))) (fun r s' => wpAny (model prog w) (A.under (.builtin "type.__call__" ⟨.ref C :: rest, []⟩)) (call r.1 (r.2 ++ rest)) (fun v s'' => v = .none ∧ Q (.ref (h.objs.size + 1)) s'') E s') E ⟨(h.push (tupObj rest)).push (excObj C h.objs.size), g, d, t, os⟩) :
    wpAny (model prog w) A (call (.ref C) rest) Q E ⟨h, g, d, t, os⟩ := by
  have f1 := tc_lookup
  have f2 := tc_bind (.ref C)
  have hT : Shared.TypeIs ⟨h, g, d, t, os⟩ (.ref C) "type" := ⟨_, hC, rfl⟩
  refine wpAny_call (codeAny_of_tree ?_)
  refine wpAny_bind (wpAny_load' hC ?_)
  refine wpAny_bind (wpAny_specialOf hT f1 (wpAny_bind (wpAny_of_eq f2 (wpAny_bind ?_))))
  refine wpAny_pure (wpAny_ite_true rfl ?_)
  refine wpAny_pure ⟨rfl, codeAny_call_builtin_at (Code.quiet_builtin _ (by decide +kernel)) entry_typeCall (wpAny_check_type_call_sub hC ?_)⟩
  refine type_call_exc_own Fn hBn F T hC hn hi hrest ?_
  exact hq
theorem raise_own {M : Model} {A : Around} {E : Value → Shared → Prop} {env : Env} {nm q : Str} {C N : Addr} {bs bm : List Value} {hdct : Bool} {sn : List Str} {sub : List Value} {ab : Bool} {col : Option Bool} {dd : Option Addr} {k0 k1 k2 k3 k5 : Option Value} {newId : String} {s : Shared} {x : Sem Value} {Q : Flow → Shared → Prop}
    (hb : bm.contains (.type "BaseException") = true) (hh : A.handled = none)
    (h : wpAny M A x (fun v s₁ => ∃ e t dx, v = .ref e ∧ s₁.heap.get? C = some (excClassObj nm q C N bs bm hdct sn sub ab col dd k0 k1 k2 k3 k5 newId) ∧ s₁.heap.get? e = some ⟨.ref C, dx, .fields #[.ref t, .none, .none, .none, .bool false, .none], #[]⟩ ∧ E (.ref e) s₁) E s) :
    wpAny M A (raiseStmt env (some x) none) Q E s := by
  unfold raiseStmt
  refine wpAny_bind (wpAny_mono h (fun v s1 hv => ?_) fun _ _ z => z)
  obtain ⟨e, t, dx, rfl, hC, he, hE⟩ := hv
  refine wpAny_bind (wpAny_pure ?_)
  refine wpAny_bind (wpAny_holding ?_)
  obtain ⟨hp, g, d, tk, os⟩ := s1
  have hC' : hp.get? C = some (excClassObj nm q C N bs bm hdct sn sub ab col dd k0 k1 k2 k3 k5 newId) := hC
  have he' : hp.get? e = some ⟨.ref C, dx, .fields #[.ref t, .none, .none, .none, .bool false, .none], #[]⟩ := he
  unfold excFromValue isExcClass isType isInstance typeOf
  repeat (first | with_reducible refine wpAny_loadPart_at he' ?_ | with_reducible refine wpAny_isSubtype_exc hC' ?_ | wp_step)
  have hc : (Value.ref C :: bm).contains (Value.type "BaseException") = true := by
    rw [List.contains_cons, hb, Bool.or_true]
  rw [if_pos hc]
  unfold raisedInstance setFlight field
  repeat (first | with_reducible refine wpAny_loadPart_at he' ?_ | with_reducible refine wpAny_loadPart_at hC' ?_ | with_reducible refine wpAny_load' he' ?_ | wp_step)
  exact wpAny_raiseNew_none hh hE
theorem base_init {prog : Program} {w : World} {A : Around} {E : Value → Shared → Prop} {h : Heap} {g : Array GenState} {d : Drawn} {t : Nat} {os : OsState} {nm q : Str} {C N : Addr} {bs bm bmB : List Value} {hdct : Bool} {sn : List Str} {sub : List Value} {ab : Bool} {col : Option Bool} {dd : Option Addr} {k0 k1 k2 k3 k5 : Option Value}
    {newId : String} (F : ExcBaseFacts "ValueError" "ValueError.__new__" "ValueError.__init__" bmB) (T : OwnTail h bmB bm) {e t0 : Addr} {dx : Option Addr} {v : Value} {Q : Value → Shared → Prop}
    (hC : h.get? C = some (excClassObj nm q C N bs bm hdct sn sub ab col dd k0 k1 k2 k3 k5 newId)) (he : h.get? e = some ⟨.ref C, dx, .fields #[.ref t0, .none, .none, .none, .bool false, .none], #[]⟩)
    (hq : ∀ h' : Heap, h'.get? e = some ⟨.ref C, dx, .fields #[.ref h.objs.size, .none, .none, .none, .bool false, .none], #[]⟩ → (∀ b o, b ≠ e → h.get? b = some o → h'.get? b = some o) → Q .none ⟨h', g, d, t, os⟩) :
    wpAny (model prog w) A (call (.builtin "ValueError.__init__") [.ref e, v]) Q E ⟨h, g, d, t, os⟩ := by
  refine wpAny_call (codeAny_call_builtin_at (Code.quiet_builtin _ (by decide +kernel)) F.initEntry (wpAny_check_init_subU F T hC he rfl ?_))
  have hlt : e < h.objs.size := Heap.lt_size he
  have hne : e ≠ h.objs.size := Nat.ne_of_lt hlt
  unfold Builtin.«BaseException.__init__»
  dsimp only
  refine wpAny_ite_false rfl ?_
  unfold newTuple Builtin.BaseException.bexcPut field setField updateField
  have he1 : (h.push { cls := Value.type "tuple", data := Data.seq #[v] }).get? e = some ⟨.ref C, dx, .fields #[.ref t0, .none, .none, .none, .bool false, .none], #[]⟩ := Heap.get?_push_of_some _ he
  repeat (first | with_reducible refine wpAny_load' he1 ?_ | wp_step)
  refine hq _ ?_ fun b o hb ho => ?_
  · exact Heap.get?_update_self _ he1 rfl
  · rw [Heap.get?_update_other _ _ (Ne.symm hb)]
    exact Heap.get?_push_of_some _ ho
def excTypes : List String := ["ValueError", "Exception", "BaseException", "object"]
def okEntry : Value → Bool
  | .ref _ => true
  | .type n => excTypes.contains n
  | _ => false
theorem own_sa {n : String} (h : excTypes.contains n = true) : (∃ y, classOwn (.type n) (Str.ofString "__setattr__") = pure (some y) ∧ Builtin.ObjectAttr.isObjects n "__setattr__" = true) ∨ classOwn (.type n) (Str.ofString "__setattr__") = pure none := by
  have : n = "ValueError" ∨ n = "Exception" ∨ n = "BaseException" ∨ n = "object" := by simpa [excTypes] using h
  rcases this with rfl | rfl | rfl | rfl
  · exact .inr (by first | rfl | kernel_rfl)
  · exact .inr (by first | rfl | kernel_rfl)
  · exact .inr (by first | rfl | kernel_rfl)
  · exact .inl ⟨.builtin "object.__setattr__", by kernel_rfl, by decide +kernel⟩
theorem loop_ok {g : Value → Option Unit × Unit → Sem (ForInStep (Option Unit × Unit))} (hg : ∀ c, okEntry c = true → (∃ r, g c (none, ()) = pure (ForInStep.done r)) ∨ g c (none, ()) = pure (ForInStep.yield (none, ()))) :
    ∀ l : List Value, l.all okEntry = true → ∃ r, forIn l ((none : Option Unit), ()) g = pure r
  | [], _ => ⟨_, rfl⟩
  | c :: l, h => by
    rw [List.all_cons, Bool.and_eq_true] at h
    rw [List.forIn_cons]
    rcases hg c h.1 with ⟨r, e⟩ | e
    · rw [e]
      exact ⟨r, rfl⟩
    · rw [e]
      exact loop_ok hg l h.2
theorem over_ok {M : Model} {A : Around} {E : Value → Shared → Prop} {e C : Addr} {oe : Obj} {cd : ClassData} {K : W.Frag} {s : Shared} {Q : Unit → Shared → Prop} (X : K.In s.heap) (he : s.heap.get? e = some oe) (hc : oe.cls = .ref C) (hcd : W.clsIn K C = some cd) (ho : cd.mro.all okEntry = true) (hq : Q () s) :
    wpAny M A (Builtin.ObjectAttr.refuseIfOverridden (.ref e) (Str.ofString "__setattr__")) Q E s := by
  unfold Builtin.ObjectAttr.refuseIfOverridden typeOf
  refine wpAny_bind (wpAny_bind (wpAny_loadPart_at he (wpAny_pure ?_)))
  rw [hc]
  refine wpAny_bind ?_
  unfold mroOf
  refine wpAny_bind (W.Looks.here (W.looks_clsIn X hcd) (wpAny_pure ?_))
  refine wpAny_bind ?_
  refine wpAny_of_eq (loop_ok ?hg cd.mro ho).choose_spec ?_
  · intro c hc
    match c, hc with
    | .ref a, _ => exact .inr rfl
    | .type n, hn =>
      have hn' : n = "ValueError" ∨ n = "Exception" ∨ n = "BaseException" ∨ n = "object" := by simpa [okEntry, excTypes] using hn
      have h1 : (n == "_thread._local") = false := by rcases hn' with rfl | rfl | rfl | rfl <;> decide
      have h2 : (n == "_pickle.Pickler" || n == "_pickle.Unpickler") = false := by rcases hn' with rfl | rfl | rfl | rfl <;> decide
      dsimp only
      rw [h1, h2, if_neg (by decide), if_neg (by decide)]
      rcases own_sa hn with ⟨y, e1, e2⟩ | e1
      · refine .inl ⟨(some (), ()), ?_⟩
        rw [e1, show (Str.ofString "__setattr__").toString = "__setattr__" by decide +kernel, e2]
        rfl
      · refine .inr ?_
        rw [e1]
        rfl
  · dsimp only
    split <;> exact wpAny_pure hq
theorem check_slot {M : Model} {A : Around} {E : Value → Shared → Prop} {s : Shared} {id owner name : String} {self : Value} {rest : List Value} {Q : Unit → Shared → Prop} (hk : builtinKind id = some .slot) (hs : splitId id = some (owner, name)) (ht : wpAny M A (isInstance self (.type owner)) (fun b s' => b = true ∧ s' = s) E s)
    (ha : argsOk id ⟨self :: rest, []⟩) (hq : Q () s) : wpAny M A (checkBuiltinCall id ⟨self :: rest, []⟩) Q E s := by
  unfold checkBuiltinCall
  rw [hk, hs]
  dsimp only
  refine wpAny_bind (wpAny_mono ht (fun b s' hb => ?_) fun _ _ z => z)
  obtain ⟨rfl, rfl⟩ := hb
  refine wpAny_ite_false rfl ?_
  unfold argsOk at ha
  revert ha
  cases Manifest.signature? id with
  | none => exact fun _ => wpAny_pure hq
  | some sig => exact fun ha => wpAny_of_eq ha hq
theorem os_kind : builtinKind "object.__setattr__" = some .slot := by kernel_rfl
theorem os_split : splitId "object.__setattr__" = some ("object", "__setattr__") := by kernel_rfl
theorem os_args (e : Addr) (x : Str) (t : Tok) (v : Value) : argsOk "object.__setattr__" ⟨[.ref e, .str x t, v], []⟩ := by unfold argsOk; kernel_rfl
theorem os_entry : entryFor table "object.__setattr__" = some Builtin.«object.__setattr__» := entryFor_of_tree (by kernel_rfl)
/-- what is asked of a class of refusals with fields -/
structure XCls (K : W.Frag) (C : Addr) (cd : ClassData) : Prop where
  cls : W.clsIn K C = some cd
  ok : cd.mro.all okEntry = true
  obj : cd.mro.contains (.type "object") = true
  bex : cd.mro.contains (.type "BaseException") = true
  dct : cd.hasDict = true
  ga : W.findIn K (.ref C) (Str.ofString "__getattribute__") = some (some (.builtin "BaseException.__getattribute__"))
  gt : W.findIn K (.ref C) (Str.ofString "__getattr__") = some none
  sa : W.findIn K (.ref C) (Str.ofString "__setattr__") = some (some (.builtin "object.__setattr__"))
theorem inst_of {M : Model} {A : Around} {E : Value → Shared → Prop} {e C : Addr} {oe : Obj} {cd : ClassData} {K : W.Frag} {s : Shared} {B : String} (X : K.In s.heap) (hc : W.clsIn K C = some cd) (hb : cd.mro.contains (.type B) = true) (he : s.heap.get? e = some oe) (hoc : oe.cls = .ref C) :
    wpAny M A (isInstance (.ref e) (.type B)) (fun b s' => b = true ∧ s' = s) E s := by
  unfold isInstance typeOf
  refine wpAny_bind (wpAny_bind (wpAny_loadPart_at he (wpAny_pure ?_)))
  rw [hoc]
  unfold isSubtype mroOf
  refine wpAny_bind (wpAny_bind (W.Looks.here (W.looks_clsIn X hc) (wpAny_pure ?_)))
  have hne : cd.mro.isEmpty = false := by
    cases hm : cd.mro with
    | nil => rw [hm] at hb; cases hb
    | cons _ _ => rfl
  dsimp only
  rw [hne, if_neg (by decide)]
  exact wpAny_pure ⟨hb, rfl⟩
theorem inst_dict {M : Model} {A : Around} {E : Value → Shared → Prop} {e C : Addr} {fs : Array Value} {cd : ClassData} {K : W.Frag} {s : Shared} {Q : Option Addr → Shared → Prop} (X : K.In s.heap) (hc : W.clsIn K C = some cd) (hd : cd.hasDict = true) (he : s.heap.get? e = some ⟨.ref C, none, .fields fs, #[]⟩)
    (hq : Q (some s.heap.objs.size) { s with heap := (s.heap.push { cls := .type "dict", data := .dict #[] }).update e fun o => { o with dict := some s.heap.objs.size } }) : wpAny M A (instanceDict e true) Q E s := by
  unfold instanceDict
  refine wpAny_bind (wpAny_loadPart_at he ?_)
  dsimp only
  refine wpAny_bind (W.Looks.here (W.looks_clsIn X hc) ?_)
  rw [hd]
  refine wpAny_ite_false rfl ?_
  repeat wp_step
  exact hq
theorem exc_set {prog : Program} {w : World} {A : Around} {E : Value → Shared → Prop} {e C : Addr} {fs : Array Value} {cd : ClassData} {K : W.Frag} {s : Shared} {name : Str} {v : Value} {Q : Unit → Shared → Prop} (X : K.In s.heap) (XC : XCls K C cd) (he : s.heap.get? e = some ⟨.ref C, none, .fields fs, #[]⟩) (hn : W.findIn K (.ref C) name = some none)
    (hq : ∀ (h' : Heap) (tk : Nat), h'.get? e = some ⟨.ref C, some s.heap.objs.size, .fields fs, #[]⟩ → h'.Ns1 s.heap.objs.size (fun y => if y = name then some v else none) → (∀ b o, b ≠ e → s.heap.get? b = some o → h'.get? b = some o) → Q () { s with heap := h', toks := tk }) :
    wpAny (model prog w) A (setAttr (.ref e) name v) Q E s := by
  have J : W.InstAt s.heap e ⟨.ref C, none, .fields fs, #[]⟩ C none := ⟨he, rfl, rfl, trivial⟩
  refine W.set_plain X J XC.sa ?_
  have X1 : K.In ({ s with toks := s.toks + 1 } : Shared).heap := X
  have he1 : ({ s with toks := s.toks + 1 } : Shared).heap.get? e = some ⟨.ref C, none, .fields fs, #[]⟩ := he
  refine codeAny_call_builtin_at (b := Builtin.«object.__setattr__») (Code.quiet_builtin _ (by decide +kernel)) os_entry ?_
  refine check_slot (id := "object.__setattr__") (owner := "object") (name := "__setattr__") (self := .ref e) (rest := [.str name s.toks, v]) os_kind os_split ?_ (os_args e _ _ _) ?_
  · exact inst_of X1 XC.cls XC.obj he1 rfl
  unfold Builtin.«object.__setattr__»
  refine wpAny_ite_false rfl ?_
  refine wpAny_bind (over_ok X1 he1 rfl XC.cls XC.ok ?_)
  refine wpAny_bind (wpAny_pure ?_)
  refine wpAny_bind ?_
  unfold typeOf
  refine wpAny_bind (wpAny_loadPart_at he1 (wpAny_pure ?_))
  refine wpAny_bind (W.Looks.here (W.looks_findIn X1 hn) ?_)
  refine wpAny_bind (wpAny_pure ?_)
  unfold Builtin.ObjectAttr.storeInOwnDict
  dsimp only
  refine wpAny_bind (wpAny_pure ?_)
  rw [if_neg (by simp)]
  refine wpAny_bind ?_
  refine inst_dict X1 XC.cls XC.dct he1 ?_
  have hlt : e < s.heap.objs.size := Heap.lt_size he
  have hne : s.heap.objs.size ≠ e := Ne.symm (Nat.ne_of_lt hlt)
  have hp : (s.heap.push { cls := .type "dict", data := .dict #[] }).get? e = some ⟨.ref C, none, .fields fs, #[]⟩ := Heap.get?_push_of_some _ he
  have hd0 : ((s.heap.push { cls := .type "dict", data := .dict #[] }).update e fun o => { o with dict := some s.heap.objs.size }).Ns1 s.heap.objs.size (fun _ => none) := by
    refine ⟨_, #[], _, (Heap.get?_update_other _ _ (Ne.symm hne)).trans (Heap.get?_push_size _ rfl), rfl, ?_, ?_, fun _ => rfl⟩
    · intro x hx
      simp at hx
    · unfold UniqKeys
      simp
  dsimp only
  unfold Builtin.ObjectAttr.storeInDict
  refine wpAny_bind (wpAny_pure (wpAny_bind (wpAny_nsSet1 (s := { s with heap := (s.heap.push { cls := .type "dict", data := .dict #[] }).update e fun o => { o with dict := some s.heap.objs.size }, toks := s.toks + 1 }) hd0 fun h' hn2 hs2 => ?_)))
  obtain ⟨oD, esD, epD, hoD, hdD, hcD⟩ := hn2.count (PySem.Within.cons (ns := []) name v (fun _ z => absurd rfl z))
  refine wpAny_bind (wpAny_lookBehind hoD (by rw [hdD]; exact pastItsLine_dict (Nat.le_trans hcD (Nat.le_add_left 1 _))) ?_)
  refine wpAny_pure (hq h' _ ?_ hn2 fun b o hb ho => ?_)
  · exact (hs2.2 _ (Ne.symm hne)).trans (Heap.get?_update_self _ hp rfl)
  · have hbs : b ≠ s.heap.objs.size := Nat.ne_of_lt (Heap.lt_size ho)
    refine (hs2.2 _ hbs).trans ?_
    rw [Heap.get?_update_other _ _ (Ne.symm hb)]
    exact Heap.get?_push_of_some _ ho
theorem bg_entry : entryFor table "BaseException.__getattribute__" = some Builtin.«object.__getattribute__» := entryFor_alias (id' := "object.__getattribute__") (by kernel_rfl) (by first | rfl | decide +kernel | (unfold String.splitOn; simp +decide [String.splitOnAux])) (by decide +kernel) (by kernel_rfl)
theorem bg_kind : builtinKind "BaseException.__getattribute__" = some .slot := by kernel_rfl
theorem bg_split : splitId "BaseException.__getattribute__" = some ("BaseException", "__getattribute__") := by kernel_rfl
theorem bg_bind (e : Addr) : bindSpecial (.builtin "BaseException.__getattribute__") (.ref e) = pure (.builtin "BaseException.__getattribute__", [.ref e]) := by first | rfl | kernel_rfl
theorem bg_args (e : Addr) (x : Str) (t : Tok) : argsOk "BaseException.__getattribute__" ⟨[.ref e, .str x t], []⟩ := by unfold argsOk; kernel_rfl
theorem own_get {M : Model} {A : Around} {E : Value → Shared → Prop} {e C dx : Addr} {oe : Obj} {cd : ClassData} {K : W.Frag} {s : Shared} {name : Str} {v : Value} {mA : Str → Option Value} {Q : Option Value → Shared → Prop} (X : K.In s.heap) (hc : W.clsIn K C = some cd) (hdt : cd.hasDict = true) (he : s.heap.get? e = some oe) (hoc : oe.cls = .ref C) {fs : Array Value} (hdat : oe.data = .fields fs) (hod : oe.dict = some dx) (hd : s.heap.Ns1 dx mA) (hv : mA name = some v) (hq : Q (some v) s) :
    wpAny M A (Builtin.ObjectAttr.inOwnDict name (.ref e)) Q E s := by
  unfold Builtin.ObjectAttr.inOwnDict Builtin.ObjectAttr.ownDict
  dsimp only
  refine wpAny_bind ?_
  unfold instanceDict
  refine wpAny_bind (wpAny_loadPart_at he ?_)
  rw [hdat]
  dsimp only
  refine wpAny_bind (wpAny_loadPart_at he ?_)
  rw [hoc]
  dsimp only
  refine wpAny_bind (W.Looks.here (W.looks_clsIn X hc) ?_)
  rw [hdt]
  refine wpAny_ite_false rfl ?_
  rw [hod]
  refine wpAny_pure ?_
  unfold Builtin.ObjectAttr.inDict
  dsimp only
  refine wpAny_nsGet hd.ns ?_
  rw [hv]
  exact hq
theorem exc_get {prog : Program} {w : World} {A : Around} {E : Value → Shared → Prop} {e C dx : Addr} {oe : Obj} {cd : ClassData} {K : W.Frag} {s : Shared} {name : Str} {expr : Bool} {v : Value} {mA : Str → Option Value} {Q : Value → Shared → Prop} (X : K.In s.heap) (XC : XCls K C cd) (he : s.heap.get? e = some oe) (hoc : oe.cls = .ref C) {fs : Array Value} (hdat : oe.data = .fields fs) (hod : oe.dict = some dx) (hd : s.heap.Ns1 dx mA) (hv : mA name = some v)
    (hn : W.findIn K (.ref C) name = some none) (hh : ∀ id, v ≠ .builtin id) (hq : ∀ tk, Q v { s with toks := tk }) :
    wpAny (model prog w) A (getAttr (.ref e) name expr) Q E s := by
  unfold getAttr getAttrBy
  refine wpAny_bind (wpAny_mkText ?_)
  have X1 : K.In ({ s with toks := s.toks + 1 } : Shared).heap := X
  have he1 : ({ s with toks := s.toks + 1 } : Shared).heap.get? e = some oe := he
  refine wpAny_holding ?_
  unfold typeOf
  refine wpAny_bind (wpAny_bind (wpAny_loadPart_at he1 (wpAny_pure ?_)))
  rw [hoc]
  refine wpAny_bind (W.Looks.here (W.looks_findIn X1 XC.ga) ?_)
  dsimp only
  rw [if_neg (by rw [show (Value.builtin "BaseException.__getattribute__" == Value.builtin "object.__getattribute__") = false by decide, Bool.and_false]; decide)]
  unfold getAttrByItsOwn
  refine wpAny_bind ?_
  unfold hookBefore
  rw [if_pos (by rfl)]
  refine W.Looks.here (W.looks_findIn X1 XC.gt) ?_
  unfold callGetattribute
  rw [if_neg (by rw [show onTheHeap (Value.builtin "BaseException.__getattribute__") = false by rfl, Bool.and_false]; decide)]
  repeat wp_step
  refine wpAny_of_eq (bg_bind e) ?_
  dsimp only
  refine wpAny_call ?_
  show codeAny _ _ (.call (.builtin "BaseException.__getattribute__") ⟨[.ref e, .str name s.toks], []⟩) _ _
  refine codeAny_call_builtin_at (b := Builtin.«object.__getattribute__») (Code.quiet_builtin _ (by decide +kernel)) bg_entry ?_
  refine check_slot (id := "BaseException.__getattribute__") (owner := "BaseException") (name := "__getattribute__") (self := .ref e) (rest := [.str name s.toks]) bg_kind bg_split (inst_of X1 XC.cls XC.bex he1 hoc) (bg_args e _ _) ?_
  unfold Builtin.«object.__getattribute__» slotArgs
  dsimp only
  refine wpAny_bind (wpAny_pure ?_)
  dsimp only
  refine wpAny_bind (wpAny_pure ?_)
  unfold typeOf
  refine wpAny_bind (wpAny_bind (wpAny_loadPart_at he1 (wpAny_pure ?_)))
  rw [hoc]
  unfold Builtin.ObjectAttr.find
  refine wpAny_bind (wpAny_bind (W.Looks.here (W.looks_findIn X1 hn) ?_))
  refine wpAny_bind (wpAny_pure (wpAny_bind (wpAny_pure ?_)))
  dsimp only
  unfold Builtin.ObjectAttr.ownThenClass
  refine wpAny_bind ?_
  refine own_get X1 XC.cls XC.dct he1 hoc hdat hod hd hv ?_
  dsimp only
  refine wpAny_bind ?_
  repeat wp_step
  cases v <;> first | exact wpAny_pure (hq _) | exact absurd rfl (hh _)
/-- a refusal has left a frame, and its own dict is the same -/
def LeftD (base : Heap) (l : List Env) (e : Addr) (cls a0 : Value) (dx : Option Addr) (h h' : Heap) : Prop := base.LeftW l e cls a0 h h' ∧ ∃ oe, h'.get? e = some oe ∧ oe.dict = dx
theorem mapFields_dict (f : Array Value → Array Value) (o : Obj) : (Obj.mapFields f o).dict = o.dict := by
  unfold Obj.mapFields
  split <;> rfl
theorem left_of {base h h1 : Heap} {l : List Env} {e : Addr} {oe : Obj} {vs : Array Value} {a0 : Value} {dx : Option Addr} {tb : Obj} {ts : Array Value} (hl : h.FunFrames base l) (he : h.get? e = some oe) (hkb : base.StaysIn h) (hen : base.get? e = none) (hd : oe.data = .fields vs) (hsz : 1 < vs.size) (h0 : vs[0]? = some a0) (hdx : oe.dict = dx)
    (S : Heap.SlotsOnly (List.filterMap (fun x => x.frame) l) h h1) (ht : tb.data = .fields ts) (h3 : 3 < ts.size) :
    LeftD base l e oe.cls a0 dx h (((h1.push tb).update e (Obj.mapFields fun x => x.setIfInBounds 1 (.ref h1.objs.size))).update h1.objs.size (Obj.mapFields fun x => x.setIfInBounds 3 .none)) := by
  have hene : e ∉ List.filterMap (fun x => x.frame) l := fun hm => by
    obtain ⟨_, o, ho, hnf⟩ := hl.mem hm
    rw [he] at ho
    cases ho
    exact hnf vs hd
  have he1 : h1.get? e = some oe := (S.2.1 e hene).trans he
  have he2 := Heap.get?_push_of_some tb he1
  have hTe : h1.objs.size ≠ e := Nat.ne_of_gt (Heap.lt_size he1)
  have hd3 := Obj.data_mapFields hd fun x => x.setIfInBounds 1 (.ref h1.objs.size)
  have he3 := Heap.get?_update_self (Obj.mapFields fun x => x.setIfInBounds 1 (.ref h1.objs.size)) he2 (Obj.isFreed_of_fields hd3)
  have hT2 : (h1.push tb).get? h1.objs.size = some tb := Heap.get?_push_size h1 (Obj.isFreed_of_fields ht)
  have hT3 : ((h1.push tb).update e (Obj.mapFields fun x => x.setIfInBounds 1 (.ref h1.objs.size))).get? h1.objs.size = some tb := (Heap.get?_update_other _ _ (Ne.symm hTe)).trans hT2
  have hdT := Obj.data_mapFields ht fun x => x.setIfInBounds 3 .none
  have hT4 := Heap.get?_update_self (Obj.mapFields fun x => x.setIfInBounds 3 .none) hT3 (Obj.isFreed_of_fields hdT)
  have he4 : (((h1.push tb).update e (Obj.mapFields fun x => x.setIfInBounds 1 (.ref h1.objs.size))).update h1.objs.size (Obj.mapFields fun x => x.setIfInBounds 3 .none)).get? e = some (Obj.mapFields (fun x => x.setIfInBounds 1 (.ref h1.objs.size)) oe) := (Heap.get?_update_other _ _ hTe).trans he3
  have other : ∀ b o, h1.get? b = some o → b ≠ e → (((h1.push tb).update e (Obj.mapFields fun x => x.setIfInBounds 1 (.ref h1.objs.size))).update h1.objs.size (Obj.mapFields fun x => x.setIfInBounds 3 .none)).get? b = some o := fun b o ho hb => by
    have hbT : h1.objs.size ≠ b := Nat.ne_of_gt (Heap.lt_size ho)
    rw [Heap.get?_update_other _ _ hbT, Heap.get?_update_other _ _ (Ne.symm hb)]
    exact Heap.get?_push_of_some _ ho
  have baseF : ∀ b, b ∈ List.filterMap (fun x => x.frame) l → base.get? b = none := fun b hm => (hl.mem hm).1
  refine ⟨⟨fun b o hbo => ?_, ?_, ?_, fun b o ho hnf => ?_⟩, _, he4, (mapFields_dict _ _).trans hdx⟩
  · have hb : b ≠ e := fun z => by
      rw [z, hen] at hbo
      cases hbo
    refine other b o ?_ hb
    rw [S.2.1 b fun hm => by rw [baseF b hm] at hbo; cases hbo]
    exact hkb b o hbo
  · refine Heap.FunFrames.of_keeps (fun b o ho hnf => ?_) (Heap.FunFrames.of_slotsOnly S hl)
    have hb : b ≠ e := fun z => by
      rw [z, he1] at ho
      cases ho
      exact hnf vs hd
    exact ⟨o, other b o ho hb, rfl⟩
  · refine ⟨_, _, h1.objs.size, _, _, he4, ⟨Obj.cls_mapFields _ _, ?_⟩, hd3, ?_, ?_, hTe, hT4, hdT, ?_⟩
    · rw [Array.getElem?_setIfInBounds_ne (by decide)]
      exact h0
    · rw [Array.getElem?_setIfInBounds_self_of_lt hsz]
    · cases hq : base.get? h1.objs.size with
      | none => rfl
      | some o =>
        have := hkb _ _ hq
        have hlt := Heap.lt_size this
        rw [S.1] at hlt
        exact absurd hlt (Nat.lt_irrefl _)
    · rw [Array.getElem?_setIfInBounds_self_of_lt h3]
  · obtain ⟨sl, hsl⟩ := S.2.2 b o ho
    have hb : b ≠ e := fun z => by
      rw [z, he] at ho
      cases ho
      exact hnf vs hd
    exact ⟨sl, other b _ hsl hb⟩
theorem place_len {L : Nat} {pl : List Value} (h : IsPlace pl) (x : Value) : ([x, Value.ref L, Value.none, rawInt (L : Int), Value.none] ++ if pl.isEmpty = true then List.replicate 6 Value.none else pl).toArray.size = 11 := by
  rcases h with rfl | ⟨a, b, c, d, c9, b10, _, rfl⟩ <;> rfl
theorem leave_first {M : Model} {A : Around} {E : Value → Shared → Prop} {s : Shared} {base : Heap} {env : Env} {outer : List Env} {L e : Addr} {oe : Obj} {vs : Array Value} {a0 : Value} {dx : Option Addr} {Q : Unit → Shared → Prop} (hfr : A.frames = some (env :: outer)) (hl : s.heap.FunFrames base (env :: outer)) (hf : env.frame = some L) (he : s.heap.get? e = some oe) (hkb : base.StaysIn s.heap) (hen : base.get? e = none) (hd : oe.data = .fields vs) (h1 : vs[1]? = some .none) (h0 : vs[0]? = some a0) (hdx : oe.dict = dx)
    (h : ∀ h' : Heap, LeftD base (env :: outer) e oe.cls a0 dx s.heap h' → Q () { s with heap := h' }) : wpAny M A (leaving env (.ref e)) Q E s := by
  have hsz : 1 < vs.size := (Array.getElem?_eq_some_iff.mp h1).1
  unfold leaving noteFrame
  simp only [hf]
  refine wpAny_bind (wpAny_bind (wpAny_field he hd h1 ?_))
  rw [if_neg (by decide)]
  refine wpAny_bind (wpAny_frameOf_fun hfr hl hf fun hh S => wpAny_bind (wpAny_entryPlaceOf fun pl hpl => wpAny_bind ?_))
  unfold EntryCells.newEntry newFields
  have hlen : ∀ x : Value, ([x, Value.ref L, Value.none, rawInt (L : Int), Value.none] ++ if pl.isEmpty = true then List.replicate 6 Value.none else pl).toArray.size = 11 := place_len hpl
  refine wpAny_newObj_type ?_ (by show Array.size _ ≤ sizeLine + 2; rw [hlen]; decide)
  have hene : e ∉ List.filterMap (fun x => x.frame) (env :: outer) := fun hm => by
    obtain ⟨_, o, ho, hnf⟩ := hl.mem hm
    rw [he] at ho
    cases ho
    exact hnf vs hd
  have he1 : hh.get? e = some oe := (S.2.1 e hene).trans he
  refine wpAny_setField (Heap.get?_push_of_some _ he1) hd hsz ?_
  unfold setFlight
  have hd3 := Obj.data_mapFields hd fun x => x.setIfInBounds 1 (.ref hh.objs.size)
  refine wpAny_bind (wpAny_field (Heap.get?_update_self (Obj.mapFields fun x => x.setIfInBounds 1 (.ref hh.objs.size)) (Heap.get?_push_of_some _ he1) (Obj.isFreed_of_fields hd3)) hd3 (Array.getElem?_setIfInBounds_self_of_lt hsz) ?_)
  rw [if_pos (by rfl)]
  have hTe : hh.objs.size ≠ e := Nat.ne_of_gt (Heap.lt_size he1)
  refine wpAny_setField ((Heap.get?_update_other _ _ (Ne.symm hTe)).trans (Heap.get?_push_size hh rfl)) rfl ?_ ?_
  · rw [hlen]
    decide
  · exact h _ (left_of hl he hkb hen hd hsz h0 hdx S rfl (by rw [hlen]; decide))
theorem note_next {M : Model} {A : Around} {E : Value → Shared → Prop} {s : Shared} {base : Heap} {env : Env} {outer : List Env} {L e T : Addr} {oe oT : Obj} {vs ts : Array Value} {a0 : Value} {dx : Option Addr} {Q : Unit → Shared → Prop} (hfr : A.frames = some (env :: outer)) (hl : s.heap.FunFrames base (env :: outer)) (hf : env.frame = some L) (he : s.heap.get? e = some oe) (hkb : base.StaysIn s.heap) (hen : base.get? e = none) (hd : oe.data = .fields vs) (h1 : vs[1]? = some (.ref T)) (h0 : vs[0]? = some a0) (hdx : oe.dict = dx)
    (hbT : base.get? T = none) (hTe0 : T ≠ e) (hT : s.heap.get? T = some oT) (hdT : oT.data = .fields ts) (h3 : ts[3]? = some .none)
    (h : ∀ h' : Heap, LeftD base (env :: outer) e oe.cls a0 dx s.heap h' → Q () { s with heap := h' }) : wpAny M A (noteFrame (.ref e) env) (fun _ s' => wpAny M A (setFlight (.ref e) none) Q E s') E s := by
  have hsz : 1 < vs.size := (Array.getElem?_eq_some_iff.mp h1).1
  unfold noteFrame
  simp only [hf]
  refine wpAny_bind (wpAny_field he hd h1 ?_)
  rw [if_pos (by rfl)]
  refine wpAny_bind (wpAny_field hT hdT h3 ?_)
  rw [if_neg (by unfold rawInt; intro z; cases z)]
  refine wpAny_bind (wpAny_setField hT hdT (Array.getElem?_eq_some_iff.mp h3).1 ?_)
  have hdT2 := Obj.data_mapFields hdT fun x => x.setIfInBounds 3 .none
  have keep : ∀ b o, b ≠ T → s.heap.get? b = some o → (s.heap.update T (Obj.mapFields fun x => x.setIfInBounds 3 .none)).get? b = some o := fun b o hb ho => (Heap.get?_update_other _ _ (Ne.symm hb)).trans ho
  have he' := keep e oe (Ne.symm hTe0) he
  have hkb' : base.StaysIn (s.heap.update T (Obj.mapFields fun x => x.setIfInBounds 3 .none)) := fun b o hb => keep b o (fun z => by rw [z, hbT] at hb; cases hb) (hkb b o hb)
  have hl' : (s.heap.update T (Obj.mapFields fun x => x.setIfInBounds 3 .none)).FunFrames base (env :: outer) := Heap.FunFrames.of_keeps (fun b o ho hnf => ⟨o, keep b o (fun z => by
    rw [z, hT] at ho
    cases ho
    exact hnf ts hdT) ho, rfl⟩) hl
  have keepN : ∀ b o, s.heap.get? b = some o → (∀ vs : Array Value, o.data ≠ .fields vs) → (s.heap.update T (Obj.mapFields fun x => x.setIfInBounds 3 .none)).get? b = some o := fun b o ho hnf => keep b o (fun z => by
    rw [z, hT] at ho
    cases ho
    exact hnf ts hdT) ho
  replace he := he'
  replace hkb := hkb'
  replace hl := hl'
  clear he' hkb' hl' keep
  generalize s.heap.update T (Obj.mapFields fun x => x.setIfInBounds 3 .none) = hp at he hkb hl keepN ⊢
  refine wpAny_bind (wpAny_frameOf_fun (s := { s with heap := hp }) hfr hl hf fun hh S => wpAny_bind (wpAny_entryPlaceOf fun pl hpl => wpAny_bind ?_))
  unfold EntryCells.newEntry newFields
  have hlen : ∀ x : Value, ([x, Value.ref L, Value.none, rawInt (L : Int), Value.none] ++ if pl.isEmpty = true then List.replicate 6 Value.none else pl).toArray.size = 11 := place_len hpl
  refine wpAny_newObj_type ?_ (by show Array.size _ ≤ sizeLine + 2; rw [hlen]; decide)
  have hene : e ∉ List.filterMap (fun x => x.frame) (env :: outer) := fun hm => by
    obtain ⟨_, o, ho, hnf⟩ := hl.mem hm
    rw [he] at ho
    cases ho
    exact hnf vs hd
  have he1 : hh.get? e = some oe := (S.2.1 e hene).trans he
  refine wpAny_setField (Heap.get?_push_of_some _ he1) hd hsz ?_
  unfold setFlight
  have hd3 := Obj.data_mapFields hd fun x => x.setIfInBounds 1 (.ref hh.objs.size)
  refine wpAny_bind (wpAny_field (Heap.get?_update_self (Obj.mapFields fun x => x.setIfInBounds 1 (.ref hh.objs.size)) (Heap.get?_push_of_some _ he1) (Obj.isFreed_of_fields hd3)) hd3 (Array.getElem?_setIfInBounds_self_of_lt hsz) ?_)
  rw [if_pos (by rfl)]
  have hTe : hh.objs.size ≠ e := Nat.ne_of_gt (Heap.lt_size he1)
  refine wpAny_setField ((Heap.get?_update_other _ _ (Ne.symm hTe)).trans (Heap.get?_push_size hh rfl)) rfl ?_ ?_
  · rw [hlen]
    decide
  · obtain ⟨⟨l1, l2, l3, l4⟩, l5⟩ := left_of hl he hkb hen hd hsz h0 hdx S (tb := { cls := .type "traceback", data := .fields ([Value.ref T, Value.ref L, Value.none, rawInt (L : Int), Value.none] ++ if pl.isEmpty = true then List.replicate 6 Value.none else pl).toArray }) rfl (by rw [hlen]; decide)
    exact h _ ⟨⟨l1, l2, l3, fun b o ho hnf => l4 b o (keepN b o ho hnf) hnf⟩, l5⟩
theorem leave_next {M : Model} {A : Around} {E : Value → Shared → Prop} {s : Shared} {base : Heap} {env : Env} {outer : List Env} {L e T : Addr} {oe oT : Obj} {vs ts : Array Value} {a0 : Value} {dx : Option Addr} {Q : Unit → Shared → Prop} (hfr : A.frames = some (env :: outer)) (hl : s.heap.FunFrames base (env :: outer)) (hf : env.frame = some L) (he : s.heap.get? e = some oe) (hkb : base.StaysIn s.heap) (hen : base.get? e = none) (hd : oe.data = .fields vs) (h1 : vs[1]? = some (.ref T)) (h0 : vs[0]? = some a0) (hdx : oe.dict = dx)
    (hbT : base.get? T = none) (hTe0 : T ≠ e) (hT : s.heap.get? T = some oT) (hdT : oT.data = .fields ts) (h3 : ts[3]? = some .none)
    (h : ∀ h' : Heap, LeftD base (env :: outer) e oe.cls a0 dx s.heap h' → Q () { s with heap := h' }) : wpAny M A (leaving env (.ref e)) Q E s := wpAny_bind (note_next hfr hl hf he hkb hen hd h1 h0 hdx hbT hTe0 hT hdT h3 h)
/-- the flight is noted again: the refusal and its dict are the same -/
theorem land_again {M : Model} {A : Around} {E : Value → Shared → Prop} {s : Shared} {base : Heap} {l : List Env} {e : Addr} {oe : Obj} {cls a0 : Value} {dx : Option Addr} {Q : Unit → Shared → Prop} (F : base.FlyingW l e cls a0 s.heap) (he : s.heap.get? e = some oe) (hdx : oe.dict = dx)
    (h : ∀ h' : Heap, base.FlyingW l e cls a0 h' → s.heap.UpToSlots h' → h'.get? e = some oe → Q () { s with heap := h' }) : wpAny M A (setFlight (.ref e) none) Q E s := by
  obtain ⟨f1, f2, f3, oe2, vs, T, oT, ts, he2, ⟨hc, h0⟩, hd, h1, hbT, hTe, hT, hdT, h3⟩ := F
  rw [he] at he2
  cases he2
  unfold setFlight
  refine wpAny_bind (wpAny_field he hd h1 ?_)
  rw [if_pos (by rfl)]
  have h3s := (Array.getElem?_eq_some_iff.mp h3).1
  have hdT2 := Obj.data_mapFields hdT fun x => x.setIfInBounds 3 .none
  have hT2 := Heap.get?_update_self (Obj.mapFields fun x => x.setIfInBounds 3 .none) hT (Obj.isFreed_of_fields hdT2)
  have keep : ∀ b o, b ≠ T → s.heap.get? b = some o → (s.heap.update T (Obj.mapFields fun x => x.setIfInBounds 3 .none)).get? b = some o := fun b o hb ho => (Heap.get?_update_other _ _ (Ne.symm hb)).trans ho
  have nT : ∀ b o, s.heap.get? b = some o → (∀ vs : Array Value, o.data ≠ .fields vs) → b ≠ T := fun b o ho hnf z => by
    rw [z, hT] at ho
    cases ho
    exact hnf ts hdT
  have he3 := keep e oe (Ne.symm hTe) he
  refine wpAny_setField hT hdT h3s (h _ ⟨fun b o hb => keep b o (fun z => by rw [z, hbT] at hb; cases hb) (f1 b o hb), f2, Heap.FunFrames.of_keeps (fun b o ho hnf => ⟨o, keep b o (nT b o ho hnf) ho, rfl⟩) f3, oe, vs, T, _, _, he3, ⟨hc, h0⟩, hd, h1, hbT, hTe, hT2, hdT2, ?_⟩ (fun b o ho hnf => ⟨o.slots, keep b o (nT b o ho hnf) ho⟩) he3)
  rw [Array.getElem?_setIfInBounds_self_of_lt h3s]
end PySem
/-! EvExd: refusals that may carry a dict of their own: EvExc's forms with the dict's address. Behind EvExc and EvXi. -/
namespace L2
open PySem PySem.Spec PyProof.Rows
/-- as FlyT, the refusal's own dict known -/
structure FlyD (h0 : Heap) (H : Hp) (a T : Addr) (C : Value) (dx : Option Addr) (h : Heap) : Prop where
  na : h0.get? a = none
  fa : H a = none
  nT : h0.get? T = none
  fT : H T = none
  ob : ∃ oe vs a0 oT ts, h.get? a = some oe ∧ oe.cls = C ∧ oe.dict = dx ∧ oe.data = .fields vs ∧ vs[0]? = some a0 ∧ vs[1]? = some (.ref T) ∧ T ≠ a ∧ h.get? T = some oT ∧ oT.data = .fields ts ∧ ts[3]? = some .none
structure FlyE (h0 : Heap) (H : Hp) (a : Addr) (C : Value) (dx : Option Addr) (h : Heap) : Prop where
  na : h0.get? a = none
  fa : H a = none
  ob : ∃ oe vs a0, h.get? a = some oe ∧ oe.cls = C ∧ oe.dict = dx ∧ oe.data = .fields vs ∧ vs[0]? = some a0 ∧ vs[1]? = some .none
def CXD (P : Program) (w : World) : CXT := fun outer H s E e s' => ∃ (a T : Addr) (C : Value) (dx : Option Addr) (H' : Hp), e = .ref a ∧ s'.os = s.os ∧ AllBare s'.gens ∧ Un (frs outer) [] H H' s.heap s'.heap ∧ HOk P w H' s'.heap ∧
  FlyD s.heap H' a T C dx s'.heap ∧ E C dx H'
def XED (X : Cx) (E : XK) : Value → Shared → Prop := fun e s' => ∃ (a : Addr) (C : Value) (dx : Option Addr) (H' : Hp) (σ : St), e = .ref a ∧ Inv X [] σ H' s' ∧ (FlyE X.s₀.heap H' a C dx s'.heap ∨ ∃ T, FlyD X.s₀.heap H' a T C dx s'.heap) ∧ E C dx H'
def XTD (X : Cx) (E : XK) : Value → Shared → Prop := fun e s' => ∃ (a T : Addr) (C : Value) (dx : Option Addr) (H' : Hp) (σ : St), e = .ref a ∧ Inv X [] σ H' s' ∧ FlyD X.s₀.heap H' a T C dx s'.heap ∧ (∀ p ∈ X.pn, p.1 ≠ a ∧ p.1 ≠ T) ∧ E C dx H'
section
variable {X : Cx} {pins : List (Addr × Obj)} {σ : St} {H H' : Hp} {s s' : Shared}
theorem passTD {E : XK} (hex : X.ex = []) : Passes (CXD X.prog X.w) (X.wish (XTD X E)) E := fun pins σ H s e s' I q => by
  obtain ⟨a, T, C, dx, H', rfl, os, bare, un, hok, fl, qE⟩ := q
  have I0 : Inv X pins σ H s := I.unwish
  refine ⟨a, T, C, dx, H', σ, rfl, (I0.call' os un hok bare (fun b z => absurd z (by simp))).nopins, ⟨I0.new0 hex fl.na, fl.fa, I0.new0 hex fl.nT, fl.fT, fl.ob⟩, fun p hp => ?_, qE⟩
  have e := (I0.pin p (List.mem_append_left _ hp)).1
  exact ⟨fun z => (by rw [z, fl.na] at e; cases e), fun z => (by rw [z, fl.nT] at e; cases e)⟩
theorem Shift.flyD {ts : List Addr} {h' : Heap} {a : Addr} {C a0 : Value} {dx : Option Addr} (I : Inv X pins σ H s) (hex : X.ex = []) (hts : ∀ b ∈ ts, X.s₀.heap.get? b = none ∧ H b = none) (ha : a ∈ ts)
    (hf : h'.FunFrames (PySem.W.hideAll s.heap (ts ++ frs X.stack)) X.stack) (tr : h'.TracedW (PySem.W.hideAll s.heap (ts ++ frs X.stack)) a C a0) (hd : ∃ oe, h'.get? a = some oe ∧ oe.dict = dx) : ∃ T, FlyD X.s₀.heap H a T C dx h' := by
  obtain ⟨T, fl, _⟩ := Shift.fly I hex hts ha hf tr
  obtain ⟨oe, vs, a0, oT, tv, he, r⟩ := fl.ob
  obtain ⟨oe2, he2, hdx⟩ := hd
  rw [he] at he2
  cases he2
  exact ⟨T, fl.na, fl.fa, fl.nT, fl.fT, oe, vs, a0, oT, tv, he, r.1, hdx, r.2⟩
end
section
variable {P : Program} {w : World} {K : PySem.W.Frag} {mg : Str → Option Value} {base : Heap} {N : List Str} {qual : Str} {scope : Scope} {f : Addr} {cd : Value} {A : Around} {outer : List Env} {s : Shared} {H : Hp} {E : XK}
theorem xe_ofD {e : Value} {s' : Shared} (h : XED (cxOf (CXD P w) P w K mg base N qual scope f cd A outer s H E) E e s') : (cxOf (CXD P w) P w K mg base N qual scope f cd A outer s H E).xe e s' := by
  obtain ⟨a, C, dx, H', σ, rfl, I, fl, q⟩ := h
  have fin : ∀ (ts : List Addr) (a0 : Value) (h' : Heap), (∀ b ∈ ts, s.heap.get? b = none ∧ H' b = none) → a ∈ ts →
      LeftD (PySem.W.hideAll s'.heap (ts ++ frs (envOfC qual scope s.heap.objs.size f cd :: outer))) (envOfC qual scope s.heap.objs.size f cd :: outer) a C a0 dx s'.heap h' →
      CXD P w outer H s E (.ref a) { s' with heap := h' } := fun ts a0 h' hts ha ⟨⟨k1, k2, k3, k4⟩, k5⟩ => by
    have S : Shift (cxOf (CXD P w) P w K mg base N qual scope f cd A outer s H E) ts s'.heap h' := ⟨k1, k4⟩
    obtain ⟨T, fT⟩ := Shift.flyD I rfl hts ha k2 k3 k5
    exact ⟨a, T, C, dx, H', rfl, I.os, I.bare, S.un I fun b z => (hts b z).1, S.hok I fun b z => (hts b z).2, fT, q⟩
  have hfr : (A.deeper (envOfC qual scope s.heap.objs.size f cd)).frames = some (envOfC qual scope s.heap.objs.size f cd :: outer) := I.ok.frames
  rcases fl with fl | ⟨T, fl⟩
  · obtain ⟨oe, vs, a0, he, rfl, hdx, hd, h0, h1⟩ := fl.ob
    refine leave_first (base := PySem.W.hideAll s'.heap ([a] ++ frs (envOfC qual scope s.heap.objs.size f cd :: outer))) hfr (fun_hide I [a]) rfl he (hide_stays _ _) (PySem.W.hideAll_none _ (List.mem_append_left _ (by simp))) hd h1 h0 hdx fun h' L => ?_
    exact fin [a] a0 h' (fun b hb => by cases (List.mem_singleton.mp hb); exact ⟨fl.na, fl.fa⟩) (by simp) L
  · obtain ⟨oe, vs, a0, oT, tv, he, rfl, hdx, hd, h0, h1, hTe, hT, hdT, h3⟩ := fl.ob
    refine leave_next (base := PySem.W.hideAll s'.heap ([a, T] ++ frs (envOfC qual scope s.heap.objs.size f cd :: outer))) hfr (fun_hide I [a, T]) rfl he (hide_stays _ _) (PySem.W.hideAll_none _ (List.mem_append_left _ (by simp))) hd h1 h0 hdx (PySem.W.hideAll_none _ (List.mem_append_left _ (by simp))) hTe hT hdT h3 fun h' L => ?_
    refine fin [a, T] a0 h' (fun b hb => ?_) (by simp) L
    rcases List.mem_cons.mp hb with z | z
    · subst z; exact ⟨fl.na, fl.fa⟩
    · cases (List.mem_singleton.mp z); exact ⟨fl.nT, fl.fT⟩
end
/-- a def that may refuse so: its body with the wish XED -/
theorem Fun.okXD {P : Program} {w : World} {K : PySem.W.Frag} {mg : Str → Option Value} {base : Heap} {x qual : Str} {st : Stmt} {f : Addr} {fd : FuncData} {N ps : List Str} {k : Nat} {sp : Sp} (F : Fun K x qual st f fd) (S : FnScope N ps (defScope st))
    (len : ∀ vs H Q E, sp vs H Q E → vs.length = ps.length)
    (hbody : ∀ (cdv : Value) (A : Around) (outer : List Env) (s : Shared) (H : Hp) (vs : List V) (Q : VK) (E : XK), Room k (A.deeper (envOfC qual (defScope st) s.heap.objs.size f cdv)) → sp vs H Q E →
      ∃ t, PSs ((cxOf (CXD P w) P w K mg base N qual (defScope st) f cdv A outer s H E).wish (XED (cxOf (CXD P w) P w K mg base N qual (defScope st) f cdv A outer s H E) E)) (defBody st) t ∧ t { nx := fun _ H' => Q .non H', rt := Q } (start N vs) H) :
    FnOk P w K mg base (CXD P w) (k + 1) f fd ps sp := by
  obtain ⟨oc, od, kV, doc, pm, an, cdv, ct, osl, rfl, lk, hcd⟩ := F.ex
  refine fn_of lk hcd S len fun A outer s H vs Q E hr hsp => ?_
  obtain ⟨t, h, q⟩ := hbody cdv A outer s H vs Q E hr hsp
  refine ⟨t, fun pins s1 σ H1 D I hw => ?_, q⟩
  exact wpAny_mono (h pins s1 σ H1 D (I.wish _) hw) (fun _ _ z => z.unwish) fun e s2 z => xe_ofD z
end L2
/-! EvXin: refusals whose class has its own __init__ with one field: the rules. Behind EvExd. -/
namespace PySem
theorem ns_some {K : W.Frag} {h : Heap} {N : Addr} {m : Str → Option Value} {n : Str} {v : Value} (X : K.In h) (G : h.Ns N m) (e : W.nsIn K N n = some (some v)) : m n = some v := by
  obtain ⟨o, es, ep, ho, hd, _, hf⟩ := G
  unfold W.nsIn at e
  split at e
  · rename_i heq
    have h2 := X _ _ heq
    rw [ho] at h2
    cases h2
    cases hd
    have := hf n
    unfold nsFind findBy at this
    rw [← Array.find?_toList] at this
    rw [← this]
    split at e
    · rename_i y hy
      rw [hy]
      cases e
      rfl
    · split at e <;> cases e
  · cases e
theorem getm_base {prog : Program} {w : World} {A : Around} {E : Value → Shared → Prop} {s : Shared} {K : W.Frag} {M : Addr} {pl : Sem Bool} {b : String} {Q : Value × List Value → Shared → Prop} (X : K.In s.heap) (hsp : W.specialIn K (.ref M) (Str.ofString "__getattribute__") = some (some (.builtin "type.__getattribute__"))) (hr : W.readsIn K M (.type "type") = true)
    (hf : W.findCls K (.ref M) (.type "type") (Str.ofString "__init__") = some (.val (.builtin b))) (hb : (withoutEnding? b "#data").isSome = false) (hq : Q (.builtin b, []) { s with toks := s.toks + 1 }) : wpAny (model prog w) A (getMethod (.ref M) (Str.ofString "__init__") pl) Q E s := by
  unfold getMethod
  refine wpAny_bind (W.Looks.here (W.looks_specialIn X hsp) ?_)
  dsimp only
  rw [if_pos (by decide +kernel)]
  refine wpAny_bind (W.cls_read X hr hf ?_)
  show wpAny _ _ (ret (.builtin b)) _ _ _
  refine wpAny_pure ?_
  unfold handedOut
  dsimp only
  rw [hb, if_neg (by decide)]
  exact wpAny_pure (wpAny_pure hq)
end PySem
namespace PySem.W
open PySem PySem.Calls PyProof.Rows Builtin Builtin.ObjectAttr Builtin.Getset_descriptor
/-- isinstance of a refusal whose class has its own __init__ -/
structure ExcD (K : Frag) (C : Addr) : Prop where
  lk : ∃ nm q N bs bm hdct sn sub ab col dd k0 k1 k2 k3 k5 nw, K.lookup C = some (excClassObj nm q C N bs bm hdct sn sub ab col dd k0 k1 k2 k3 k5 nw)
  ga : findIn K (.ref C) "__getattribute__" = some (some (.builtin "BaseException.__getattribute__"))
  no : findIn K (.ref C) "__getattr__" = some none
  cl : findIn K (.ref C) "__class__" = some (some (.builtin "object.__class__"))
  ob : mroIn K C (.type "object") = some true
  be : mroIn K C (.type "BaseException") = some true
section
variable {prog : Program} {w : World} {A : Around} {E : Value → Shared → Prop} {s : Shared} {K : Frag} {x C D : Addr} {ox : Obj}
set_option maxHeartbeats 400000 in
theorem exc_caD {Q : Option Value → Shared → Prop} (T : ExcD K C) (G : ClsK K) (X : K.In s.heap) (hx : s.heap.get? x = some ox) (hc : ox.cls = .ref C) (h : Q (some (.ref C)) { s with toks := s.toks + 1 }) :
    wpAny (model prog w) A (getAttr? (.ref x) "__class__") Q E s := by
  obtain ⟨hh, g, d, t, os⟩ := s
  have Q0 : Looks (model prog w) hh (typeOf (.ref x)) (.ref C) := hc ▸ (Looks.ld hx).andThen .now
  have Q1 := looks_findIn (M := model prog w) X T.ga
  have Q2 := looks_findIn (M := model prog w) X T.no
  have Q3 := looks_findIn (M := model prog w) X T.cl
  have Q4 := looks_takesIn (M := model prog w) X G.tk
  have Q5 : Looks (model prog w) hh (getOf (some (.builtin "object.__class__"))) (some (.builtin "getset_descriptor.__get__")) := looks_specialIn (M := model prog w) X G.gt
  have Q6 : Looks (model prog w) hh (find (.ref x) (.ref C) "__class__") (.bind (.builtin "getset_descriptor.__get__") (.builtin "object.__class__")) :=
    Q3.andThen (Q5.andThen ((show Looks (model prog w) hh (dataDescriptor? (some (.builtin "object.__class__")) (some (.builtin "getset_descriptor.__get__"))) (some (.builtin "getset_descriptor.__get__", .builtin "object.__class__")) from Q4.andThen .now).andThen (Looks.tag .now)))
  have Q7 : Looks (model prog w) hh (isInstance (.ref x) (.type "BaseException")) true := Q0.andThen (looks_mroIn X T.be)
  have hx2 : (Value.builtin "BaseException.__getattribute__" == Value.builtin "object.__getattribute__") = false := by decide +kernel
  have hx1 : ¬ ((onTheHeap (Value.ref C) && Value.builtin "BaseException.__getattribute__" == Value.builtin "object.__getattribute__") = true) := by rw [hx2, Bool.and_false]; exact Bool.false_ne_true
  unfold getAttr? getAttrBy? getAttrBy
  refine wpAny_bind (wpAny_mkText (wpAny_bind (wpAny_attempt (wpAny_holding (wpAny_bind (Q0.at (wpAny_bind (Q1.at ?_))))))))
  refine wp_if_neg hx1 ?_
  unfold getAttrByItsOwn
  refine wpAny_bind ?_
  show wpAny _ _ (typeLookup (.ref C) "__getattr__") _ _ _
  refine Q2.at ?_
  refine wpAny_bind (wpAny_attempt (wpAny_holding ?_))
  show wpAny _ _ (boundAndCalled (.builtin "BaseException.__getattribute__") (.ref x) _) _ _ _
  unfold boundAndCalled
  refine wpAny_bind (wpAny_of_eq (PySem.F.attr_ValueError.ga.bind _) ?_)
  refine wpAny_call (exc_ga_call Q7 ?_)
  unfold Builtin.«object.__getattribute__»
  refine wpAny_bind (wpAny_of_eq (ga_slot _ _) ?_)
  refine wpAny_bind (wpAny_of_eq (ga_name _ _) ?_)
  refine wpAny_bind (Q0.at (wpAny_bind (Q6.at ?_)))
  show wpAny _ _ (bindTo (.builtin "getset_descriptor.__get__") (.builtin "object.__class__") (.ref x) (.ref C)) _ _ _
  unfold bindTo
  refine wpAny_bind (wpAny_holding (wpAny_call (exc_class_get X hx hc T.ob ?_)))
  refine wpAny_pure ?_
  exact handed_on rfl (wpAny_pure h)
theorem kitx_excD (T : ExcD K C) (G : ClsK K) : KitX K (.ref x) (.ref C) (fun h => ∃ o, h.get? x = some o ∧ o.cls = .ref C) where
  ty := fun _ _ _ ⟨_, hx, hc⟩ => hc ▸ (Looks.ld hx).andThen .now
  it := fun _ _ X _ => by
    obtain ⟨nm, q, N, bs, bm, hdct, sn, sub, ab, col, dd, k0, k1, k2, k3, k5, nw, lk⟩ := T.lk
    have hC := X _ _ lk
    intro A' Q' E' s' k q
    unfold isType loadHead
    exact wpAny_bind (wpAny_loadPart (k _ _ hC) (wpAny_pure q))
  ne := fun h tp dd its n sl X htp => by
    obtain ⟨nm, q, N, bs, bm, hdct, sn, sub, ab, col, dd, k0, k1, k2, k3, k5, nw, lk⟩ := T.lk
    have hC := X _ _ lk
    refine Bool.eq_false_iff.mpr fun q => ?_
    have e : C = tp := Value.ref.inj (beq_iff_eq.mp q)
    subst e
    exact absurd (Value.type.inj (congrArg Obj.cls (Option.some.inj (hC.symm.trans htp)))) (by decide)
  ca := fun X ⟨_, hx, hc⟩ k => exc_caD T G X hx hc k
end
end PySem.W
namespace L2
open PySem PySem.Spec PyProof.Rows
/-- a refusal's object: its class, its own dict -/
def XN (e C : Addr) (dx : Option Addr) : HO := .ext fun h => ∃ t, h.get? e = some ⟨.ref C, dx, .fields #[.ref t, .none, .none, .none, .bool false, .none], #[]⟩
theorem XN.mk {P : Program} {w : World} {H : Hp} {h : Heap} {e C t : Addr} {dx : Option Addr} (he : h.get? e = some ⟨.ref C, dx, .fields #[.ref t, .none, .none, .none, .bool false, .none], #[]⟩) : ObjOk P w H h e (XN e C dx) := ⟨⟨t, he⟩, ⟨_, he⟩, fun _ _ ⟨t', e1⟩ k => ⟨t', k _ e1⟩⟩
theorem XN.at {P : Program} {w : World} {H : Hp} {h : Heap} {e C : Addr} {dx : Option Addr} (ok : HOk P w H h) (q : H e = some (XN e C dx)) : ∃ t, h.get? e = some ⟨.ref C, dx, .fields #[.ref t, .none, .none, .none, .bool false, .none], #[]⟩ := (ok e _ q).1
/-- what the fragment tells of a class of refusals: its own __init__, its field -/
structure OwnX (K : PySem.W.Frag) (C fI : Addr) (fl : Str) : Prop where
  ex : ∃ nm q N bs bm hdct sn sub ab col dd k0 k1 k2 k3 k5, K.lookup C = some (excClassObj nm q C N bs bm hdct sn sub ab col dd k0 k1 k2 k3 k5 newVE) ∧ PySem.W.tailIn K bmVE bm = true ∧ PySem.W.nsOkIn K N = true ∧ PySem.W.nsIn K N "__init__" = some (some (.ref fI))
  fn : PySem.W.isFn K (.ref fI) = true
  xc : ∃ cd, XCls K C cd
  fd : PySem.W.findIn K (.ref C) fl = some none
  kp : PySem.W.keepIn K (.ref C) = true
/-- .. of the base that is named: its __init__ -/
structure BaseX (K : PySem.W.Frag) (M : Addr) : Prop where
  sp : PySem.W.specialIn K (.ref M) (Str.ofString "__getattribute__") = some (some (.builtin "type.__getattribute__"))
  rd : PySem.W.readsIn K M (.type "type") = true
  fc : PySem.W.findCls K (.ref M) (.type "type") (Str.ofString "__init__") = some (.val (.builtin "ValueError.__init__"))
section
variable {X : Cx} {pins : List (Addr × Obj)} {σ : St} {H : Hp} {s : Shared}
theorem OwnX.get {K : PySem.W.Frag} {C fI : Addr} {fl : Str} {h : Heap} (O : OwnX K C fI fl) (I : K.In h) : ∃ nm q N bs bm hdct sn sub ab col dd k0 k1 k2 k3 k5 mN, h.get? C = some (excClassObj nm q C N bs bm hdct sn sub ab col dd k0 k1 k2 k3 k5 newVE) ∧ OwnTail h bmVE bm ∧ h.Ns N mN ∧ mN "__init__" = some (.ref fI) := by
  obtain ⟨nm, q, N, bs, bm, hdct, sn, sub, ab, col, dd, k0, k1, k2, k3, k5, l, t, n, i⟩ := O.ex
  have G : h.Ns N (h.nsMap N) := .of_isNs (PySem.W.isNs_of_in I n)
  exact ⟨nm, q, N, bs, bm, hdct, sn, sub, ab, col, dd, k0, k1, k2, k3, k5, _, I _ _ l, PySem.W.tail_of_in I t, G, ns_some I G i⟩
/-! ### {x!r} -/
theorem pe_frep {e : Expr} {te : TE} {pos : Pos} (he : PE X e te) : PE X (.FormattedValue e 114 none pos) (fun σ H Q => te σ H fun v H1 => (∃ i, v = .int i ∧ i.natAbs.log2 < 1920 ∧ (Str.ofString (toString i)).length ≤ sizeLine ∧ Q (.str (toString i)) H1) ∨ (v = .non ∧ Q (.str "None") H1)) := fun pins s σ H Q I hw => by
  refine wpAny_FormattedValue_repr (wpAny_mono (he pins s σ H _ I hw) (fun u s1 q => ?_) fun _ _ z => z)
  obtain ⟨v, H1, I1, r, q⟩ := q
  rcases q with ⟨i, rfl, hi, hl, q⟩ | ⟨rfl, q⟩
  · obtain ⟨t, rfl⟩ := r
    refine pyReprObj_int hi (formatField_str (fun t' tk => ⟨.str (toString i), H1, I1.tok _, ⟨_, rfl⟩, q⟩) hl)
  · cases r
    exact pyReprObj_none (formatField_str (fun t' tk => ⟨.str "None", H1, I1.tok _, ⟨_, rfl⟩, q⟩) (by decide))
/-! ### M.__init__(self, text) -/
def tXInit (K : PySem.W.Frag) (t : TA) : TE := fun σ H Q => t σ H fun vs H1 => ∃ (e C fI : Addr) (fl : Str) (dx : Option Addr) (v : V), vs = [.ref e, v] ∧ H1 e = some (XN e C dx) ∧ OwnX K C fI fl ∧ Q .non H1
theorem pe_xinit {M : Addr} {x : Str} {np apos pos : Pos} {a1 : Expr} {es : List Expr} {t : TA} (B : BaseX X.K M) (hg : Gl X x) (hm : X.mg x = some (.ref M)) (ha : PA X (a1 :: es) t) (hdb : (x == ("__debug__" : Str)) = false := by decide)
    (he : starEach (a1 :: es) X.env = (false, eval a1 X.env) :: starEach es X.env := by rfl) (hpl : (backTo pos (starEach es X.env)).any (·.1) = false := by rfl) {pl : Sem Bool}
    (ht : eval (.Call (.Attribute (.Name x np) (Str.ofString "__init__") apos) (a1 :: es) [] pos) X.env = (do
      let ov ← eval (.Name x np) X.env; standAt apos.atName; let (f, first) ← holding [ov] (getMethod ov (Str.ofString "__init__") pl)
      callWith pos f first (backTo pos (starEach (a1 :: es) X.env)) (backToKw pos (keywordEach [] X.env))) := by rfl) :
    PE X (.Call (.Attribute (.Name x np) (Str.ofString "__init__") apos) (a1 :: es) [] pos) (tXInit X.K t) := by
  intro pins s σ H Q I h
  refine PySem.W.methodCall_KW (pl := pl) (ld_glob I hg hm ?_ hdb) ht
  refine getm_base I.kIn B.sp B.rd B.fc (by decide +kernel) ?_
  have I1 : Inv X pins σ H { s with toks := s.toks + 1 } := I.tok _
  refine PyProof.Rows.callWith_method1 (thn (ha pos pins _ σ H _ I1 h) fun us s2 ⟨vs, H2, I2, r, q⟩ => ?_) he hpl
  obtain ⟨e, C, fI, fl, dx, v, rfl, hH, O, q⟩ := q
  obtain ⟨u, u2, rfl, r1, r2⟩ := vals2 r
  cases (show u = Value.ref e from r1)
  obtain ⟨t0, he0⟩ := XN.at I2.hok hH
  obtain ⟨nm, qn, N, bs, bm, hdct, sn, sub, ab, col, dd, k0, k1, k2, k3, k5, mN, hC, T, hN, hi⟩ := O.get I2.kIn
  obtain ⟨hp, g, d, tk, os⟩ := s2
  refine base_init PySem.F.excBase_ValueError T hC he0 fun h' he' kp => ?_
  have I3 := Inv.write (x := e) (e := e) (o := XN e C dx) (h' := h') (t' := tk) I2 (by rw [hH]; trivial) (.inl rfl) kp ⟨_, he'⟩ (XN.mk he')
  have eq : upd H2 e (XN e C dx) = H2 := by
    funext b
    unfold upd
    split
    · rename_i hb
      rw [hb, hH]
    · rfl
  rw [eq] at I3
  exact ⟨.non, H2, I3, rfl, q⟩
/-! ### self.f = v -/
def tXSet (K : PySem.W.Frag) (ta tv : TE) (f : Str) : TS := fun D σ H => tv σ H fun y H1 => ta σ H1 fun x H2 => ∃ e C fI, x = .ref e ∧ H2 e = some (XN e C none) ∧ OwnX K C fI f ∧ ∀ dx, H2 dx = none → D.nx σ (upd (upd H2 dx (.xd [(f, y)])) e (XN e C (some dx)))
theorem ps_xset {o value : Expr} {f : Str} {pos' pos : Pos} {ta tv : TE} (ha : PE X o ta) (hv : PE X value tv) (hs : swapsWith value (some (.Attribute o f pos')) pos.line X.env = pure false) : PS X (.Assign [.Attribute o f pos'] value pos) (tXSet X.K ta tv f) := by
  intro pins s σ H D I h
  refine plainObj_wpAny_Assign_Attribute (thn (hv pins s σ H _ I h) fun u s1 ⟨y, H1, I1, ry, q⟩ => thn (ha pins s1 σ H1 _ I1 q) fun ov s2 ⟨x, H2, I2, rx, e, C, fI, ex, hH, O, q2⟩ => ?_) hs
  subst ex
  obtain rfl : ov = Value.ref e := rx
  obtain ⟨t0, he0⟩ := XN.at I2.hok hH
  obtain ⟨cd, XC⟩ := O.xc
  refine exc_set I2.kIn XC he0 O.fd fun h' tk he' hns kp => ?_
  have hlt : e < s2.heap.objs.size := Heap.lt_size he0
  have hne : e ≠ s2.heap.objs.size := Nat.ne_of_lt hlt
  have hd0 : H2 s2.heap.objs.size = none := I2.hok.fresh (Nat.le_refl _)
  have q3 := q2 _ hd0
  have hold := Heap.get?_update_self (fun _ : Obj => ⟨.ref C, none, .fields #[.ref t0, .none, .none, .none, .bool false, .none], #[]⟩) he' rfl
  have I3 : Inv X pins σ (upd H2 s2.heap.objs.size (.xd [(f, y)])) { s2 with heap := h'.update e fun _ => ⟨.ref C, none, .fields #[.ref t0, .none, .none, .none, .bool false, .none], #[]⟩, toks := tk } := by
    refine I2.laid (fun b o ho => ?_) (Nat.le_refl _) ⟨_, hns.at fun o ho => ?_, fun g => ?_⟩
    · by_cases hb : b = e
      · rw [hb] at ho ⊢
        rw [hold, ← he0, ho]
      · rw [Heap.get?_update_other _ _ (Ne.symm hb)]
        exact kp b o hb ho
    · rw [Heap.get?_update_other _ _ hne]
      exact ho
    · show RelO (List.lookup g [(f, y)]) (if g = f then some u else none)
      by_cases hg : g = f
      · have hb : (g == f) = true := beq_iff_eq.mpr hg
        rw [if_pos hg]
        simp only [List.lookup, hb]
        exact ry
      · have hb : (g == f) = false := beq_eq_false_iff_ne.mpr hg
        rw [if_neg hg]
        simp only [List.lookup, hb]
        trivial
  have hH3 : upd H2 s2.heap.objs.size (.xd [(f, y)]) e = some (XN e C none) := by rw [upd_ne hne]; exact hH
  have I4 := Inv.write (x := e) (e := e) (o := XN e C (some s2.heap.objs.size)) (h' := h') (t' := tk) I3 (by rw [hH3]; trivial) (.inl rfl) (fun b o hb ho => by
    have ho' : (h'.update e fun _ => ⟨.ref C, none, .fields #[.ref t0, .none, .none, .none, .bool false, .none], #[]⟩).get? b = some o := ho
    rw [Heap.get?_update_other _ _ (Ne.symm hb)] at ho'
    exact ho') ⟨_, he'⟩ (XN.mk he')
  exact ⟨σ, _, I4, q3⟩
/-! ### the making, the raise -/
def unt (H : Hp) (x : Addr) : Hp := fun b => if b = x then none else H b
theorem unt_ne {H : Hp} {x b : Addr} (h : b ≠ x) : unt H x b = H b := by unfold unt; rw [if_neg h]
theorem unt_same {H : Hp} {x : Addr} : unt H x x = none := by unfold unt; rw [if_pos rfl]
theorem Inv.untrack {x C : Addr} {dx : Option Addr} (I : Inv X pins σ H s) (hx : H x = some (XN x C dx)) : Inv X pins σ (unt H x) s := by
  have nn : ∀ b, H b = none → unt H x b = none := fun b h => by
    unfold unt
    split
    · rfl
    · exact h
  have ne : ∀ b o, H b = some o → o ≠ XN x C dx → unt H x b = some o := fun b o h n => by
    rw [unt_ne]
    · exact h
    · intro z
      rw [z, hx] at h
      exact n (Option.some.inj h).symm
  have nX : ∀ o, o = XN x C dx → ∃ φ, o = .ext φ := fun o h => ⟨_, h⟩
  refine ⟨I.ok, I.os, I.bare, ⟨I.base.keep, I.base.slot, fun b o e n hx' => nn b (I.base.free b o e n hx'), I.base.there, fun b xs e => ne b _ (I.base.tups b xs e) (fun z => ?_), fun b o u e => ne b _ (I.base.frzs b o u e) (fun z => ?_), fun b ps e => ?_⟩, I.loc, I.cell, nn _ I.free, fun y c e => nn _ (I.freeC y c e), fun p hp => ?_, fun a o e => ?_, I.len⟩
  · cases z
  · cases z
  · obtain ⟨more, q⟩ := I.base.tbls b ps e
    exact ⟨more, ne b _ q (fun z => by cases z)⟩
  · obtain ⟨h1, h2, h3⟩ := I.pin p hp
    exact ⟨h1, nn _ h2, h3⟩
  · have hax : a ≠ x := fun z => by
      rw [z, unt_same] at e
      cases e
    rw [unt_ne hax] at e
    exact (I.hok a o e).stay (fun b u _ q => q) (fun b q => ne b _ q (fun z => by cases z)) fun b xs q => ne b _ q (fun z => by cases z)
def tRaiseX (C : Addr) (sp : Sp) (dvs : List V) (E : XK) (t : TA) : TS := fun _ σ H => t σ H fun vs H1 => vs.length ≤ sizeLine ∧ ∀ x, H1 x = none → sp (.ref x :: (vs ++ dvs)) (upd H1 x (XN x C none)) (fun v H2 => v = .non ∧ ∃ dx, H2 x = some (XN x C (some dx)) ∧ E (.ref C) (some dx) (unt H2 x)) E0
theorem ps_raiseX {E : XK} {CX : CXT} {k : Nat} {x fl : Str} {C f : Addr} {fd : FuncData} {ps : List Str} {sp : Sp} {ds : List Value} {dvs : List V} {np cpos pos : Pos} {e : Expr} {es : List Expr} {t : TA} (O : OwnX X.K C f fl) (F : FnOk X.prog X.w X.K X.mg X.base CX k f fd ps sp) (hr : Room (k + 1) X.A) (hg : Gl X x) (hm : X.mg x = some (.ref C)) (hb : Binds X.K fd ps ds) (hd : Vals dvs ds) (hc : X.calm = true) (hex : X.ex = []) (hx : Passes CX (X.wish (XED X E)) E0)
    (ha : PA (X.wish (XED X E)) (e :: es) t) (hdb : (x == ("__debug__" : Str)) = false := by decide) (he : starEach (e :: es) X.env = (false, eval e X.env) :: starEach es X.env := by rfl) (hpl : (backTo cpos (starEach es X.env)).any (·.1) = false := by rfl) :
    PS (X.wish (XED X E)) (.Raise (some (.Call (.Name x np) (e :: es) [] cpos)) none pos) (tRaiseX C sp dvs E t) := by
  intro pins s σ H D I h
  obtain ⟨nm, q, N, bs, bm, hdct, sn, sub, ab, col, dd, k0, k1, k2, k3, k5, lk, tl, nk, ik⟩ := O.ex
  have T0 := PySem.W.tail_of_in I.mod.kin tl
  rw [arm_exec_Raise]
  refine wpAny_bind (wpAny_standAt ?_)
  show wpAny _ _ (raiseStmt _ (some _) none) _ _ _
  refine raise_own (C := C) (nm := nm) (q := q) (N := N) (bs := bs) (bm := bm) (hdct := hdct) (sn := sn) (sub := sub) (ab := ab) (col := col) (dd := dd) (k0 := k0) (k1 := k1) (k2 := k2) (k3 := k3) (k5 := k5) (newId := newVE) (T0.hasType PySem.F.excBase_ValueError.hasBase) (I.ok.hd hc) ?_
  refine wpAny_bind ?_
  show wpAny _ _ (eval (.Call (.Name x np) (e :: es) [] cpos) X.env) _ _ _
  refine wpAny_Call_Name_kw (ld_glob I hg hm ?_ hdb)
  refine PySem.W.callWith_K (h₀ := X.base) I.ok.mod.kin O.kp (thn (ha cpos pins s σ H _ I h) fun us s1 ⟨vs, H1, I1, r, hz, q1⟩ => ⟨I1.kIn, ?_⟩) he hpl
  have I1' : Inv X pins σ H1 s1 := I1.unwish
  have hxn : H1 (s1.heap.objs.size + 1) = none := I1.hok.fresh (Nat.le_succ _)
  have q2 := q1 _ hxn
  have na : X.s₀.heap.get? (s1.heap.objs.size + 1) = none := I1'.new0 hex (Heap.get?_none_of_le (Nat.le_succ _))
  obtain ⟨hh, g, d, tk, os⟩ := s1
  have G : hh.Ns N (hh.nsMap N) := .of_isNs (PySem.W.isNs_of_in I1.kIn nk)
  refine call_exc_own PySem.F.excBase_ValueError (by decide) PySem.F.excBase_ValueError (PySem.W.tail_of_in I1.kIn tl) (I1.kIn _ _ lk) G (ns_some I1.kIn G ik) (by rw [List.nil_append, ← r.length]; exact hz) ?_
  have hsz : (hh.push (tupObj ([] ++ us))).objs.size = hh.objs.size + 1 := Heap.size_push _ _
  have hget : ((hh.push (tupObj ([] ++ us))).push (excObj C hh.objs.size)).get? (hh.objs.size + 1) = some (excObj C hh.objs.size) := Heap.get?_push_at (by rw [hsz]) rfl
  have Ia : Inv (X.wish (XED X E)) pins σ H1 ⟨hh.push (tupObj ([] ++ us)), g, d, tk, os⟩ := I1.kept (t' := tk) fun b o q => Heap.get?_push_of_some _ q
  have I2 : Inv (X.wish (XED X E)) pins σ (upd H1 (hh.objs.size + 1) (XN (hh.objs.size + 1) C none)) ⟨(hh.push (tupObj ([] ++ us))).push (excObj C hh.objs.size), g, d, tk, os⟩ := Ia.laid (t' := tk) (fun b o q => Heap.get?_push_of_some _ q) (Nat.le_of_eq hsz) (XN.mk hget)
  refine PySem.W.Looks.here (s := ⟨(hh.push (tupObj ([] ++ us))).push (excObj C hh.objs.size), g, d, tk, os⟩) (PySem.W.bind_fn I2.kIn _ (beq_iff_eq.mp O.fn)) ?_
  have r2 : Vals (V.ref (hh.objs.size + 1) :: (vs ++ dvs)) (Value.ref (hh.objs.size + 1) :: (us ++ ds)) := .cons rfl (r.append hd)
  have hl : (Value.ref (hh.objs.size + 1) :: us ++ ds).length = ps.length := by
    have e := r2.length
    rw [F.len _ _ _ _ q2] at e
    exact e.symm
  refine wpAny_call (codeAny_mono (F.run _ X.stack _ _ ⟨Value.ref (hh.objs.size + 1) :: us, []⟩ (Value.ref (hh.objs.size + 1) :: (us ++ ds)) _ _ E0 (hr.make C us []) (I2.env0.make C us []) (hb _ (Value.ref (hh.objs.size + 1) :: us) I2.kIn hl) r2 q2) fun r s' hq' => ?_)
  cases r with
  | error e => exact hx pins σ _ _ e s' I2 hq'
  | ok fl =>
    cases fl with
    | ret u =>
      obtain ⟨v, H', I3, rv, ev, dx, hx3, qE⟩ := I2.after hq'
      subst ev
      obtain ⟨t3, he3⟩ := XN.at I3.hok hx3
      refine ⟨rv, wpAny_bind (wpAny_standAt (wpAny_pure ⟨_, t3, some dx, rfl, I3.kIn _ _ lk, he3, ?_⟩))⟩
      have I3' : Inv X pins σ H' s' := I3.unwish
      exact ⟨_, .ref C, some dx, unt H' (hh.objs.size + 1), σ, rfl, (I3'.untrack hx3).nopins, .inl ⟨na, unt_same, _, _, _, he3, rfl, rfl, rfl, rfl, rfl⟩, qE⟩
    | next => exact False.elim hq'
    | brk => exact False.elim hq'
    | cont => exact False.elim hq'
end
/-! ### try, one clause with a name; the refusal's dict known -/
/-- a refusal that is known by its class and its own dict -/
def XD (a C : Addr) (dx : Option Addr) : HO := .ext fun h => ∃ o vs, h.get? a = some o ∧ o.cls = .ref C ∧ o.dict = dx ∧ o.data = .fields vs
theorem XD.at {P : Program} {w : World} {H : Hp} {h : Heap} {a C : Addr} {dx : Option Addr} (ok : HOk P w H h) (e : H a = some (XD a C dx)) : ∃ o vs, h.get? a = some o ∧ o.cls = .ref C ∧ o.dict = dx ∧ o.data = .fields vs := (ok a _ e).1
theorem call_isinstD {X : Cx} (G : PySem.W.ClsK X.K) : CallR X (.builtin "isinstance") (fun xs H Q => ∃ a C dx c b, xs = [.ref a, c] ∧ H a = some (XD a C dx) ∧ PySem.W.ExcD X.K C ∧ (∀ u, RelV c u → PySem.W.kitOne X.K (.ref C) u = some b) ∧ Q (.bl b) H) := by
  intro pins s σ H xs us Q I r h
  obtain ⟨a, C, dx, c, b, rfl, e, T, k, q⟩ := h
  obtain ⟨u, w', rfl, r1, r2⟩ := vals2 r
  cases (show u = Value.ref a from r1)
  obtain ⟨o, _, z1, z2, _⟩ := XD.at I.hok e
  exact PySem.W.kia_one (PySem.W.kitx_excD T G) I.kIn ⟨o, z1, z2⟩ (k _ r2) (fun z => nomatch z) fun tk => ⟨.bl b, H, I.tok tk, rfl, q⟩
theorem call_isinstDT {X : Cx} (G : PySem.W.ClsK X.K) : CallR X (.builtin "isinstance") (fun xs H Q => ∃ a C dx p ys b, xs = [.ref a, .ref p] ∧ H a = some (XD a C dx) ∧ PySem.W.ExcD X.K C ∧ H p = some (.tup ys) ∧ (∀ us, Vals ys us → PySem.W.kitAny X.K (.ref C) us = some b) ∧ Q (.bl b) H) := by
  intro pins s σ H xs us Q I r h
  obtain ⟨a, C, dx, p, ys, b, rfl, e, T, hp, k, q⟩ := h
  obtain ⟨u, w', rfl, r1, r2⟩ := vals2 r
  cases (show u = Value.ref a from r1)
  cases (show w' = Value.ref p from r2)
  obtain ⟨_, its, rv, o, ho, hc, n, hd⟩ := (show ObjOk X.prog X.w H s.heap p (.tup ys) from I.hok p _ hp)
  obtain ⟨oc, od, oda, osl⟩ := o
  dsimp only at hc hd
  subst hc hd
  obtain ⟨oe, _, z1, z2, _⟩ := XD.at I.hok e
  exact PySem.W.kia_tup (PySem.W.kitx_excD T G) I.kIn ⟨oe, z1, z2⟩ ho (k _ rv) (fun z => nomatch z) fun tk => ⟨.bl b, H, I.tok tk, rfl, q⟩
/-- e.f, e a refusal -/
def tXFld (K : PySem.W.Frag) (ta : TE) (f : Str) : TE := fun σ H Q => ta σ H fun x H1 => ∃ a C fI dx fs v, x = .ref a ∧ H1 a = some (XD a C (some dx)) ∧ H1 dx = some (.xd fs) ∧ OwnX K C fI f ∧ fs.lookup f = some v ∧ ((∃ i, v = .int i) ∨ v = .non) ∧ Q v H1
theorem pe_xfld {X : Cx} {e : Expr} {f : Str} {pos : Pos} {ta : TE} (he : PE X e ta) (hb : attributeBase e f X.env (eval e X.env) = eval e X.env) : PE X (.Attribute e f pos) (tXFld X.K ta f) := by
  intro pins s σ H Q I h
  refine attr_of hb (thn (he pins s σ H _ I h) fun u s1 ⟨x, H1, I1, rx, a, C, fI, dx, fs, v, ex, ea, ed, O, l, hv, q⟩ => ?_)
  subst ex
  obtain rfl : u = Value.ref a := rx
  obtain ⟨o, vs, z1, z2, z3, z4⟩ := XD.at I1.hok ea
  obtain ⟨mA, hns, hrel⟩ := (show ObjOk X.prog X.w H1 s1.heap dx (.xd fs) from I1.hok dx _ ed)
  obtain ⟨cd, XC⟩ := O.xc
  have hr := hrel f
  rw [l] at hr
  obtain ⟨y, ey, ry⟩ : ∃ y, mA f = some y ∧ RelV v y := by
    cases hm : mA f with
    | none => rw [hm] at hr; exact False.elim hr
    | some y => rw [hm] at hr; exact ⟨y, rfl, hr⟩
  refine exc_get I1.kIn XC z1 z2 z4 z3 hns ey O.fd ?_ fun tk => ⟨v, H1, I1.tok _, ry, q⟩
  intro id z
  rcases hv with ⟨i, rfl⟩ | rfl
  · obtain ⟨t, ht⟩ := ry
    rw [ht] at z
    cases z
  · rw [show y = Value.none from ry] at z
    cases z
theorem up_trans {h1 h2 h3 : Heap} (a : ∀ (b : Addr) (o : Obj), h1.get? b = some o → (∀ vs : Array Value, o.data ≠ .fields vs) → ∃ sl, h2.get? b = some { o with slots := sl }) (c : h2.UpToSlots h3) : h1.UpToSlots h3 := fun b o ho hnf => by
  obtain ⟨sl, e⟩ := a b o ho hnf
  obtain ⟨sl2, e2⟩ := c b _ e hnf
  exact ⟨sl2, e2⟩
def EHD (K : PySem.W.Frag) (M : Addr) (n i : Nat) (th : TS) (D : Ends) : XK := fun C dx H => ∃ c, C = .ref c ∧ PySem.W.mroIn K c (.ref M) = some true ∧ ∀ a, H a = none → th (D.gone i) ((List.replicate n none).set i (some (.ref a))) (upd H a (XD a c dx))
def tTryD (K : PySem.W.Frag) (M : Addr) (n i : Nat) (tb : XK → TS) (th : TS) : TS := fun D σ H => tb (EHD K M n i th D) D σ H
theorem ps_tryD {X : Cx} {body : List Stmt} {tb : XK → TS} {th : TS} {x n : Str} {M : Addr} {i : Nat} {b0 : Stmt} {suite : List Stmt} {np hpos pos : Pos} (hex : X.ex = []) (hst : X.stack = X.env :: X.outer) (hfr : X.env.frame = some X.env.locals)
    (hb : ∀ (pn : List (Addr × Obj)) (E : XK), PSs ((X.pinned pn).wish (XTD (X.pinned pn) E)) body (tb E)) (hg : Gl X x) (hm : X.mg x = some (.ref M)) (TM : PySem.W.ExcK X.K M) (hN : X.N.Nodup) (hi : X.N[i]? = some n) (hl : X.env.scope.names.lookup n = some .local)
    (hh : ∀ a, PSs (X.inH a) (b0 :: suite) th) (hdb : (x == ("__debug__" : Str)) = false := by decide) :
    PS X (.Try body [.ExceptHandler (some (.Name x np)) (some n) (b0 :: suite) hpos] [] [] pos) (tTryD X.K M X.N.length i tb th) := by
  intro pins s σ H D I h
  have okX := I.ok
  refine wpAny_Try_except (wpAny_mono (hb (X.pn ++ pins) (EHD X.K M X.N.length i th D) [] s σ H D (I.toPn.wish _) h) (fun f s1 q => ?_) fun e s1 q => ?_)
  · have back : ∀ {σ' : St} {H' : Hp}, Inv ((X.pinned (X.pn ++ pins)).wish (XTD (X.pinned (X.pn ++ pins)) (EHD X.K M X.N.length i th D))) [] σ' H' s1 → Inv X pins σ' H' s1 := fun J => Inv.ofPn okX J.unwish
    cases f with
    | next =>
      obtain ⟨σ', H', J, z⟩ := q
      exact wpAny_execs_nil ⟨σ', H', back J, z⟩
    | brk =>
      obtain ⟨σ', H', J, z⟩ := q
      exact ⟨σ', H', back J, z⟩
    | cont =>
      obtain ⟨σ', H', J, z⟩ := q
      exact ⟨σ', H', back J, z⟩
    | ret u =>
      obtain ⟨v, σ', H', J, r, z⟩ := q
      exact ⟨v, σ', H', back J, r, z⟩
  · obtain ⟨a, T, C, dx, H1, σ1, rfl, J0, fl, hpn, c, rfl, hmro, hth⟩ := q
    have J : Inv X pins σ1 H1 s1 := Inv.ofPn okX J0
    have hpn' : ∀ p ∈ X.pn ++ pins, p.1 ≠ a ∧ p.1 ≠ T := hpn
    have hfrs : X.A.frames = some (X.env :: X.outer) := by rw [okX.frames, hst]
    have ne1 : ∀ p ∈ X.pn ++ pins, p.1 ∉ frs X.stack := fun p hp z => by
      obtain ⟨_, _, ne, nf, _⟩ := J.pin p hp
      exact (List.mem_cons.mp (J.stkSub p.1 z)).elim ne nf
    obtain ⟨oe, vs, a0, oT, tv, he, hc, hdx, hd, h0, h1, hTe, hT, hdT, h3⟩ := fl.ob
    have hts : ∀ b ∈ [a, T], X.s₀.heap.get? b = none ∧ H1 b = none ∧ ∀ p ∈ X.pn ++ pins, p.1 ≠ b := fun b hb => by
      rcases List.mem_cons.mp hb with z | z
      · subst z; exact ⟨fl.na, fl.fa, fun p hp => (hpn' p hp).1⟩
      · cases (List.mem_singleton.mp z); exact ⟨fl.nT, fl.fT, fun p hp => (hpn' p hp).2⟩
    refine note_next (base := PySem.W.hideAll s1.heap ([a, T] ++ frs X.stack)) hfrs (by rw [← hst]; exact fun_hide J [a, T]) hfr he (hide_stays _ _) (PySem.W.hideAll_none _ (List.mem_append_left _ (by simp))) hd h1 h0 hdx (PySem.W.hideAll_none _ (List.mem_append_left _ (by simp))) hTe hT hdT h3 fun h5 ⟨⟨k1, k2, k3, k4⟩, oe5, ge5, gd5⟩ => ?_
    have fly5 : Heap.FlyingW (PySem.W.hideAll s1.heap ([a, T] ++ frs X.stack)) (X.env :: X.outer) a (.ref c) a0 h5 := ⟨k1, PySem.W.hideAll_none _ (List.mem_append_left _ (by simp)), k2, by rw [← hc]; exact k3⟩
    have S5 : Shift X [a, T] s1.heap h5 := ⟨fly5.1, k4⟩
    have J5 : Inv X pins σ1 H1 { s1 with heap := h5 } := S5.inv (tk := s1.toks) J hts
    obtain ⟨o5, g5, c5⟩ := fly5.there
    refine wpAny_handleBy_cons (codeAny_handlers_test (ld_glob (X := X.inH a) (J5.inH a) hg hm ?_ hdb)) (by intro z; cases z)
    refine PySem.W.exc_matches J5.kIn g5 c5 TM hmro (codeAny_handlers_suite_as ?_)
    refine land_again fly5 ge5 gd5 fun h6 fly6 up6 ge6 => ?_
    have S6 : Shift X [a, T] s1.heap h6 := ⟨fly6.1, up_trans k4 up6⟩
    have J6 : Inv X pins σ1 H1 { s1 with heap := h6 } := S6.inv (tk := s1.toks) J hts
    obtain ⟨o6, v6, g6, c6, d6, _⟩ := fly6.first
    have nL : a ≠ X.env.locals := fun z => by
      obtain ⟨m, ⟨oL, es, ep, eL, dL, _⟩, _⟩ := J6.loc
      rw [← z, g6] at eL; cases eL
      rw [d6] at dL; cases dL
    have nC : ∀ x c, X.env.cells.lookup x = some c → c ≠ a := fun x c' e z => by
      obtain ⟨v, oc, ec, dc⟩ := J6.cell x c' e
      rw [z, g6] at ec; cases ec
      rw [d6] at dc; cases dc
    have J7 : Inv X pins (List.replicate X.N.length none) (upd H1 a (XD a c dx)) { s1 with heap := h6 } := (J6.track (o := XD a c dx) fl.fa fl.na nL nC (fun p hp => (hpn' p hp).1)
      (show ObjOk X.prog X.w (upd H1 a (XD a c dx)) h6 a (XD a c dx) from ⟨⟨o6, v6, g6, c6, by rw [ge6] at g6; cases g6; exact gd5, d6⟩, ⟨o6, g6⟩, fun g1 g2 ⟨o, vs', z1, z2⟩ st => ⟨o, vs', st o z1, z2⟩⟩)).forget
    refine store_ok (X := X.inH a) (J7.inH a) hN hi (.inl hl) (v := .ref a) rfl (fun s8 J8 => ?_) (.inr hl)
    refine wpAny_mono (hh a pins s8 _ _ (D.gone i) J8 (hth a fl.fa)) (fun f s9 z => ?_) fun _ _ z => z.elim
    have back : ∀ {σ' : St} {H' : Hp}, Inv (X.inH a) pins σ' H' s9 → Inv X pins σ' H' s9 := fun J => Inv.ofH okX J
    cases f with
    | next =>
      obtain ⟨σ', H', J9, z⟩ := z
      exact name_goneK (back J9) hN hi hl fun s' J' => ⟨_, H', J', z⟩
    | brk =>
      obtain ⟨σ', H', J9, z⟩ := z
      exact name_goneK (back J9) hN hi hl fun s' J' => ⟨_, H', J', z⟩
    | cont =>
      obtain ⟨σ', H', J9, z⟩ := z
      exact name_goneK (back J9) hN hi hl fun s' J' => ⟨_, H', J', z⟩
    | ret u =>
      obtain ⟨v, σ', H', J9, r, z⟩ := z
      exact name_goneK (back J9) hN hi hl fun s' J' => ⟨v, _, H', J', r, z⟩

theorem qs_tryD {X : Cx} {body : List Stmt} {tb : XK → TS} {th : TS} {x n : Str} {M : Addr} {i : Nat} {b0 : Stmt} {suite : List Stmt} {np hpos pos : Pos} (hex : X.ex = []) (hst : X.stack = X.env :: X.outer) (hfr : X.env.frame = some X.env.locals)
    (hb : ∀ (pn : List (Addr × Obj)) (E : XK), QSs ((X.pinned pn).wish (XTD (X.pinned pn) E)) body (tb E)) (hg : Gl X x) (hm : X.mg x = some (.ref M)) (TM : PySem.W.ExcK X.K M) (hN : X.N.Nodup) (hi : X.N[i]? = some n) (hl : X.env.scope.names.lookup n = some .local)
    (hh : ∀ a, QSs (X.inH a) (b0 :: suite) th) (hdb : (x == ("__debug__" : Str)) = false := by decide) :
    QS X (.Try body [.ExceptHandler (some (.Name x np)) (some n) (b0 :: suite) hpos] [] [] pos) (tTryD X.K M X.N.length i tb th) := ⟨ps_tryD hex hst hfr (fun pn E => (hb pn E).h) hg hm TM hN hi hl (fun a => (hh a).h) hdb⟩
end L2
/-! EvXq: EvXin's rules in short form; a def with a default that is always given. Behind EvXin. -/
namespace L2
open PySem PySem.Spec PyProof.Rows
structure FunD (K : PySem.W.Frag) (x qual : Str) (st : Stmt) (f : Addr) (fd : FuncData) : Prop where
  ex : ∃ (oc : Value) (od : Option Addr) (dT : Addr) (oT : Obj) (tn : Nat) (kV doc pm : Value) (an : Option Addr) (cdv ct : Value) (osl : Array (Option Value)), K.lookup dT = some oT ∧ oT.data = .seq #[.none] tn ∧
    fd = PySem.W.fnOf x qual (defArgs st) (defBody st) (defScope st) (.ref dT) kV doc pm an cdv ct ∧ K.lookup f = some ⟨oc, od, .func fd, osl⟩ ∧ PySem.W.codeIn K cdv qual = true
section
variable {P : Program} {w : World} {K : PySem.W.Frag} {mg : Str → Option Value} {base : Heap} {x qual : Str} {st : Stmt} {f : Addr} {fd : FuncData} {N ps : List Str} {k : Nat} {sp : Sp}
theorem FunD.okQ (F : FunD K x qual st f fd) (S : FnScope N ps (defScope st)) (len : ∀ vs H Q E, sp vs H Q E → vs.length = ps.length)
    (hbody : ∀ (cdv : Value) (A : Around) (outer : List Env) (s : Shared) (H : Hp) (vs : List V) (Q : VK) (E : XK), Room k (A.deeper (envOfC qual (defScope st) s.heap.objs.size f cdv)) → sp vs H Q E →
      ∃ t, QSs (cxOf CX0 P w K mg base N qual (defScope st) f cdv A outer s H E).nox (defBody st) t ∧ t { nx := fun _ H' => Q .non H', rt := Q } (start N vs) H) : FnOk P w K mg base CX0 (k + 1) f fd ps sp := by
  obtain ⟨oc, od, dT, oT, tn, kV, doc, pm, an, cdv, ct, osl, lT, hT, rfl, lk, hcd⟩ := F.ex
  refine fn_of lk hcd S len fun A outer s H vs Q E hr hsp => ?_
  obtain ⟨t, h, q⟩ := hbody cdv A outer s H vs Q E hr hsp
  exact ⟨t, h.h.nox, q⟩
theorem FunD.binds {ds : List Value} (F : FunD K x qual st f fd)
    (h : ∀ (dT : Addr) (kV doc pm : Value) (an : Option Addr) (cdv ct : Value) (us : List Value), (us ++ ds).length = ps.length → ∃ k, bindArgs (PySem.W.fnOf x qual (defArgs st) (defBody st) (defScope st) (.ref dT) kV doc pm an cdv ct) ⟨us, []⟩ = seqItems? (.ref dT) >>= k ∧
      k (some #[.none]) = pure (ps.zip (us ++ ds))) : Binds K fd ps ds := by
  obtain ⟨oc, od, dT, oT, tn, kV, doc, pm, an, cdv, ct, osl, lT, hT, rfl, lk, hcd⟩ := F.ex
  intro s us X hl
  obtain ⟨k, h1, h2⟩ := h dT kV doc pm an cdv ct us hl
  exact .of_defaults rfl (X _ _ lT) hT h1 h2
theorem Fun.okXDQ (F : Fun K x qual st f fd) (S : FnScope N ps (defScope st)) (len : ∀ vs H Q E, sp vs H Q E → vs.length = ps.length)
    (hbody : ∀ (cdv : Value) (A : Around) (outer : List Env) (s : Shared) (H : Hp) (vs : List V) (Q : VK) (E : XK), Room k (A.deeper (envOfC qual (defScope st) s.heap.objs.size f cdv)) → sp vs H Q E →
      ∃ t, QSs ((cxOf (CXD P w) P w K mg base N qual (defScope st) f cdv A outer s H E).wish (XED (cxOf (CXD P w) P w K mg base N qual (defScope st) f cdv A outer s H E) E)) (defBody st) t ∧ t { nx := fun _ H' => Q .non H', rt := Q } (start N vs) H) :
    FnOk P w K mg base (CXD P w) (k + 1) f fd ps sp :=
  F.okXD S len fun cdv A outer s H vs Q E hr h => let ⟨t, a, b⟩ := hbody cdv A outer s H vs Q E hr h; ⟨t, a.h, b⟩
end
section
variable {X : Cx}
theorem qe_frep {e : Expr} {te : TE} {pos : Pos} (he : QE X e te) : QE X (.FormattedValue e 114 none pos) (fun σ H Q => te σ H fun v H1 => (∃ i, v = .int i ∧ i.natAbs.log2 < 1920 ∧ (Str.ofString (toString i)).length ≤ sizeLine ∧ Q (.str (toString i)) H1) ∨ (v = .non ∧ Q (.str "None") H1)) := ⟨pe_frep he.h⟩
theorem qe_xinit {M : Addr} {x : Str} {np apos pos : Pos} {a1 : Expr} {es : List Expr} {t : TA} (B : BaseX X.K M) (hg : Gl X x) (hm : X.mg x = some (.ref M)) (ha : QA X (a1 :: es) t) (hdb : (x == ("__debug__" : Str)) = false := by decide)
    (he : starEach (a1 :: es) X.env = (false, eval a1 X.env) :: starEach es X.env := by rfl) (hpl : (backTo pos (starEach es X.env)).any (·.1) = false := by rfl) {pl : Sem Bool}
    (ht : eval (.Call (.Attribute (.Name x np) (Str.ofString "__init__") apos) (a1 :: es) [] pos) X.env = (do
      let ov ← eval (.Name x np) X.env; standAt apos.atName; let (f, first) ← holding [ov] (getMethod ov (Str.ofString "__init__") pl)
      callWith pos f first (backTo pos (starEach (a1 :: es) X.env)) (backToKw pos (keywordEach [] X.env))) := by rfl) :
    QE X (.Call (.Attribute (.Name x np) (Str.ofString "__init__") apos) (a1 :: es) [] pos) (tXInit X.K t) := ⟨pe_xinit B hg hm ha.h hdb he hpl ht⟩
theorem qs_xset {o value : Expr} {f : Str} {pos' pos : Pos} {ta tv : TE} (ha : QE X o ta) (hv : QE X value tv) (hs : swapsWith value (some (.Attribute o f pos')) pos.line X.env = pure false := by rfl) : QS X (.Assign [.Attribute o f pos'] value pos) (tXSet X.K ta tv f) := ⟨ps_xset ha.h hv.h hs⟩
theorem qe_xfld {e : Expr} {f : Str} {pos : Pos} {ta : TE} (he : QE X e ta) (hb : attributeBase e f X.env (eval e X.env) = eval e X.env := by rfl) : QE X (.Attribute e f pos) (tXFld X.K ta f) := ⟨pe_xfld he.h hb⟩
theorem qs_raiseX {E : XK} {CX : CXT} {k : Nat} {x fl : Str} {C f : Addr} {fd : FuncData} {ps : List Str} {sp : Sp} {ds : List Value} {dvs : List V} {np cpos pos : Pos} {e : Expr} {es : List Expr} {t : TA} (O : OwnX X.K C f fl) (F : FnOk X.prog X.w X.K X.mg X.base CX k f fd ps sp) (hr : Room (k + 1) X.A) (hg : Gl X x) (hm : X.mg x = some (.ref C)) (hb : Binds X.K fd ps ds) (hd : Vals dvs ds) (hc : X.calm = true) (hex : X.ex = []) (hx : Passes CX (X.wish (XED X E)) E0)
    (ha : QA (X.wish (XED X E)) (e :: es) t) (hdb : (x == ("__debug__" : Str)) = false := by decide) (he : starEach (e :: es) X.env = (false, eval e X.env) :: starEach es X.env := by rfl) (hpl : (backTo cpos (starEach es X.env)).any (·.1) = false := by rfl) :
    QS (X.wish (XED X E)) (.Raise (some (.Call (.Name x np) (e :: es) [] cpos)) none pos) (tRaiseX C sp dvs E t) := ⟨ps_raiseX O F hr hg hm hb hd hc hex hx ha.h hdb he hpl⟩
end
/-! ### __init__(self, f): M.__init__(self, f'..{f!r}'); self.f = f -/
def spXI (K : PySem.W.Frag) (fl : Str) : Sp := fun vs H Q _ => ∃ (e C fI : Addr) (v : V), vs = [.ref e, v] ∧ H e = some (XN e C none) ∧ OwnX K C fI fl ∧ ((∃ i : Nat, v = .int ((i : Nat) : Int) ∧ i ≤ 1000) ∨ v = .non) ∧ ∀ dx, H dx = none → Q .non (upd (upd H dx (.xd [(fl, v)])) e (XN e C (some dx)))
theorem dig_len : ∀ i : Fin 1001, (Str.ofString (toString ((i.val : Nat) : Int))).length ≤ 5 := by decide +kernel
end L2
namespace L2
open PySem PySem.Spec PyProof.Rows
section
variable {prog : Program} {w : World} {A : Around} {E : Value → Shared → Prop} {s : Shared}
/-- entries in another order -/
theorem pick_perm {α : Type} (next : Nat → Nat) (xs : Array α) : (pickOrder next xs).toList.Perm xs.toList := by
  have key : ∀ (fuel k : Nat) (left : List α) (out : Array α), left.length ≤ fuel → (pickOrder.go next fuel k left out).toList.Perm (out.toList ++ left) := by
    intro fuel
    induction fuel with
    | zero =>
      intro k left out h
      have : left = [] := List.length_eq_zero_iff.mp (Nat.le_zero.mp h)
      subst this
      unfold pickOrder.go
      simp
    | succ fuel ih =>
      intro k left out h
      unfold pickOrder.go
      cases hl : left[next k % left.length]? with
      | none =>
        dsimp only
        cases left with
        | nil => simp
        | cons y r =>
          have := Nat.mod_lt (next k) (show 0 < (y :: r).length by simp)
          rw [List.getElem?_eq_getElem this] at hl
          cases hl
      | some x =>
        dsimp only
        obtain ⟨hlt, hx⟩ := List.getElem?_eq_some_iff.mp hl
        refine (ih (k + 1) _ _ (by rw [List.length_eraseIdx_of_lt hlt]; omega)).trans ?_
        rw [Array.toList_push, List.append_assoc]
        refine List.Perm.append_left _ ?_
        rw [List.eraseIdx_eq_take_drop_succ]
        have e : left = left.take (next k % left.length) ++ x :: left.drop (next k % left.length + 1) := by
          conv => lhs; rw [← List.take_append_drop (next k % left.length) left, List.drop_eq_getElem_cons hlt, hx]
        have p := (List.perm_middle (a := x) (l₁ := left.take (next k % left.length)) (l₂ := left.drop (next k % left.length + 1))).symm
        rw [← e] at p
        exact p
  exact (key xs.size 0 xs.toList #[] (by simp)).trans (by simp)
/-- the empty set as it is made -/
abbrev set0 (led : Bool) : Obj := { cls := .type "set", dict := none, data := .set #[] 0 (.fresh 0 0 led) }
end
end L2
/-! EvWlk: tables of sets: what laying keeps (led, no dummies, places that rise). Pure. -/
namespace L2
open PySem
theorem orStandIn_led (t : SetTable) (n : Nat) : (t.orStandIn n).led = t.led := by
  unfold SetTable.orStandIn
  split <;> rfl
theorem layNew_led (t : SetTable) (es : Array (Int × Value)) (h : Int) (x : Value) : (layNew t es h x).2.1.led = t.led := by
  unfold layNew
  split
  · exact orStandIn_led _ _
  · rfl
theorem laid_led {mask finger moves : Nat} {led plain : Bool} {hs : Array Int} {t : SetTable} {o : Array Nat} (h : SetTable.laid mask finger moves led plain hs = some (t, o)) : t.led = led ∧ t.dummies = #[] ∧ t.mask = mask := by
  unfold SetTable.laid at h
  cases e : SetTable.layClean mask hs with
  | none => rw [e] at h; cases h
  | some owner =>
    rw [e] at h
    cases h
    exact ⟨rfl, rfl, rfl⟩
theorem relayAll_led (t : SetTable) (es : Array (Int × Value)) (n : Nat) : (relayAll t es n).2.1.led = t.led := by
  unfold relayAll
  split
  · rename_i t' o e
    dsimp only
    split
    · exact (laid_led e).1
    · rfl
  · rfl
/-- places that rise, none above the mask, no dummies -/
structure Rz (t : SetTable) : Prop where
  up : t.place.toList.Pairwise (· < ·)
  le : ∀ x ∈ t.place.toList, x ≤ t.mask
  no : t.dummies = #[]
theorem standIn_rz (t : SetTable) (n : Nat) : Rz (t.standIn n) := by
  refine ⟨?_, ?_, rfl⟩
  · show (Array.range n).toList.Pairwise (· < ·)
    rw [Array.toList_range]
    exact List.pairwise_lt_range
  · show ∀ x ∈ (Array.range n).toList, x ≤ 4 * n + 4
    rw [Array.toList_range]
    intro x hx
    have := List.mem_range.mp hx
    omega
theorem fresh_rz (f m : Nat) (l : Bool) : Rz (.fresh f m l) := ⟨by simp [SetTable.fresh], by simp [SetTable.fresh], rfl⟩
/-- where a place belongs -/
theorem below_go {xs : Array Nat} {j : Nat} (hs : xs.toList.Pairwise (· < ·)) : ∀ fuel lo hi, hi - lo ≤ fuel → lo ≤ hi → hi ≤ xs.size → (∀ i (h : i < xs.size), i < lo → xs[i] < j) → (∀ i (h : i < xs.size), hi ≤ i → j ≤ xs[i]) →
    SetTable.below.go xs j fuel lo hi ≤ xs.size ∧ (∀ i (h : i < xs.size), i < SetTable.below.go xs j fuel lo hi → xs[i] < j) ∧ ∀ i (h : i < xs.size), SetTable.below.go xs j fuel lo hi ≤ i → j ≤ xs[i]
  | 0, lo, hi, hf, hlh, hh, h1, h2 => by
    have e : lo = hi := by omega
    subst e
    unfold SetTable.below.go
    exact ⟨hh, h1, h2⟩
  | fuel + 1, lo, hi, hf, hlh, hh, h1, h2 => by
    unfold SetTable.below.go
    by_cases hlt : lo < hi
    · rw [if_pos hlt]
      dsimp only
      have hm : (lo + hi) / 2 < xs.size := by omega
      have mono : ∀ a b (ha : a < xs.size) (hb : b < xs.size), a ≤ b → xs[a] ≤ xs[b] := fun a b ha hb hab => by
        by_cases e : a = b
        · subst e
          exact Nat.le_refl _
        · have := (List.pairwise_iff_getElem.mp hs) a b (by simpa using ha) (by simpa using hb) (by omega)
          simpa using Nat.le_of_lt this
      by_cases hc : xs.getD ((lo + hi) / 2) j < j
      · rw [if_pos hc]
        rw [Array.getD_eq_getD_getElem?, Array.getElem?_eq_getElem hm] at hc
        refine below_go hs fuel _ hi (by omega) (by omega) hh (fun i h hi' => ?_) h2
        exact Nat.lt_of_le_of_lt (mono i _ h hm (by omega)) hc
      · rw [if_neg hc]
        rw [Array.getD_eq_getD_getElem?, Array.getElem?_eq_getElem hm] at hc
        refine below_go hs fuel lo _ (by omega) (by omega) (by omega) h1 (fun i h hi' => ?_)
        exact Nat.le_trans (Nat.le_of_not_lt hc) (mono _ i hm h hi')
    · rw [if_neg hlt]
      have e : lo = hi := by omega
      subst e
      exact ⟨hh, h1, h2⟩
theorem below_ok {xs : Array Nat} (hs : xs.toList.Pairwise (· < ·)) (j : Nat) : SetTable.below xs j ≤ xs.size ∧ (∀ i (h : i < xs.size), i < SetTable.below xs j → xs[i] < j) ∧ ∀ i (h : i < xs.size), SetTable.below xs j ≤ i → j ≤ xs[i] :=
  below_go hs xs.size 0 xs.size (by omega) (by omega) (Nat.le_refl _) (fun i _ h => by omega) fun i h h' => by omega
theorem slot_empty {t : SetTable} (R : Rz t) {j : Nat} (h : t.slot j = .empty) : j ∉ t.place.toList := by
  intro hm
  obtain ⟨k, hk, e⟩ := List.mem_iff_getElem.mp hm
  have hk' : k < t.place.size := by simpa using hk
  obtain ⟨b1, b2, b3⟩ := below_ok R.up j
  have ek : t.place[k] = j := by simpa using e
  have hb : SetTable.below t.place j = k := by
    rcases Nat.lt_trichotomy (SetTable.below t.place j) k with z | z | z
    · have := b3 (SetTable.below t.place j) (by omega) (Nat.le_refl _)
      have h2 := (List.pairwise_iff_getElem.mp R.up) _ k (by simp; omega) hk z
      simp at h2
      omega
    · exact z
    · have := b2 k hk' z
      omega
  unfold SetTable.slot at h
  simp [hb, Array.getElem?_eq_getElem hk', ek] at h
theorem no_dummy {t : SetTable} (R : Rz t) (j : Nat) : t.slot j ≠ .dummy := by
  have hd : SetTable.has t.dummies j = false := by
    rw [R.no]
    simp [SetTable.has]
  unfold SetTable.slot
  dsimp only
  rw [hd]
  intro h
  by_cases c : (t.place[SetTable.below t.place j]? == some j) = true
  · rw [if_pos c] at h
    cases h
  · rw [if_neg c] at h
    simp at h
/-- a probe stays within the table -/
structure Pz (t : SetTable) (p : SetTable.Probe) : Prop where
  jl : p.j + p.more ≤ t.mask
  dn : p.dummy = none
theorem start_pz (t : SetTable) (h : Int) : Pz t (t.probeStart h) := by
  refine ⟨?_, rfl⟩
  have h1 : SetTable.bits h % (t.mask + 1) ≤ t.mask := Nat.le_of_lt_succ (Nat.mod_lt _ (Nat.succ_pos _))
  unfold SetTable.probeStart SetTable.runEnd
  dsimp only
  split <;> omega
theorem adv_pz {t : SetTable} {p : SetTable.Probe} (P : Pz t p) : Pz t (t.advance p) := by
  have hj := P.jl
  unfold SetTable.advance
  by_cases hm : p.more > 0
  · rw [if_pos hm]
    exact ⟨by dsimp only; omega, P.dn⟩
  · rw [if_neg hm]
    refine ⟨?_, P.dn⟩
    unfold SetTable.leap SetTable.runEnd
    dsimp only
    have h1 : (p.i * 5 + 1 + p.perturb / 32) % (t.mask + 1) ≤ t.mask := Nat.le_of_lt_succ (Nat.mod_lt _ (Nat.succ_pos _))
    split <;> omega
theorem probe_empty {t : SetTable} (R : Rz t) {g : Nat → Int} {h : Int} {j : Nat} {d : Option Nat} : ∀ (fuel : Nat) (p : SetTable.Probe), Pz t p → SetTable.probe.go t g h fuel p = some (.empty j d) → t.slot j = .empty ∧ d = none ∧ j ≤ t.mask
  | 0, p, _, e => by
    unfold SetTable.probe.go at e
    cases e
  | fuel + 1, p, P, e => by
    unfold SetTable.probe.go at e
    have hj := P.jl
    cases hs : t.slot p.j with
    | empty =>
      rw [hs] at e
      simp only [Option.some.injEq, SetTable.Met.empty.injEq] at e
      obtain ⟨rfl, rfl⟩ := e
      exact ⟨hs, P.dn, by omega⟩
    | dummy => exact absurd hs (no_dummy R _)
    | live i =>
      rw [hs] at e
      dsimp only at e
      by_cases c : (g i == h) = true
      · rw [if_pos c] at e
        cases e
      · rw [if_neg c] at e
        exact probe_empty R fuel _ (adv_pz P) e
theorem freeSlot_ok {t : SetTable} (R : Rz t) {h : Int} {j : Nat} {b : Bool} (e : t.freeSlot h = some (j, b)) : j ∉ t.place.toList ∧ j ≤ t.mask ∧ b = false := by
  unfold SetTable.freeSlot at e
  split at e
  · rename_i j' d' he
    obtain ⟨h1, h2, h3⟩ := probe_empty R _ _ (start_pz t h) he
    subst h2
    simp at e
    obtain ⟨rfl, rfl⟩ := e
    exact ⟨slot_empty R h1, h3, rfl⟩
  · cases e
theorem insert_list {α : Type} (xs : Array α) (p : Nat) (x : α) : (SetTable.insertAt xs p x).toList = xs.toList.take p ++ x :: xs.toList.drop p := by
  unfold SetTable.insertAt
  simp only [Array.toList_append, Array.toList_push, Array.toList_extract, List.append_assoc, List.extract_eq_take_drop, List.drop_zero, Nat.sub_zero, List.cons_append, List.nil_append]
  rw [List.take_of_length_le (l := List.drop p xs.toList) (by rw [List.length_drop]; simp)]
theorem put_rz {t : SetTable} (R : Rz t) {j : Nat} (hj : j ∉ t.place.toList) (hm : j ≤ t.mask) : Rz (t.put j).1 := by
  obtain ⟨b1, b2, b3⟩ := below_ok R.up j
  have hp : ((t.put j).1.place).toList = t.place.toList.take (SetTable.below t.place j) ++ j :: t.place.toList.drop (SetTable.below t.place j) := insert_list _ _ _
  have lo : ∀ x ∈ t.place.toList.take (SetTable.below t.place j), x < j := fun x hx => by
    obtain ⟨i, hi, rfl⟩ := List.mem_iff_getElem.mp hx
    rw [List.length_take] at hi
    rw [List.getElem_take]
    have := b2 i (by simp at hi; omega) (by omega)
    simpa using this
  have hi : ∀ x ∈ t.place.toList.drop (SetTable.below t.place j), j < x := fun x hx => by
    obtain ⟨i, hi, rfl⟩ := List.mem_iff_getElem.mp hx
    rw [List.length_drop] at hi
    rw [List.getElem_drop]
    have h1 := b3 (SetTable.below t.place j + i) (by simp at hi; omega) (by omega)
    have h2 : t.place.toList[SetTable.below t.place j + i]'(by omega) ≠ j := fun z => hj (z ▸ List.getElem_mem _)
    have h3 : t.place.toList[SetTable.below t.place j + i]'(by omega) = t.place[SetTable.below t.place j + i]'(by simp at hi; omega) := by simp
    rw [h3] at h2 ⊢
    omega
  refine ⟨?_, ?_, ?_⟩
  · rw [hp, List.pairwise_append]
    refine ⟨R.up.sublist (List.take_sublist _ _), ?_, ?_⟩
    · rw [List.pairwise_cons]
      exact ⟨hi, R.up.sublist (List.drop_sublist _ _)⟩
    · intro a ha b hb
      rcases List.mem_cons.mp hb with rfl | hb
      · exact lo a ha
      · exact Nat.lt_trans (lo a ha) (hi b hb)
  · rw [hp]
    intro x hx
    rcases List.mem_append.mp hx with z | z
    · exact R.le x (List.mem_of_mem_take z)
    · rcases List.mem_cons.mp z with rfl | z
      · exact hm
      · exact R.le x (List.mem_of_mem_drop z)
  · show (if SetTable.has t.dummies j then SetTable.eraseAt t.dummies (SetTable.below t.dummies j) else t.dummies) = #[]
    rw [R.no]
    simp [SetTable.has]
theorem layNew_rz {t : SetTable} (R : Rz t) (es : Array (Int × Value)) (h : Int) (x : Value) : Rz (layNew t es h x).2.1 := by
  unfold layNew
  split
  · rename_i j b e
    obtain ⟨h1, h2, _⟩ := freeSlot_ok R e
    dsimp only
    unfold SetTable.orStandIn
    split
    · exact put_rz R h1 h2
    · exact standIn_rz _ _
  · exact standIn_rz _ _
theorem laid_rz {mask finger moves : Nat} {led plain : Bool} {hs : Array Int} {t : SetTable} {o : Array Nat} (h : SetTable.laid mask finger moves led plain hs = some (t, o)) : Rz t := by
  unfold SetTable.laid at h
  cases e : SetTable.layClean mask hs with
  | none => rw [e] at h; cases h
  | some owner =>
    rw [e] at h
    cases h
    have sub : ((List.range (mask + 1)).filterMap fun j => (owner.getD j none).map (j, ·)).map (·.1) = (List.range (mask + 1)).filter fun j => (owner.getD j none).isSome := by
      generalize List.range (mask + 1) = l
      induction l with
      | nil => rfl
      | cons a r ih =>
        rw [List.filterMap_cons, List.filter_cons]
        cases hc : owner.getD a none with
        | none => exact ih
        | some v => exact congrArg (a :: ·) ih
    refine ⟨?_, ?_, rfl⟩
    · show (((List.range (mask + 1)).filterMap fun j => (owner.getD j none).map (j, ·)).map (·.1)).toArray.toList.Pairwise (· < ·)
      rw [sub]
      exact List.pairwise_lt_range.sublist List.filter_sublist
    · show ∀ x ∈ (((List.range (mask + 1)).filterMap fun j => (owner.getD j none).map (j, ·)).map (·.1)).toArray.toList, x ≤ mask
      rw [sub]
      intro x hx
      have := List.mem_range.mp (List.mem_filter.mp hx).1
      omega
theorem relayAll_rz {t : SetTable} (es : Array (Int × Value)) (n : Nat) : Rz (relayAll t es n).2.1 := by
  unfold relayAll
  split
  · rename_i t' o e
    dsimp only
    split
    · exact laid_rz e
    · exact standIn_rz _ _
  · exact standIn_rz _ _
end L2
/-! EvSl: set(list of numbers) with its table: led unless the world goes by its text, places that rise. Behind EvWlk. -/
namespace L2
open PySem PySem.Spec PyProof.Rows
/-- the number of an entry -/
def enK (e : Int × Value) : Int := match e.2 with | .int n _ => n | _ => 0
/-- a set of numbers, its table as it is made -/
structure TabL (prog : Program) (w : World) (es : Array (Int × Value)) (t : SetTable) : Prop where
  el : ElemsOf (intKind prog w) es.toList
  fit : t.fits es.size = true
  rz : Rz t
  led : t.led = !(w.params.followText "set-order")
def AtL (prog : Program) (w : World) (h : Heap) (a : Addr) (es : Array (Int × Value)) : Prop := ∃ o ep t, h.get? a = some o ∧ o.ExactSet ∧ o.data = .set es ep t ∧ TabL prog w es t
def SetL (prog : Program) (w : World) (h : Heap) (a : Addr) (L : List Int) : Prop := ∃ es, AtL prog w h a es ∧ es.toList.map enK = L
theorem AtL.stay {prog : Program} {w : World} {h h' : Heap} {a : Addr} {es : Array (Int × Value)} (x : AtL prog w h a es) (k : ∀ o, h.get? a = some o → h'.get? a = some o) : AtL prog w h' a es := by
  obtain ⟨o, ep, t, ho, r⟩ := x
  exact ⟨o, ep, t, k o ho, r⟩
theorem SetL.stay {prog : Program} {w : World} {h h' : Heap} {a : Addr} {L : List Int} (x : SetL prog w h a L) (k : ∀ o, h.get? a = some o → h'.get? a = some o) : SetL prog w h' a L := by
  obtain ⟨es, y, e⟩ := x
  exact ⟨es, y.stay k, e⟩
section
variable {prog : Program} {w : World} {A : Around} {E : Value → Shared → Prop} {s : Shared} {a : Addr}
theorem el_int {es : List (Int × Value)} (h : ElemsOf (intKind prog w) es) {e : Int × Value} (he : e ∈ es) : ∃ n tk, e.2 = .int n tk ∧ enK e = n := by
  obtain ⟨⟨n, hn, _⟩, _⟩ := h e he
  obtain ⟨tk, e2⟩ := Value.isInt_shape hn
  exact ⟨n, tk, e2, by unfold enK; rw [e2]⟩
/-- a store leaves this object -/
theorem put_at {h : Heap} {o : Obj} {es es' : Array (Int × Value)} {ep : Nat} {t t' : SetTable} (ho : h.get? a = some o) (hx : o.ExactSet) (hd : o.data = .set es ep t) (T : TabL prog w es' t') :
    (h.update a (Obj.putSet es' t')).get? a = some { o with data := .set es' (ep + 1) t' } ∧ AtL prog w (h.update a (Obj.putSet es' t')) a es' := by
  have e := putSet_of es' t' hd
  have g : (h.update a (Obj.putSet es' t')).get? a = some { o with data := .set es' (ep + 1) t' } := by
    rw [Heap.get?_update_self (Obj.putSet es' t') ho (by rw [e]; rfl), e]
  exact ⟨g, _, _, _, g, hx, rfl, T⟩
theorem relay_tab {es : Array (Int × Value)} {t : SetTable} (T : TabL prog w es t) (n : Nat) : TabL prog w (relayAll t es n).1 (relayAll t es n).2.1 :=
  ⟨T.el.perm (relayAll_perm t es n), relayAll_fits t es n, relayAll_rz es n, (relayAll_led t es n).trans T.led⟩
theorem lay_tab {es : Array (Int × Value)} {t : SetTable} (T : TabL prog w es t) (k : Int) (tk : Tok) : TabL prog w (layNew t es ((intKind prog w).hash k) (.int k tk)).1 (layNew t es ((intKind prog w).hash k) (.int k tk)).2.1 := by
  have p := layNew_perm t es ((intKind prog w).hash k) (.int k tk)
  rw [Array.toList_push] at p
  exact ⟨(T.el.push (intKind_is _ _ _ _) rfl).perm p, layNew_fits .., layNew_rz T.rz .., (layNew_led ..).trans T.led⟩
/-- a number more -/
theorem add_l {L : List Int} {k : Int} {tk : Tok} {Q : Bool → Shared → Prop} (hS : SetL prog w s.heap a L) (hb : L.length + 1 < scanBound)
    (h : ∀ h' L', Heap.SameBut a s.heap h' → SetL prog w h' a L' → (L'.Perm (L ++ [k]) ∧ k ∉ L ∨ L' = L ∧ k ∈ L) → ∀ b, Q b { s with heap := h' }) :
    wpAny (model prog w) A (setAddHashed a (.int k tk) ((intKind prog w).hash k)) Q E s := by
  obtain ⟨es, ⟨o, ep, t, ho, hx, hd, T⟩, rfl⟩ := hS
  rw [List.length_map, Array.length_toList] at hb
  have hk : (intKind prog w).is k (.int k tk) = true := intKind_is _ _ _ _
  unfold setAddHashed setAddHashedIn
  refine wpAny_holding (wpAny_bind (wpAny_setState_of ho hd T.fit ?_))
  dsimp only
  rw [byScan_of rfl (Nat.lt_of_succ_lt hb) T.el, if_pos rfl]
  unfold setAddByScan
  refine wpAny_bind (wpAny_bind (wpAny_rule (wpAny_bind (wpAny_setScan_of hk ho hd T.fit T.el ?_))))
  have mem : ∀ k', (∃ e ∈ es.toList, (intKind prog w).is k' e.2 = true) ↔ k' ∈ es.toList.map enK := fun k' => by
    rw [List.mem_map]
    constructor
    · rintro ⟨e, he, hi⟩
      obtain ⟨n, t', e1, e2⟩ := el_int T.el he
      obtain ⟨t2, e3⟩ := Value.isInt_shape hi
      rw [e1] at e3
      cases e3
      exact ⟨e, he, e2⟩
    · rintro ⟨e, he, rfl⟩
      obtain ⟨n, t', e1, e2⟩ := el_int T.el he
      exact ⟨e, he, by rw [e2, e1]; exact intKind_is _ _ _ _⟩
  cases hr : List.findIdx? (fun e => (intKind prog w).is k e.2) es.toList with
  | some j =>
    obtain ⟨hj, hp, _⟩ := List.findIdx?_eq_some_iff_getElem.mp hr
    refine wpAny_pure (wpAny_pure ?_)
    exact h s.heap _ (Heap.SameBut.refl a s.heap) ⟨es, ⟨o, ep, t, ho, hx, hd, T⟩, rfl⟩ (.inr ⟨rfl, (mem k).mp ⟨_, List.getElem_mem hj, hp⟩⟩) _
  | none =>
    have nin : k ∉ es.toList.map enK := fun z => by
      obtain ⟨e, he, hp⟩ := (mem k).mpr z
      have := List.findIdx?_eq_none_iff.mp hr e he
      rw [hp] at this
      cases this
    have T1 := lay_tab T k tk
    have p1 := layNew_perm t es ((intKind prog w).hash k) (.int k tk)
    rw [Array.toList_push] at p1
    dsimp only
    generalize layNew t es ((intKind prog w).hash k) (.int k tk) = N at T1 p1 ⊢
    obtain ⟨es1, t1, wd, gv⟩ := N
    dsimp only at T1 p1 ⊢
    have pk := p1.map enK
    rw [List.map_append] at pk
    have hz : es1.size ≤ sizeLine := by
      have := p1.length_eq
      rw [List.length_append, Array.length_toList, Array.length_toList] at this
      exact fits_of_scanBound (by rw [this]; exact hb)
    have quiet : ∀ (b : Bool) {s₁ : Shared} {Q' : Unit → Shared → Prop}, Q' () s₁ → wpAny (model prog w) A (match b with | true => rule "set.scan.the-table-gave-way" | false => pure ()) Q' E s₁ := fun b s₁ Q' q => by
      cases b
      · exact wpAny_pure q
      · exact wpAny_rule q
    /- the stores: any table of these entries -/
    have tail : ∀ t2, TabL prog w es1 t2 → ∀ c : Bool, wpAny (model prog w) A (do
        storeSet a es1 t2
        if (c && t2.tooFull) = true then do
            (match (relayAll t2 es1 (SetTable.grown es1.size)).2.2 with | true => rule "set.scan.the-table-gave-way" | false => pure ())
            storeSet a (relayAll t2 es1 (SetTable.grown es1.size)).1 (relayAll t2 es1 (SetTable.grown es1.size)).2.1
            pure (some true)
          else pure (some true)) (fun r s' => ∀ b, Q b s' ∧ r = some true) E s := fun t2 T2 c => by
      obtain ⟨g1, a1⟩ := put_at ho hx hd T2
      refine wpAny_bind (wpAny_storeSet_of ho hd ?_ hz)
      have b1 := Heap.SameBut.update s.heap a (Obj.putSet es1 t2)
      by_cases cc : (c && t2.tooFull) = true
      · rw [if_pos cc]
        have T3 := relay_tab T2 (SetTable.grown es1.size)
        have p3 := relayAll_perm t2 es1 (SetTable.grown es1.size)
        obtain ⟨_, a3⟩ := put_at g1 hx rfl T3
        have z3 : (relayAll t2 es1 (SetTable.grown es1.size)).1.size ≤ sizeLine := by
          have := p3.length_eq
          rw [Array.length_toList, Array.length_toList] at this
          rw [this]
          exact hz
        refine wpAny_bind (quiet _ (wpAny_bind (wpAny_storeSet_of g1 rfl (wpAny_pure fun b => ⟨?_, rfl⟩) z3)))
        exact h _ _ (b1.trans (Heap.SameBut.update _ a _)) ⟨_, a3, rfl⟩ (.inl ⟨(p3.map enK).trans pk, nin⟩) b
      · rw [if_neg cc]
        exact wpAny_pure fun b => ⟨h _ _ b1 ⟨es1, a1, rfl⟩ (.inl ⟨pk, nin⟩) b, rfl⟩
    have last : ∀ (r : Option Bool) (s' : Shared), (∀ b, Q b s' ∧ r = some true) → wpAny (model prog w) A (match r with | some added => pure added | none => setAddHashedIn a (.int k tk) ((intKind prog w).hash k) 99999) Q E s' := fun r s' q => by
      rw [(q true).2]
      exact wpAny_pure (q true).1
    refine wpAny_bind (quiet _ ?_)
    by_cases hp : t1.plain = true
    · rw [if_pos hp]
      refine wpAny_bind ?_
      rw [hashByValue_scannable 8 (x := .int k tk) rfl]
      refine wpAny_pure ?_
      exact wpAny_mono (tail t1 T1 (!wd)) (fun r s' q => last r s' q) fun _ _ z => z
    · rw [if_neg hp]
      refine wpAny_bind (wpAny_pure ?_)
      exact wpAny_mono (tail t1 T1 (!wd)) (fun r s' q => last r s' q) fun _ _ z => z
end
section
variable {prog : Program} {w : World} {A : Around} {R : Result → Shared → Prop} {I : Addr} {fp wr : List Addr} {G : Array GenState → Array GenState → Prop} {n : Nat} {P : Nat → Value → Prop} {St : Nat → Shared → Prop}
/-- what has been put in so far -/
structure PutL (prog : Program) (w : World) (h : Heap) (S : Addr) (val : Nat → Int) (i : Nat) (L : List Int) : Prop where
  at_ : SetL prog w h S L
  nd : L.Nodup
  le : L.length ≤ i
  mem : ∀ x, x ∈ L ↔ ∃ j, j < i ∧ val j = x
theorem PutL.stay {h h' : Heap} {S : Addr} {val : Nat → Int} {i : Nat} {L : List Int} (x : PutL prog w h S val i L) (k : ∀ o, h.get? S = some o → h'.get? S = some o) : PutL prog w h' S val i L := ⟨x.at_.stay k, x.nd, x.le, x.mem⟩
theorem PutL.next {h h' : Heap} {S : Addr} {val : Nat → Int} {i : Nat} {L L' : List Int} (x : PutL prog w h S val i L) (hs : SetL prog w h' S L') (hl : L'.Perm (L ++ [val i]) ∧ val i ∉ L ∨ L' = L ∧ val i ∈ L) : PutL prog w h' S val (i + 1) L' := by
  have step : ∀ y, (∃ j, j < i + 1 ∧ val j = y) ↔ (∃ j, j < i ∧ val j = y) ∨ val i = y := fun y => by
    constructor
    · rintro ⟨j, hj, e⟩
      by_cases z : j = i
      · subst z
        exact .inr e
      · exact .inl ⟨j, by omega, e⟩
    · rintro (⟨j, hj, e⟩ | e)
      · exact ⟨j, by omega, e⟩
      · exact ⟨i, by omega, e⟩
  rcases hl with ⟨p, hn⟩ | ⟨rfl, hm⟩
  · refine ⟨hs, ?_, ?_, fun y => ?_⟩
    · rw [p.nodup_iff, List.nodup_append]
      refine ⟨x.nd, by simp, fun a ha b hb => ?_⟩
      rw [List.mem_singleton.mp hb]
      exact fun z => hn (z ▸ ha)
    · rw [p.length_eq, List.length_append]
      exact Nat.succ_le_succ x.le
    · rw [p.mem_iff, List.mem_append, List.mem_singleton, x.mem, step]
      exact or_congr Iff.rfl eq_comm
  · refine ⟨hs, x.nd, Nat.le_succ_of_le x.le, fun y => ?_⟩
    rw [step, x.mem]
    refine ⟨.inl, fun z => ?_⟩
    rcases z with z | rfl
    · exact z
    · exact (x.mem _).mp hm
theorem fill_l (W : WalksS prog w A.in1 I fp wr G n P St) {S : Addr} (hS : S ∉ fp) {val : Nat → Int} (hv : ∀ i v, P i v → ∃ t, v = .int (val i) t) (hb : n + 1 < scanBound) :
    ∀ (k i : Nat) (s : Shared) (L : List Int), n - i = k → i ≤ n → St i s → PutL prog w s.heap S val i L →
      (∀ s' L', Moved (S :: wr) G s s' → PutL prog w s'.heap S val n L' → R (.ok (.ret .none)) s') →
      codeAny (model prog w) A (.builtin "set.update.loop" ⟨[.ref S, .ref I], []⟩) R s := by
  have hw : S ∉ wr := fun z => hS (W.sub _ z)
  have up : ∀ b ∈ wr, b ∈ S :: wr := fun b hb => List.mem_cons_of_mem _ hb
  intro k
  induction k with
  | zero =>
    intro i s L hk hi st X q
    obtain rfl : i = n := by omega
    refine codeAny_builtin F.entry_set_update_loop ?_
    rw [Around.under_plainId F.plain_set_update_loop _]
    refine wpAny_bind (m := pyNext (.ref I)) (W.done s _ _ st fun s' mv => ?_)
    exact wpAny_pure (q s' L (mv.mono up) (X.stay fun o e => mv.heap S o hw e))
  | succ k ih =>
    intro i s L hk hi st X q
    refine codeAny_builtin F.entry_set_update_loop ?_
    rw [Around.under_plainId F.plain_set_update_loop _]
    refine wpAny_bind (m := pyNext (.ref I)) (W.item i s _ _ (by omega) st fun v s1 hP st1 mv => ?_)
    obtain ⟨t, rfl⟩ := hv i v hP
    have X1 := X.stay fun o e => mv.heap S o hw e
    refine wpAny_bind (m := holding [Value.int (val i) t] (setAdd S (.int (val i) t))) (wpAny_holding ?_)
    unfold setAdd
    refine wpAny_holding (wpAny_bind ((intKind prog w).pyHash (k := val i) (intKind_is _ _ _ _) ?_))
    refine add_l (s := { s1 with toks := s1.toks + 1 }) X1.at_ (by have := X1.le; omega) fun h' L' sb hs' hl _ => ?_
    have X2 := X1.next hs' hl
    refine wpAny_pure ⟨plainId_quiet F.plain_set_update_loop _, ih (i + 1) { s1 with heap := h', toks := s1.toks + 1 } L' (by omega) (by omega) (W.frame _ s1 _ _ st1 (Nat.le_succ _) fun b hb' o e => ?_) X2 fun s'' L'' mv2 X3 => ?_⟩
    · rw [sb.2 b fun z => hS (z ▸ hb')]
      exact e
    · refine q s'' L'' (Moved.trans W.gtrans ((mv.mono up).then_heap (Nat.le_succ _) fun b o hb' e => ?_) mv2) X3
      rw [sb.2 b fun z => hb' (z ▸ List.mem_cons_self)]
      exact e
end
section
variable {prog : Program} {w : World} {A : Around} {E : Value → Shared → Prop} {s : Shared}
/-- a new set, and who leads it -/
theorem new_l (x : Value) {Q : Value → Shared → Prop} (h : Q (.ref s.heap.objs.size) { s with heap := s.heap.push (set0 (!(w.params.followText "set-order"))) }) :
    codeAny (model prog w) A (.call (.builtin "set.__new__") ⟨[.type "set", x], []⟩) (wants Q E) s := by
  refine codeAny_of_tree (wpAny_bind (m := checkBuiltinCall "set.__new__" ⟨[.type "set", x], []⟩) (wpAny_of_eq (F.newCall_set_1 x) (wpAny_pure ⟨plainId_quiet F.plain_set_new _, codeAny_builtin F.entry_set_new ?_⟩)))
  rw [Around.under_plainId F.plain_set_new _]
  have f := sub_set_self
  obtain ⟨hp, g, d, tk, os⟩ := s
  unfold Builtin.«set.__new__» Builtin.Frozenset.newClass
  dsimp only
  wp_walk
  refine wpAny_askSetting (wpAny_pure (wpAny_bind (wpAny_alloc (wpAny_pure (wpAny_pure h)))))
/-- set(x), by what its __init__ does -/
theorem set_call_l {x : Value} {Q : Value → Shared → Prop} (h : wpAny (model prog w) A.in1.in1 (Builtin.«set.__init__» ⟨[.ref s.heap.objs.size, x], []⟩) (fun fin s' => fin = .done (.ret .none) ∧ Q (.ref s.heap.objs.size) s') E { s with heap := s.heap.push (set0 (!(w.params.followText "set-order"))) }) :
    wpAny (model prog w) A (call (.type "set") [x]) Q E s := by
  obtain ⟨c, tl, m1⟩ := PySem.F.called_set.mro
  have m2 := PySem.F.called_set.made; have m3 := PySem.F.called_set.sub; have m4 := PySem.F.called_set.notType; have m5 := PySem.F.called_set.canCreate
  have m6 := PySem.F.typeCall_set_1 x
  refine wpAny_call (codeAny_of_tree (show wpAny _ _ (callAny (.type "set") _) _ _ _ from wpAny_pure ⟨Code.quiet_builtin _ (by decide +kernel), codeAny_builtin PySem.F.entry_type_call ?_⟩))
  rw [Around.under_plain (weight_type_call_type "set" [x] []) rfl]
  repeat (any_goals (first | assumption | wp_step))
  refine codeAny_mono (new_l x (E := E) (Q := fun ob s1 => ob = .ref s.heap.objs.size ∧ s1 = { s with heap := s.heap.push (set0 (!(w.params.followText "set-order"))) }) ⟨rfl, rfl⟩) fun r s1 hr => ?_
  match r, hr with
  | .error e, hr => exact hr
  | .ok (.ret ob), hr =>
    obtain ⟨rfl, rfl⟩ := hr
    have hT : Shared.TypeIs { s with heap := s.heap.push (set0 (!(w.params.followText "set-order"))) } (.ref s.heap.objs.size) "set" := ⟨set0 (!(w.params.followText "set-order")), Heap.get?_push_size _ rfl, rfl⟩
    have m7 := PySem.F.called_set.init.lookup; have m8 := PySem.F.called_set.init.bind (.ref s.heap.objs.size)
    repeat (any_goals (first | assumption | wp_step))
    refine codeAny_mono (codeAny_call_builtin (R := wants (fun r s2 => r = .none ∧ Q (.ref s.heap.objs.size) s2) E) PySem.F.called_set.init.plain PySem.F.entry_set_init (check_set_init_1 hT ?_)) fun r2 s2 hr2 => ?_
    · refine wpAny_mono h (fun fin s' hf => ?_) fun _ _ h' => h'
      obtain ⟨rfl, hq⟩ := hf
      exact ⟨rfl, hq⟩
    · match r2, hr2 with
      | .error e, hr2 => exact hr2
      | .ok (.ret v), hr2 =>
        obtain ⟨rfl, hq⟩ := hr2
        repeat (any_goals (first | assumption | wp_step))
      | .ok .next, hr2 => exact hr2.elim
      | .ok .brk, hr2 => exact hr2.elim
      | .ok .cont, hr2 => exact hr2.elim
  | .ok .next, hr => exact hr.elim
  | .ok .brk, hr => exact hr.elim
  | .ok .cont, hr => exact hr.elim
/-- set(list of numbers), with its table -/
theorem set_list_l {l : Addr} {items : Array Value} {ns : List Int} {Q : Value → Shared → Prop} (hh : A.handled = none) (hl : s.heap.IsList l items) (hi : IntsAre items.toList ns) (hb : items.size + 1 < scanBound)
    (h : ∀ (h' : Heap) (tk : Nat) (L : List Int), SetL prog w h' s.heap.objs.size L → L.Nodup → (∀ x, x ∈ L ↔ x ∈ ns) → (∀ b o, s.heap.get? b = some o → h'.get? b = some o) → Q (.ref s.heap.objs.size) { s with heap := h', toks := tk }) :
    wpAny (model prog w) A (call (.type "set") [.ref l]) Q E s := by
  refine set_call_l ?_
  generalize hled : (!(w.params.followText "set-order")) = led
  have hlt : l < s.heap.objs.size := by
    obtain ⟨o, ho, _⟩ := hl
    exact Heap.lt_size ho
  have hl1 : (s.heap.push (set0 led)).IsList l items := hl.push _
  have hS : (s.heap.push (set0 led)).get? s.heap.objs.size = some (set0 led) := Heap.get?_push_size _ rfl
  have hR : SetL prog w (s.heap.push (set0 led)) s.heap.objs.size [] := ⟨#[], ⟨set0 led, 0, _, hS, ⟨rfl, rfl, rfl⟩, rfl, ⟨fun e he => by simp at he, rfl, fresh_rz 0 0 led, hled.symm⟩⟩, rfl⟩
  have f1 := PySem.F.sub_list_set; have f2 := PySem.F.sub_list_frozenset
  have f3 : (Value.type "list" == Value.type "dict") = false := by decide
  obtain ⟨o, ho, hc, nl, hd⟩ := id hl1
  obtain ⟨oc, od, odt, osl⟩ := o
  simp only at hc hd
  subst hc hd
  unfold Builtin.«set.__init__» noKeywords Builtin.Frozenset.updateFrom
  generalize hI : pyIter = I0
  wp_walk
  subst hI
  refine wpAny_pyIter_list hl1 (wpAny_bind (wpAny_runValue ?_))
  have e1 : (s.heap.push (set0 led)).objs.size = s.heap.objs.size + 1 := Heap.size_push ..
  have nf : s.heap.objs.size ∉ [(s.heap.push (set0 led)).objs.size, l] := by
    rw [e1]
    intro z
    rcases List.mem_cons.mp z with z | z
    · exact Nat.ne_of_lt (Nat.lt_succ_self _) z
    · exact Nat.ne_of_gt hlt (List.mem_singleton.mp z)
  have nI : l ≠ (s.heap.push (set0 led)).objs.size := by rw [e1]; exact Nat.ne_of_lt (Nat.lt_succ_of_lt hlt)
  have vals : ∀ (i : Nat) (v : Value), items[i]? = some v → ∃ t, v = .int ((fun i => ns.getD i 0) i) t := fun i v hv => IntsAre.int_at hi i v (by rw [Array.getElem?_toList]; exact hv)
  have hlen := IntsAre.length hi
  rw [Array.length_toList] at hlen
  refine fill_l ((Walks.list (show A.in1.in1.in1.handled = none by simp [hh]) _ l nI items).toS) nf vals hb (items.size - 0) 0 _ [] rfl (Nat.zero_le _) ⟨⟨_, Heap.get?_push_size _ rfl, rfl, rfl⟩, hl1.push _⟩ ⟨hR.stay fun o e => Heap.get?_push_of_some _ e, List.nodup_nil, Nat.zero_le _, fun x => ⟨fun z => absurd z (List.not_mem_nil), fun ⟨j, z, _⟩ => absurd z (Nat.not_lt_zero j)⟩⟩ ?_
  intro s' L' hm X
  obtain ⟨h', g', d', tk', os'⟩ := s'
  obtain rfl : g' = s.gens := hm.gens
  obtain rfl : d' = s.drawn := hm.drawn
  obtain rfl : os' = s.os := hm.os
  refine wpAny_pure (wpAny_pure ⟨rfl, h h' tk' L' X.at_ X.nd (fun x => ?_) fun b o hbo => ?_⟩)
  · rw [X.mem]
    constructor
    · rintro ⟨j, hj, rfl⟩
      have : j < ns.length := by omega
      simp [this]
    · intro hx
      obtain ⟨j, hj, rfl⟩ := List.mem_iff_getElem.mp hx
      exact ⟨j, by omega, by simp [hj]⟩
  · have b1 := Heap.lt_size hbo
    refine hm.heap b o (fun z => ?_) (Heap.get?_push_of_some _ (Heap.get?_push_of_some _ hbo))
    rw [e1] at z
    rcases List.mem_cons.mp z with z | z
    · exact Nat.ne_of_lt b1 z
    · exact Nat.ne_of_lt (Nat.lt_succ_of_lt b1) (List.mem_singleton.mp z)
end
end L2
/-! EvSi: a set of numbers walked: its iterator by text, by drawn places, by rising places; sorted(set). Behind EvSl. -/
namespace L2
open PySem PySem.Spec PyProof.Rows
theorem slot_si_next : Slot "set_iterator" "__next__" "set_iterator.__next__" :=
  .of (owner := "set_iterator") (n := "__next__") (by rw [typeLookup_type, builtinLookup_eq_fast]; kernel_rfl) (by decide +kernel) (by decide +kernel) (by decide +kernel)
    (by first | exact .inl (by decide +kernel) | exact .inr (by decide +kernel)) (by rw [isSubtype_type]; kernel_rfl)
theorem entry_si_next : entryFor table "set_iterator.__next__" = some Builtin.«set_iterator.__next__» := entryFor_of_tree (by kernel_rfl)
theorem args_si_next (a : Value) : argsOk "set_iterator.__next__" ⟨[a], []⟩ := by unfold argsOk; kernel_rfl
theorem entry_set_iter : entryFor table "set.__iter__" = some Builtin.«frozenset.__iter__» := entryFor_alias (id' := "frozenset.__iter__") (by kernel_rfl) rfl (by decide +kernel) (by kernel_rfl)
section
variable {prog : Program} {w : World} {A : Around} {E : Value → Shared → Prop} {s : Shared} {a I T : Addr}
theorem wpAny_chosen {M : Model} {src : Source} {n : Nat} {Q : Nat → Shared → Prop} (hn : n ≠ 0) (h : ∀ i d, i < n → Q i { s with drawn := d }) : wpAny M A (choose src n) Q E s := fun Γ p _ => by
  unfold choose
  rw [Sem.wp_choose]
  exact ⟨hn, by rw [Sem.wp_pure]; exact h _ _ (Nat.mod_lt _ (Nat.pos_of_ne_zero hn))⟩
theorem draw_perm {M : Model} {α : Type} : ∀ (n : Nat) (xs : List α) (s : Shared) (Q : List α → Shared → Prop), xs.length ≤ n → (∀ ys d, ys.Perm xs → Q ys { s with drawn := d }) → wpAny M A (drawOrder n xs) Q E s
  | 0, xs, s, Q, hl, h => by
    obtain rfl : xs = [] := List.length_eq_zero_iff.mp (Nat.le_zero.mp hl)
    unfold drawOrder
    exact wpAny_pure (h [] s.drawn (List.Perm.refl _))
  | n + 1, [], s, Q, _, h => by
    unfold drawOrder
    exact wpAny_pure (h [] s.drawn (List.Perm.refl _))
  | n + 1, x :: r, s, Q, hl, h => by
    unfold drawOrder
    refine wpAny_bind (wpAny_chosen (by simp) fun i d hi => ?_)
    rw [List.getElem?_eq_getElem hi]
    dsimp only
    refine wpAny_bind (draw_perm n _ _ _ (by rw [List.length_eraseIdx_of_lt hi]; simp at hl ⊢; omega) fun ys d' p => wpAny_pure ?_)
    refine h _ d' ?_
    refine (p.cons _).trans ?_
    rw [List.eraseIdx_eq_take_drop_succ]
    have e : x :: r = (x :: r).take i ++ (x :: r)[i] :: (x :: r).drop (i + 1) := by
      conv => lhs; rw [← List.take_append_drop i (x :: r), List.drop_eq_getElem_cons hi]
    have p2 := (List.perm_middle (a := (x :: r)[i]) (l₁ := (x :: r).take i) (l₂ := (x :: r).drop (i + 1))).symm
    rw [← e] at p2
    exact p2
/-- the iterator -/
abbrev siObj (first : Value) (i : Nat) (a : Addr) (n ep : Nat) : Obj := { cls := .type "set_iterator", data := .fields #[first, .int i 0, .ref a, .int n 0, .int ep 0] }
/-- in which order it goes -/
inductive Mode (w : World) (h : Heap) (a T : Addr) (es : Array (Int × Value)) (ep : Nat) (t : SetTable) (i : Nat) : Value → List Value → Prop
  | text : w.params.followText "set-order" = true → Mode w h a T es ep t i (.int 0 0) ((pickOrder (w.params.setOrder a ep) es).toList.map (·.2))
  | drawn {ps : List Nat} {n' : Nat} : h.get? T = some { cls := .type "tuple", data := .seq (ps.map fun p : Nat => (.int p 0 : Value)).toArray n' } → ps.Perm (List.range es.size) → Mode w h a T es ep t i (.ref T) (ps.map fun p => (es.getD p (0, .none)).2)
  | place {slot : Nat} : w.params.followText "set-order" = false → (t.plain = true ∨ es.size ≤ 1) → SetTable.below t.place slot = i → Mode w h a T es ep t i (.int slot 0) (es.toList.map (·.2))
def SiAt (prog : Program) (w : World) (h : Heap) (I a T : Addr) (es : Array (Int × Value)) (ord : List Value) (i : Nat) : Prop :=
  ∃ o ep t first, h.get? a = some o ∧ o.ExactSet ∧ o.data = .set es ep t ∧ TabL prog w es t ∧ h.get? I = some (siObj first i a es.size ep) ∧ Mode w h a T es ep t i first ord
theorem Mode.perm {h : Heap} {es : Array (Int × Value)} {ep : Nat} {t : SetTable} {i : Nat} {first : Value} {ord : List Value} (m : Mode w h a T es ep t i first ord) : ord.Perm (es.toList.map (·.2)) := by
  cases m with
  | text _ => exact (pick_perm _ es).map _
  | @drawn ps _ _ p =>
    refine (p.map _).trans (List.Perm.of_eq ?_)
    apply List.ext_getElem
    · simp
    · intro j h1 h2
      simp at h1 h2
      simp [h1]
  | place _ _ _ => exact List.Perm.refl _
theorem below_zero {xs : Array Nat} (hs : xs.toList.Pairwise (· < ·)) : SetTable.below xs 0 = 0 := by
  obtain ⟨b1, b2, b3⟩ := below_ok hs 0
  rcases Nat.eq_zero_or_pos (SetTable.below xs 0) with z | z
  · exact z
  · exact absurd (b2 0 (by omega) z) (Nat.not_lt_zero _)
theorem below_next {xs : Array Nat} (hs : xs.toList.Pairwise (· < ·)) {i : Nat} (hi : i < xs.size) : SetTable.below xs (xs[i] + 1) = i + 1 := by
  obtain ⟨b1, b2, b3⟩ := below_ok hs (xs[i] + 1)
  have mono : ∀ j k (hj : j < xs.size) (hk : k < xs.size), j < k → xs[j] < xs[k] := fun j k hj hk hjk => by
    have := (List.pairwise_iff_getElem.mp hs) j k (by simpa using hj) (by simpa using hk) hjk
    simpa using this
  rcases Nat.lt_trichotomy (SetTable.below xs (xs[i] + 1)) (i + 1) with z | z | z
  · have := b3 i hi (by omega)
    omega
  · exact z
  · have h1 : i + 1 < xs.size := by omega
    have := b2 (i + 1) h1 z
    have := mono i (i + 1) hi h1 (Nat.lt_succ_self i)
    omega
theorem iter_l {es : Array (Int × Value)} {Q : Value → Shared → Prop} (hS : AtL prog w s.heap a es) (hz : es.size ≤ sizeLine)
    (h : ∀ (h' : Heap) (d : Drawn) (I T : Addr) (ord : List Value), SiAt prog w h' I a T es ord 0 → ord.Perm (es.toList.map (·.2)) → s.heap.objs.size ≤ I → I < h'.objs.size → a ≠ I → T ≠ I → (T = a ∨ s.heap.objs.size ≤ T) → (∀ b o, s.heap.get? b = some o → h'.get? b = some o) → Q (.ref I) { s with heap := h', drawn := d }) :
    wpAny (model prog w) A (pyIter (.ref a)) Q E s := by
  obtain ⟨o, ep, t, ho, hx, hd, TB⟩ := hS
  have hT : s.TypeIs (.ref a) "set" := ⟨o, ho, hx.1⟩
  have alt := Heap.lt_size ho
  refine wpAny_pyIter_slot hT PySem.F.slot_set_iter (wpAny_call_entry PySem.F.slot_set_iter hT entry_set_iter ?_ (PySem.F.args_set_iter_1 _))
  have start : ∀ (h' : Heap) (d : Drawn) (T : Addr) (first : Value) (ord : List Value), (∀ b o, s.heap.get? b = some o → h'.get? b = some o) → s.heap.objs.size ≤ h'.objs.size → T < h'.objs.size → (T = a ∨ s.heap.objs.size ≤ T) → (∀ h'', (∀ b o, h'.get? b = some o → h''.get? b = some o) → Mode w h'' a T es ep t 0 first ord) →
      wpAny (model prog w) A.in1 (do ret (← newFields "set_iterator" [first, rawInt 0, .ref a, rawInt es.size, rawInt (← setEpoch a)])) (fun f s' => ∃ v, f = .done (.ret v) ∧ ∃ T' r, s'.TypeIs v T' ∧ typeLookup (.type T') "__next__" = pure (some r) ∧ Q v s') E { s with heap := h', drawn := d } := fun h' d T first ord kp hsz hTl hTc md => by
    refine wpAny_bind (wpAny_setEpoch_of (s := { s with heap := h', drawn := d }) (kp a o ho) hd TB.fit ?_)
    refine wpAny_bind (wpAny_newObj_type (wpAny_pure ⟨_, rfl, "set_iterator", _, ⟨_, Heap.get?_push_size _ rfl, rfl⟩, slot_si_next.lookup, ?_⟩))
    have kp2 : ∀ b o', h'.get? b = some o' → (h'.push (siObj first 0 a es.size ep)).get? b = some o' := fun b o' e => Heap.get?_push_of_some _ e
    have z2 : (h'.push (siObj first 0 a es.size ep)).objs.size = h'.objs.size + 1 := Heap.size_push ..
    refine h _ d h'.objs.size T ord ⟨o, ep, t, first, kp2 _ _ (kp a o ho), hx, hd, TB, Heap.get?_push_size _ rfl, md _ kp2⟩ (md _ kp2).perm hsz (Nat.lt_of_lt_of_eq (Nat.lt_succ_self _) z2.symm) (Nat.ne_of_lt (Nat.lt_of_lt_of_le alt hsz)) (Nat.ne_of_lt hTl) hTc fun b o' e => kp2 b o' (kp b o' e)
  refine wpAny_bind (m := Builtin.Frozenset.slot0 "__iter__" ⟨[.ref a], []⟩) ?_
  unfold Builtin.Frozenset.slot0 slotArgs
  refine wpAny_bind (wpAny_pure (wpAny_pure ?_))
  refine wpAny_bind (m := Builtin.Frozenset.sizeOf a) (wpAny_bind (wpAny_setEntries_of ho hd TB.fit (wpAny_pure ?_)))
  refine wpAny_bind (m := setDrawn a) ?_
  unfold setDrawn setsByText
  refine wpAny_bind (wpAny_setState_of ho hd TB.fit ?_)
  dsimp only
  refine wpAny_bind (wpAny_bind (wpAny_askSetting (wpAny_pure (wpAny_pure ?_))))
  show wpAny _ _ (if (!(w.params.followText "set-order") && (!t.plain && decide (es.size > 1))) = true then _ else _) _ _ _
  by_cases c : (!(w.params.followText "set-order") && (!t.plain && decide (es.size > 1))) = true
  · rw [if_pos c]
    refine wpAny_bind (draw_perm _ _ _ _ (by simp) fun ps d p => ?_)
    have pl : ps.length ≤ sizeLine := by
      rw [p.length_eq, List.length_range]
      exact hz
    refine wpAny_bind (wpAny_newTuple ?_ (by rw [List.length_map]; exact pl))
    refine start _ d s.heap.objs.size _ _ (fun b o' e => Heap.get?_push_of_some _ e) ?_ ?_ (.inr (Nat.le_refl _)) fun h'' k => .drawn (k _ _ (Heap.get?_push_size _ rfl)) p
    · rw [Heap.size_push]
      exact Nat.le_succ _
    · rw [Heap.size_push]
      exact Nat.lt_succ_self _
  · rw [if_neg c]
    refine wpAny_bind (wpAny_pure ?_)
    by_cases c1 : w.params.followText "set-order" = true
    · exact start s.heap s.drawn a _ _ (fun _ _ e => e) (Nat.le_refl _) alt (.inl rfl) fun h'' _ => .text c1
    · refine start s.heap s.drawn a _ _ (fun _ _ e => e) (Nat.le_refl _) alt (.inl rfl) fun h'' _ => .place (slot := 0) (by simpa using c1) ?_ (below_zero TB.rz.up)
      rw [Bool.not_eq_true] at c1
      rw [c1] at c
      by_cases c2 : t.plain = true
      · exact .inl c2
      · rw [Bool.not_eq_true] at c2
        rw [c2] at c
        simp at c
        exact .inr c
theorem setWalk_text {es : Array (Int × Value)} {o : Obj} {ep : Nat} {t : SetTable} {Q : Array (Int × Value) → Shared → Prop} (ho : s.heap.get? a = some o) (hd : o.data = .set es ep t) (hf : t.fits es.size = true) (c : w.params.followText "set-order" = true) (h : Q (pickOrder (w.params.setOrder a ep) es) s) : wpAny (model prog w) A (setWalk a) Q E s := by
  unfold setWalk setsByText
  refine wpAny_bind (wpAny_setState_of ho hd hf ?_)
  dsimp only
  refine wpAny_bind (wpAny_bind (wpAny_askSetting (wpAny_pure ?_)))
  rw [if_pos (show (model prog w).w.params.followText "set-order" = true from c)]
  exact wpAny_bind (wpAny_askSetting (wpAny_pure h))
/-- by its text -/
theorem setNext_text {es : Array (Int × Value)} {o : Obj} {ep slot i : Nat} {t : SetTable} {Q : Option (Value × Nat) → Shared → Prop} (ho : s.heap.get? a = some o) (hd : o.data = .set es ep t) (hf : t.fits es.size = true) (c : w.params.followText "set-order" = true)
    (h : Q (((pickOrder (w.params.setOrder a ep) es)[i]?).map fun e => (e.2, slot)) s) : wpAny (model prog w) A (setNext a slot i ep) Q E s := by
  unfold setNext setsByText
  refine wpAny_bind (wpAny_setState_of ho hd hf ?_)
  dsimp only
  refine wpAny_bind (wpAny_bind (wpAny_askSetting (wpAny_pure ?_)))
  rw [if_pos (show (model prog w).w.params.followText "set-order" = true from c)]
  rw [if_neg (by simp)]
  exact wpAny_bind (setWalk_text ho hd hf c (wpAny_pure h))
/-- by rising places -/
theorem setNext_place {es : Array (Int × Value)} {o : Obj} {ep slot i : Nat} {t : SetTable} {Q : Option (Value × Nat) → Shared → Prop} (ho : s.heap.get? a = some o) (hd : o.data = .set es ep t) (TB : TabL prog w es t) (c : w.params.followText "set-order" = false) (cp : t.plain = true ∨ es.size ≤ 1)
    (h : Q (match es[SetTable.below t.place slot]?, t.place[SetTable.below t.place slot]? with | some (_, x), some j => some (x, j + 1) | _, _ => none) s) : wpAny (model prog w) A (setNext a slot i ep) Q E s := by
  unfold setNext setsByText
  refine wpAny_bind (wpAny_setState_of ho hd TB.fit ?_)
  dsimp only
  refine wpAny_bind (wpAny_bind (wpAny_askSetting (wpAny_pure ?_)))
  rw [if_neg (show ¬ (model prog w).w.params.followText "set-order" = true from fun z => by rw [show (model prog w).w.params.followText "set-order" = false from c] at z; cases z)]
  have nd : (!t.plain && decide (es.size > 1)) = false := by
    rcases cp with z | z
    · rw [z]; rfl
    · rw [decide_eq_false (by omega)]; simp
  show wpAny _ _ (if (!t.plain && decide (es.size > 1)) = true then _ else _) _ _ _
  rw [if_neg (show ¬ (!t.plain && decide (es.size > 1)) = true from fun z => by rw [nd] at z; cases z)]
  have ld : (!t.led && !es.isEmpty) = false := by rw [TB.led, c]; rfl
  refine wpAny_bind (m := if (!t.led && !es.isEmpty) = true then unsupported "set:maker-not-led" else pure ()) ?_
  rw [if_neg (by rw [ld]; exact Bool.false_ne_true)]
  exact wpAny_pure (wpAny_pure h)
theorem setNext_drawn {es : Array (Int × Value)} {o : Obj} {ep p : Nat} {t : SetTable} {e : Int × Value} {Q : Value → Shared → Prop} (ho : s.heap.get? a = some o) (hd : o.data = .set es ep t) (hf : t.fits es.size = true) (he : es[p]? = some e) (h : Q e.2 s) : wpAny (model prog w) A (setNextDrawn a p ep) Q E s := by
  unfold setNextDrawn
  refine wpAny_bind (wpAny_setState_of ho hd hf ?_)
  dsimp only
  rw [if_neg (by simp), he]
  exact wpAny_pure h
theorem next_item {es : Array (Int × Value)} {ord : List Value} {i : Nat} {Q : Option Value → Shared → Prop} (X : SiAt prog w s.heap I a T es ord i) (hi : i < es.size) (na : a ≠ I) (nT : T ≠ I)
    (h : ∀ v h', ord[i]? = some v → SiAt prog w h' I a T es ord (i + 1) → Heap.SameBut I s.heap h' → Q (some v) { s with heap := h' }) : wpAny (model prog w) A (pyNext (.ref I)) Q E s := by
  obtain ⟨o, ep, t, first, ho, hx, hd, TB, hI, md⟩ := X
  have hT : s.TypeIs (.ref I) "set_iterator" := ⟨_, hI, rfl⟩
  unfold pyNext
  refine wpAny_bind (wpAny_attempt (wpAny_callSpecial?_slot (name := Str.ofString "__next__") hT slot_si_next (wpAny_call_entry slot_si_next hT entry_si_next ?_ (args_si_next _))))
  unfold Builtin.«set_iterator.__next__» slotArgs
  refine wpAny_bind (wpAny_pure ?_)
  refine wpAny_bind (wpAny_fieldsOf hI rfl ?_)
  dsimp only
  refine wpAny_bind (wpAny_setEntries_of ho hd TB.fit ?_)
  rw [if_neg (by simp)]
  have hpl : t.place.size = es.size := by
    have := TB.fit
    simp only [SetTable.fits, Bool.and_eq_true, beq_iff_eq] at this
    exact this.1
  have two : ∀ (f : Value) (next : Nat) (v : Value) (R : Fin → Shared → Prop) (E' : Value → Shared → Prop), ord[i]? = some v → first = f → (∀ h', Heap.SameBut I s.heap h' → Mode w h' a T es ep t (i + 1) (.int next 0) ord) → (∀ h', SiAt prog w h' I a T es ord (i + 1) → Heap.SameBut I s.heap h' → R (.done (.ret v)) { s with heap := h' }) →
      wpAny (model prog w) A.in1 (do setField (.ref I) 0 (rawInt next); setField (.ref I) 1 (rawInt ((i : Int) + 1)); ret v) R E' s := fun f next v R E' hv hf md' q => by
    have g1 : (s.heap.update I (Obj.mapFields (·.setIfInBounds 0 (rawInt next)))).get? I = some (siObj (.int next 0) i a es.size ep) := Heap.get?_update_self _ hI rfl
    refine wpAny_bind (wpAny_setField hI rfl (by simp) ?_)
    have g2 : ((s.heap.update I (Obj.mapFields (·.setIfInBounds 0 (rawInt next)))).update I (Obj.mapFields (·.setIfInBounds 1 (rawInt ((i : Int) + 1))))).get? I = some (siObj (.int next 0) (i + 1) a es.size ep) := Heap.get?_update_self _ g1 rfl
    refine wpAny_bind (wpAny_setField g1 rfl (by simp) (wpAny_pure ?_))
    have sb := (Heap.SameBut.update s.heap I (Obj.mapFields (·.setIfInBounds 0 (rawInt next)))).trans (Heap.SameBut.update _ I (Obj.mapFields (·.setIfInBounds 1 (rawInt ((i : Int) + 1)))))
    exact q _ ⟨o, ep, t, _, (sb.2 a na).trans ho, hx, hd, TB, g2, md' _ sb⟩ sb
  have fin : ∀ v h', ord[i]? = some v → SiAt prog w h' I a T es ord (i + 1) → Heap.SameBut I s.heap h' → ∃ v', (Fin.done (.ret v) = .done (.ret v')) ∧ wpAny (model prog w) A (pure (some v')) Q E { s with heap := h' } := fun v h' hv X sb => ⟨v, rfl, wpAny_pure (h v h' hv X sb)⟩
  cases md with
  | text c =>
    have hl : i < (pickOrder (w.params.setOrder a ep) es).size := by
      have := (pick_perm (w.params.setOrder a ep) es).length_eq
      rw [Array.length_toList, Array.length_toList] at this
      omega
    show wpAny _ _ (setNext a (Int.toNat ((0 : Nat) : Int)) (Int.toNat ((i : Nat) : Int)) (Int.toNat ((ep : Nat) : Int)) >>= _) _ _ _
    rw [Int.toNat_natCast, Int.toNat_natCast, Int.toNat_natCast]
    refine wpAny_bind (setNext_text ho hd TB.fit c ?_)
    rw [Array.getElem?_eq_getElem hl]
    have hv : ((pickOrder (w.params.setOrder a ep) es).toList.map (·.2))[i]? = some (pickOrder (w.params.setOrder a ep) es)[i].2 := by
      rw [List.getElem?_map, Array.getElem?_toList, Array.getElem?_eq_getElem hl]
      rfl
    exact two (.int 0 0) 0 _ (fun fin s' => ∃ v', fin = .done (.ret v') ∧ wpAny (model prog w) A (pure (some v')) Q E s') _ hv rfl (fun h' _ => .text c) fun h' X sb => fin _ h' hv X sb
  | @drawn ps n' hTt p =>
    have hl : i < ps.length := by rw [p.length_eq, List.length_range]; exact hi
    have hp : ps[i] < es.size := List.mem_range.mp (p.mem_iff.mp (List.getElem_mem hl))
    have hv : (ps.map fun p => (es.getD p (0, .none)).2)[i]? = some es[ps[i]].2 := by
      rw [List.getElem?_map, List.getElem?_eq_getElem hl]
      simp [hp]
    show wpAny _ _ (seqItems? (.ref T) >>= _) _ _ _
    refine wpAny_bind (wpAny_seqItems hTt rfl ?_)
    have hi' : (ps.map fun p : Nat => (.int p 0 : Value)).toArray[Int.toNat ((i : Nat) : Int)]? = some (.int (ps[i] : Nat) 0) := by
      rw [Int.toNat_natCast]
      simp [hl]
    dsimp only
    rw [hi']
    show wpAny _ _ (setNextDrawn a (Int.toNat ((ps[i] : Nat) : Int)) (Int.toNat ((ep : Nat) : Int)) >>= _) _ _ _
    rw [Int.toNat_natCast, Int.toNat_natCast]
    refine wpAny_bind (setNext_drawn ho hd TB.fit (Array.getElem?_eq_getElem hp) ?_)
    have g2 : (s.heap.update I (Obj.mapFields (·.setIfInBounds 1 (rawInt ((i : Int) + 1))))).get? I = some (siObj (.ref T) (i + 1) a es.size ep) := Heap.get?_update_self _ hI rfl
    refine wpAny_bind (wpAny_setField hI rfl (by simp) (wpAny_pure ?_))
    have sb := Heap.SameBut.update s.heap I (Obj.mapFields (·.setIfInBounds 1 (rawInt ((i : Int) + 1))))
    exact fin _ _ hv ⟨o, ep, t, _, (sb.2 a na).trans ho, hx, hd, TB, g2, .drawn ((sb.2 T nT).trans hTt) p⟩ sb
  | @place slot c cp hb =>
    have hip : i < t.place.size := by omega
    show wpAny _ _ (setNext a (Int.toNat ((slot : Nat) : Int)) (Int.toNat ((i : Nat) : Int)) (Int.toNat ((ep : Nat) : Int)) >>= _) _ _ _
    rw [Int.toNat_natCast, Int.toNat_natCast, Int.toNat_natCast]
    refine wpAny_bind (setNext_place ho hd TB c cp ?_)
    rw [hb, Array.getElem?_eq_getElem hi, Array.getElem?_eq_getElem hip]
    have hv : (es.toList.map (·.2))[i]? = some es[i].2 := by
      rw [List.getElem?_map, Array.getElem?_toList, Array.getElem?_eq_getElem hi]
      rfl
    exact two (.int slot 0) (t.place[i] + 1) _ (fun fin s' => ∃ v', fin = .done (.ret v') ∧ wpAny (model prog w) A (pure (some v')) Q E s') _ hv rfl (fun h' _ => .place c cp (below_next TB.rz.up hip)) fun h' X sb => fin _ h' hv X sb
/-- the end of the walk -/
theorem next_end {es : Array (Int × Value)} {ord : List Value} {Q : Option Value → Shared → Prop} (hh : A.handled = none) (X : SiAt prog w s.heap I a T es ord es.size)
    (h : ∀ h', Heap.ExtBut I s.heap h' → Q none { s with heap := h' }) : wpAny (model prog w) A (pyNext (.ref I)) Q E s := by
  obtain ⟨o, ep, t, first, ho, hx, hd, TB, hI, md⟩ := X
  have hT : s.TypeIs (.ref I) "set_iterator" := ⟨_, hI, rfl⟩
  unfold pyNext
  refine wpAny_bind (wpAny_attempt (wpAny_callSpecial?_slot (name := Str.ofString "__next__") hT slot_si_next (wpAny_call_entry slot_si_next hT entry_si_next ?_ (args_si_next _))))
  unfold Builtin.«set_iterator.__next__» slotArgs
  refine wpAny_bind (wpAny_pure ?_)
  refine wpAny_bind (wpAny_fieldsOf hI rfl ?_)
  dsimp only
  refine wpAny_bind (wpAny_setEntries_of ho hd TB.fit ?_)
  rw [if_neg (by simp)]
  have hpl : t.place.size = es.size := by
    have := TB.fit
    simp only [SetTable.fits, Bool.and_eq_true, beq_iff_eq] at this
    exact this.1
  /- the iterator lets go of the set and ends -/
  have stop : ∀ (s1 : Shared) (f0 : Value), s1.heap.get? I = some (siObj f0 es.size a es.size ep) → (∀ h', Heap.ExtBut I s1.heap h' → Q none { s1 with heap := h' }) →
      wpAny (model prog w) A.in1 (do setField (.ref I) 2 .none; raiseNew (← newExc (.type "StopIteration") []) : Sem Fin) (fun f s' => ∃ v, f = .done (.ret v) ∧ wpAny (model prog w) A (pure (some v)) Q E s') (fun e s' => wpAny (model prog w) A (do if ← isInstance e (.type "StopIteration") then pure none else throw e) Q E s') s1 := fun s1 f0 g q => by
    refine wpAny_bind (wpAny_setField g rfl (by simp) ?_)
    refine wpAny_bind (m := newExc (.type "StopIteration") []) ?_
    simp only [newExc, newTuple]
    refine wpAny_bind (wpAny_newObj_type ?_ (by size_fits))
    refine wpAny_bind (m := firstArgMember _ _) (wpAny_of_eq (a := Value.none) (by first | rfl | (simp only [firstArgMember]; rfl)) ?_)
    refine wpAny_newObj_type ?_ (by size_fits)
    simp only [raiseNew]
    refine wpAny_bind (wpAny_handled ?_)
    first | rw [show A.in1.handled = none from hh] | rw [hh]
    refine wpAny_bind (wpAny_pure (wpAny_throw ?_))
    refine wpAny_bind (wpAny_isInstance (T := "StopIteration") (b := true) ⟨_, Heap.get?_push_size _ rfl, rfl⟩ isSubtype_stop ?_)
    exact wpAny_pure (q _ (((Heap.SameBut.update ..).extBut.push _).push _))
  cases md with
  | text c =>
    have hl : (pickOrder (w.params.setOrder a ep) es).size = es.size := by
      have := (pick_perm (w.params.setOrder a ep) es).length_eq
      rwa [Array.length_toList, Array.length_toList] at this
    show wpAny _ _ (setNext a (Int.toNat ((0 : Nat) : Int)) (Int.toNat ((es.size : Nat) : Int)) (Int.toNat ((ep : Nat) : Int)) >>= _) _ _ _
    rw [Int.toNat_natCast, Int.toNat_natCast, Int.toNat_natCast]
    refine wpAny_bind (setNext_text ho hd TB.fit c ?_)
    rw [Array.getElem?_eq_none (by omega)]
    exact stop s _ hI h
  | @drawn ps n' hTt p =>
    have hl : ps.length = es.size := by rw [p.length_eq, List.length_range]
    show wpAny _ _ (seqItems? (.ref T) >>= _) _ _ _
    refine wpAny_bind (wpAny_seqItems hTt rfl ?_)
    have hi' : (ps.map fun p : Nat => (.int p 0 : Value)).toArray[Int.toNat ((es.size : Nat) : Int)]? = none := by
      rw [Int.toNat_natCast]
      simp [hl]
    dsimp only
    rw [hi']
    have g1 : (s.heap.update I (Obj.mapFields (·.setIfInBounds 0 (rawInt 0)))).get? I = some (siObj (.int 0 0) es.size a es.size ep) := Heap.get?_update_self _ hI rfl
    refine wpAny_bind (wpAny_setField hI rfl (by simp) ?_)
    exact stop { s with heap := s.heap.update I (Obj.mapFields (·.setIfInBounds 0 (rawInt 0))) } _ g1 fun h' x => h h' fun b o hb e => x b o hb (((Heap.SameBut.update s.heap I _).2 b hb).trans e)
  | @place slot c cp hb =>
    show wpAny _ _ (setNext a (Int.toNat ((slot : Nat) : Int)) (Int.toNat ((es.size : Nat) : Int)) (Int.toNat ((ep : Nat) : Int)) >>= _) _ _ _
    rw [Int.toNat_natCast, Int.toNat_natCast, Int.toNat_natCast]
    refine wpAny_bind (setNext_place ho hd TB c cp ?_)
    rw [hb, Array.getElem?_eq_none (Nat.le_refl _)]
    exact stop s _ hI h
theorem slot_si_iter : Slot "set_iterator" "__iter__" "set_iterator.__iter__" :=
  .of (owner := "set_iterator") (n := "__iter__") (by rw [typeLookup_type, builtinLookup_eq_fast]; kernel_rfl) (by decide +kernel) (by decide +kernel) (by decide +kernel)
    (by first | exact .inl (by decide +kernel) | exact .inr (by decide +kernel)) (by rw [isSubtype_type]; kernel_rfl)
theorem entry_si_iter : entryFor table "set_iterator.__iter__" = some Builtin.«dict_keyiterator.__iter__» := entryFor_alias (id' := "dict_keyiterator.__iter__") (by kernel_rfl) rfl (by decide +kernel) (by kernel_rfl)
theorem args_si_iter (a : Value) : argsOk "set_iterator.__iter__" ⟨[a], []⟩ := by unfold argsOk; kernel_rfl
theorem Mode.stay {h h' : Heap} {es : Array (Int × Value)} {ep : Nat} {t : SetTable} {i : Nat} {first : Value} {ord : List Value} (m : Mode w h a T es ep t i first ord) (k : ∀ o, h.get? T = some o → h'.get? T = some o) : Mode w h' a T es ep t i first ord := by
  cases m with
  | text c => exact .text c
  | drawn e p => exact .drawn (k _ e) p
  | place c cp hb => exact .place c cp hb
theorem walk_l {es : Array (Int × Value)} {ord : List Value} (hh : A.handled = none) (na : a ≠ I) (nT : T ≠ I) : Walks prog w A I [I, a, T] [I] es.size (fun i v => ord[i]? = some v) (fun i h => SiAt prog w h I a T es ord i) where
  sub := fun b hb => by rw [List.mem_singleton.mp hb]; simp
  frame := fun i h h' X k => by
    obtain ⟨o, ep, t, first, ho, hx, hd, TB, hI, md⟩ := X
    exact ⟨o, ep, t, first, k a (by simp) o ho, hx, hd, TB, k I (by simp) _ hI, md.stay fun o e => k T (by simp) o e⟩
  item := fun i s Q E hi X q => next_item X hi na nT fun v h' hv X' sb => q v h' s.toks hv X' fun b o hb e => (sb.2 b fun z => hb (by simp [z])).trans e
  done := fun s Q E X q => next_end hh X fun h' x => q h' s.toks fun b o hb e => x b o (fun z => hb (by simp [z])) e
  self := fun i s Q E X q => by
    obtain ⟨o, ep, t, first, ho, hx, hd, TB, hI, md⟩ := X
    have hT : s.TypeIs (.ref I) "set_iterator" := ⟨_, hI, rfl⟩
    refine wpAny_pyIter_slot hT slot_si_iter (wpAny_call_entry slot_si_iter hT entry_si_iter ?_ (args_si_iter _))
    show wpAny _ _ (ret (.ref I)) _ _ s
    exact wpAny_pure ⟨_, rfl, "set_iterator", _, hT, slot_si_next.lookup, q⟩
/-- what a set leaves in a list -/
theorem collect_l {es : Array (Int × Value)} {Q : List Value → Shared → Prop} (hh : A.handled = none) (hS : AtL prog w s.heap a es) (hz : es.size ≤ sizeLine)
    (h : ∀ (h' : Heap) (d : Drawn) (tk : Nat) (vs : List Value), vs.Perm (es.toList.map (·.2)) → s.heap.objs.size < h'.objs.size → (∀ b o, s.heap.get? b = some o → h'.get? b = some o) → Q vs { s with heap := h', drawn := d, toks := tk }) :
    wpAny (model prog w) A (collect (.ref a)) Q E s := by
  have alt : a < s.heap.objs.size := by
    obtain ⟨o, _, _, ho, _⟩ := hS
    exact Heap.lt_size ho
  have hT : ∀ h', (∀ b o, s.heap.get? b = some o → h'.get? b = some o) → ∀ d tk, Shared.TypeIs { s with heap := h', drawn := d, toks := tk } (.ref a) "set" := fun h' k d tk => by
    obtain ⟨o, _, _, ho, hx, _⟩ := hS
    exact ⟨o, k a o ho, hx.1⟩
  unfold collect
  refine wpAny_bind (wpAny_runValue (codeAny_builtin PySem.F.entry_proto_collect ?_))
  rw [Around.under_plainId PySem.F.plain_proto_collect _]
  refine wpAny_bind (m := newList []) (wpAny_newList (wpAny_pure ⟨plainId_quiet PySem.F.plain_list_iadd _, codeAny_builtin entry_list_iadd' ?_⟩))
  rw [Around.under_plainId PySem.F.plain_list_iadd _]
  have k1 : ∀ b o, s.heap.get? b = some o → (s.heap.push { cls := .type "list", data := .seq ([] : List Value).toArray }).get? b = some o := fun b o e => Heap.get?_push_of_some _ e
  have g1 : (s.heap.push { cls := .type "list", data := .seq ([] : List Value).toArray }).get? s.heap.objs.size = some { cls := .type "list", data := .seq ([] : List Value).toArray } := Heap.get?_push_size _ rfl
  have z1 : (s.heap.push { cls := .type "list", data := .seq ([] : List Value).toArray }).objs.size = s.heap.objs.size + 1 := Heap.size_push ..
  show wpAny _ A.in1 (Builtin.List.listExtendWith (.ref s.heap.objs.size) (.ref a) (.ref s.heap.objs.size)) _ _ _
  generalize s.heap.push { cls := .type "list", data := .seq ([] : List Value).toArray } = h1 at k1 g1 z1 ⊢
  unfold Builtin.List.listExtendWith
  refine wpAny_bind (wpAny_typeOf (hT h1 k1 _ _) ?_)
  have nS : s.heap.objs.size ≠ a := Nat.ne_of_gt alt
  have e1 : Builtin.List.listSameRef (.ref s.heap.objs.size) (.ref a) = false := by simp [Builtin.List.listSameRef, nS]
  rw [e1, if_neg (by decide)]
  refine wpAny_bind (iter_l (s := { s with heap := h1 }) (hS.stay (k1 a)) hz fun h2 d I T ord X po lI lI2 na nT lT k2 => ?_)
  have k12 : ∀ b o, s.heap.get? b = some o → h2.get? b = some o := fun b o e => k2 b o (k1 b o e)
  refine wpAny_bind (wpAny_holding ?_)
  unfold Builtin.List.listLengthHint
  refine wpAny_bind (wpAny_specialOf (hT h2 k12 _ _) PySem.F.slot_set_len.lookup ?_)
  have hsp : splitId "set.__len__" = some ("set", "__len__") := by kernel_rfl
  dsimp only
  rw [hsp]
  dsimp only
  refine wpAny_bind (wpAny_isInstance (hT h2 k12 _ _) sub_set_self ?_)
  rw [if_neg (by decide)]
  rw [if_pos (by decide +kernel)]
  refine wpAny_bind (wpAny_typeOf (hT h2 k12 _ _) ?_)
  refine wpAny_pure ?_
  rw [if_pos (by decide +kernel)]
  refine wpAny_bind (wpAny_rule ?_)
  have g2 := k2 _ _ g1
  refine wpAny_bind (m := Builtin.List.listTouch (.ref s.heap.objs.size)) ?_
  show wpAny _ A.in1 (updateSeq s.heap.objs.size (·.push .none) >>= fun _ => updateSeq s.heap.objs.size (·.pop)) _ _ _
  refine wpAny_bind (wpAny_updateSeq g2 rfl ?_)
  have g3 := Heap.get?_update_self (Obj.mapSeq (·.push Value.none)) g2 rfl
  refine wpAny_updateSeq g3 rfl ?_
  have g4 := Heap.get?_update_self (Obj.mapSeq (·.pop)) g3 rfl
  have sb := (Heap.SameBut.update h2 s.heap.objs.size (Obj.mapSeq (·.push Value.none))).trans (Heap.SameBut.update _ s.heap.objs.size (Obj.mapSeq (·.pop)))
  have lS : s.heap.objs.size < I := by
    have lI : h1.objs.size ≤ I := lI
    omega
  have nST : s.heap.objs.size ≠ T := fun z => by
    rcases lT with lT | lT
    · exact nS (z.trans lT)
    · have lT : h1.objs.size ≤ T := lT
      omega
  have X4 := (walk_l (prog := prog) (w := w) (A := A.in1) (a := a) (T := T) (es := es) (ord := ord) hh na nT).frame 0 h2 _ X fun b hb o e => (sb.2 b fun z => by
    subst z
    simp only [List.mem_cons, List.not_mem_nil, or_false] at hb
    rcases hb with hb | hb | hb
    · exact Nat.ne_of_lt lS hb
    · exact nS hb
    · exact nST hb).trans e
  have nf : s.heap.objs.size ∉ [I, a, T] := fun hb => by
    simp only [List.mem_cons, List.not_mem_nil, or_false] at hb
    rcases hb with hb | hb | hb
    · exact Nat.ne_of_lt lS hb
    · exact nS hb
    · exact nST hb
  refine wpAny_pure ⟨plainId_quiet PySem.F.plain_extend_loop _, codeAny_extend_loopS ((walk_l (prog := prog) (w := w) (a := a) (T := T) (es := es) (ord := ord) (by simp [hh]) na nT).toS) hz _ nf _ es.size 0 _ _ _ rfl (Nat.zero_le _) X4 g4 (ItemsOf.nil _) fun s' acc c hm hS' hacc => ?_⟩
  refine wpAny_bind (m := load s.heap.objs.size) (wpAny_load hS' ?_)
  have eo : acc.toList = ord := by
    have lo : ord.length = es.size := by rw [po.length_eq, List.length_map, Array.length_toList]
    obtain ⟨h5, h6⟩ := hacc
    apply List.ext_getElem?
    intro j
    by_cases hj : j < es.size
    · have hj' : j < acc.size := by omega
      rw [Array.getElem?_toList, Array.getElem?_eq_getElem hj']
      exact (h6 j _ (Array.getElem?_eq_getElem hj')).symm
    · rw [Array.getElem?_toList, Array.getElem?_eq_none (by omega), List.getElem?_eq_none (by omega)]
  obtain ⟨h', g', d', tk', os'⟩ := s'
  obtain rfl : g' = s.gens := hm.gens
  obtain rfl : d' = d := hm.drawn
  obtain rfl : os' = s.os := hm.os
  refine wpAny_pure ?_
  rw [eo]
  refine h h' d' tk' ord po (Heap.lt_size hS') fun b o e => hm.heap b o (fun z => ?_) ((sb.2 b fun z => ?_).trans (k12 b o e))
  · have lb := Heap.lt_size e
    rcases List.mem_cons.mp z with z | z
    · exact Nat.ne_of_lt lb z
    · exact Nat.ne_of_lt (Nat.lt_trans lb lS) (List.mem_singleton.mp z)
  · exact Nat.ne_of_lt (Heap.lt_size e) z
def vInt : Value → Int
  | .int n _ => n
  | _ => 0
theorem ints_vs : ∀ {vs : List Value}, (∀ v ∈ vs, ∃ n t, v = .int n t) → IntsAre vs (vs.map vInt)
  | [], _ => .nil
  | v :: vs, h => by
    obtain ⟨n, t, rfl⟩ := h v (by simp)
    exact .cons n t (ints_vs fun v hv => h v (List.mem_cons_of_mem _ hv))
/-- sorted(set of numbers) -/
theorem sorted_l {L : List Int} {Q : Value → Shared → Prop} (hh : A.handled = none) (hS : SetL prog w s.heap a L) (h64 : L.length < 64)
    (h : ∀ (h' : Heap) (d : Drawn) (tk : Nat) (r : Addr) (out : Array Value) (ns : List Int) (e : Nat), IntsAre out.toList ns → ns.Perm L → ns.Pairwise (· ≤ ·) → h'.get? r = some (seqObj "list" out e) → s.heap.objs.size ≤ r → (∀ b o, s.heap.get? b = some o → h'.get? b = some o) → Q (.ref r) { s with heap := h', drawn := d, toks := tk }) :
    wpAny (model prog w) A (call (.builtin "sorted") [.ref a]) Q E s := by
  obtain ⟨es, hA, rfl⟩ := hS
  have hel : ElemsOf (intKind prog w) es.toList := by
    obtain ⟨_, _, _, _, _, _, TB⟩ := hA
    exact TB.el
  rw [List.length_map, Array.length_toList] at h64
  refine Calls.call_function_entry kind_sorted plain_sorted entry_sorted (args_sorted1 _) ?_
  unfold Builtin.«sorted»
  refine wpAny_bind (m := checkCount "sorted" 1 1 _) (wpAny_pure ?_)
  refine wpAny_bind (collect_l (by simp [hh]) hA (Nat.le_trans (Nat.le_of_lt h64) (by decide)) fun h1 d tk vs p l1 k1 => ?_)
  have hi : ∀ v ∈ vs, ∃ n t, v = .int n t := fun v hv => by
    obtain ⟨e, he, rfl⟩ := List.mem_map.mp (p.mem_iff.mp hv)
    obtain ⟨n, t, e1, _⟩ := el_int hel he
    exact ⟨n, t, e1⟩
  have pn : (vs.map vInt).Perm (es.toList.map enK) := by
    refine (p.map vInt).trans (List.Perm.of_eq ?_)
    rw [List.map_map]
    refine List.map_congr_left fun e he => ?_
    obtain ⟨n, t, e1, e2⟩ := el_int hel he
    show vInt e.2 = enK e
    rw [e2, e1]
    rfl
  have vl : vs.length < 64 := by
    rw [p.length_eq, List.length_map, Array.length_toList]
    exact h64
  refine wpAny_bind (wpAny_newList ?_ (Nat.le_trans (Nat.le_of_lt vl) (by decide)))
  have g : (h1.push (seqObj "list" vs.toArray 0)).get? h1.objs.size = some (seqObj "list" vs.toArray 0) := Heap.get?_push_size _ rfl
  refine wpAny_bind (wpAny_holding (wpAny_call_entry slot_list_sort ⟨_, g, rfl⟩ entry_list_sort (list_sort_tree (s := { s with heap := h1.push (seqObj "list" vs.toArray 0), drawn := d, toks := tk }) g (ints_vs hi) vl fun out ns' a1 a2 a3 => ⟨_, rfl, ?_⟩) (args_list_sort _)))
  obtain ⟨e, he⟩ := sortedHeap_at (out := out) g
  refine wpAny_pure ⟨_, rfl, h _ d tk h1.objs.size out ns' e a1 (a2.trans pn) a3 he (Nat.le_of_lt l1) fun b o hb => ?_⟩
  have hb1 := k1 b o hb
  have lb := Heap.lt_size hb1
  rw [sortedHeap_old (Nat.ne_of_lt lb) (by rw [size_push']; exact Nat.lt_succ_of_lt lb)]
  exact Heap.get?_push_of_some _ hb1
end
/-! ### the rules -/
theorem Inv.drew {X : Cx} {pins : List (Addr × Obj)} {σ : St} {H : Hp} {s : Shared} (I : Inv X pins σ H s) (d : Drawn) : Inv X pins σ H { s with drawn := d } := ⟨I.ok, I.os, I.bare, I.base, I.loc, I.cell, I.free, I.freeC, I.pin, I.hok, I.len⟩
def LS (P : Program) (w : World) (a : Addr) (L : List Int) : HO := .ext fun h => SetL P w h a L
/-- set(list of numbers) that will be walked -/
def rSetW (P : Program) (w : World) (K : PySem.W.Frag) : List V → Hp → VK → Prop := fun xs H Q => ∃ (a : Addr) (ns : List Int), xs = [.ref a] ∧ SqL K H a (ns.map V.int) ∧ ns.length ≤ 1000 ∧ ∀ (l : Addr) (L : List Int), H l = none → L.Nodup → (∀ x, x ∈ L ↔ x ∈ ns) → Q (.ref l) (upd H l (LS P w l L))
theorem call_setW {X : Cx} (hc : X.calm = true) : CallR X (.type "set") (rSetW X.prog X.w X.K) := by
  intro pins s σ H xs us Q I r h
  obtain ⟨a, ns, rfl, hq, hl, q⟩ := h
  obtain ⟨u, rfl, rx⟩ := vals1 r
  cases rx
  obtain ⟨its, r', pl, hz⟩ := I.list hq
  have hlen := r'.length
  rw [List.length_map] at hlen
  refine set_list_l (ns := ns) (I.ok.hd hc) pl.isList (by simpa using ints_of_vals r') (by rw [List.size_toArray, ← hlen]; exact Nat.lt_of_le_of_lt (Nat.succ_le_succ hl) (by decide)) fun h' tk L hS nd mem kp => ?_
  refine ⟨.ref s.heap.objs.size, _, I.laid (t' := tk) (o := LS X.prog X.w s.heap.objs.size L) (fun b o e => kp b o e) (Nat.le_refl _) ⟨hS, ?_, fun _ _ p k => p.stay k⟩, rfl, q _ L (I.hok.fresh (Nat.le_refl _)) nd mem⟩
  obtain ⟨es, ⟨o, _, _, ho, _⟩, _⟩ := hS
  exact ⟨o, ho⟩
def rSortS (P : Program) (w : World) : List V → Hp → VK → Prop := fun xs H Q => ∃ (a : Addr) (L : List Int), xs = [.ref a] ∧ H a = some (LS P w a L) ∧ L.length < 64 ∧ ∀ (l : Addr) (ns : List Int), H l = none → ns.Perm L → ns.Pairwise (· ≤ ·) → Q (.ref l) (upd H l (.lst (ns.map V.int)))
theorem call_sortS {X : Cx} (hc : X.calm = true) : CallR X (.builtin "sorted") (rSortS X.prog X.w) := by
  intro pins s σ H xs us Q I r h
  obtain ⟨a, L, rfl, ha, h64, q⟩ := h
  obtain ⟨u, rfl, rx⟩ := vals1 r
  cases rx
  have hS : SetL X.prog X.w s.heap a L := (I.hok a _ ha).1
  refine sorted_l (I.ok.hd hc) hS h64 fun h' d tk r out ns e a1 a2 a3 hr hle kp => ?_
  have hl2 := a2.length_eq
  refine ⟨.ref r, _, (I.drew d).laid (t' := tk) (o := .lst (ns.map V.int)) (fun b o e => kp b o e) hle ?_, rfl, q r ns (I.hok.fresh hle) a2 a3⟩
  refine ⟨by rw [List.length_map, hl2]; exact Nat.le_trans (Nat.le_of_lt h64) (by decide), out.toList, e, vals_of_ints a1, ?_⟩
  rw [Array.toArray_toList]
  exact hr
end L2
namespace E1
open PySem L2
abbrev pw : Program := PySem.Challenge.pw_evenmeet_k42_whole_grown_arcs
def top (i : Nat) : Stmt := pw.main.body.getD i (.Pass ⟨0, 0, 0, 0⟩)
abbrev sMarksOf : Stmt := top 1
abbrev sArcTold : Stmt := top 12
abbrev sGrownArc : Stmt := top 13
abbrev sTwoBeside : Stmt := top 14
abbrev sMarkedOf : Stmt := top 15
abbrev sAllMarked : Stmt := top 16
abbrev sCell : Stmt := top 18
abbrev sLNumbers : Stmt := top 19
abbrev sLRow : Stmt := top 20
abbrev sLMask : Stmt := top 21
abbrev sLOfSize : Stmt := top 22
abbrev sLAllSets : Stmt := top 23
abbrev sLTurnedBase : Stmt := top 24
abbrev sLEvenBlocks : Stmt := top 25
abbrev sLLayout : Stmt := top 26
abbrev sLThree : Stmt := top 27
abbrev sLShownRight : Stmt := top 28
abbrev sLRight : Stmt := top 29
abbrev sLBlock : Stmt := top 30
abbrev sLaw : Stmt := top 31
abbrev sXInit : Stmt := inClass (top 9) 0
section
variable {P : Program} {w : World} {K : PySem.W.Frag} {mg : Str → Option Value} {base : Heap} {M C : Addr}
structure RefsX (K : PySem.W.Frag) (M C fI o1 o2 o3 o4 o5 o6 : Addr) (fd : FuncData) : Prop where
  nM : PySem.W.nsIn K mainGlobals "MeetError" = some (some (.ref M))
  nC : PySem.W.nsIn K mainGlobals "NoArc" = some (some (.ref C))
  n1 : PySem.W.nsIn K mainGlobals "NoBases" = some (some (.ref o1))
  n2 : PySem.W.nsIn K mainGlobals "NoField" = some (some (.ref o2))
  n3 : PySem.W.nsIn K mainGlobals "NoLayout" = some (some (.ref o3))
  n4 : PySem.W.nsIn K mainGlobals "NoMeeting" = some (some (.ref o4))
  n5 : PySem.W.nsIn K mainGlobals "NoNumber" = some (some (.ref o5))
  n6 : PySem.W.nsIn K mainGlobals "NoPart" = some (some (.ref o6))
  nV : PySem.W.nsIn K mainGlobals "ValueError" = some none
  O : OwnX K C fI "block"
  B : BaseX K M
  F : FunD K "__init__" "NoArc.__init__" sXInit fI fd
  eM : PySem.W.ExcK K M
  eC : PySem.W.ExcD K C
  cl : PySem.W.ClsK K
  sub : PySem.W.mroIn K C (.ref M) = some true
  kC : PySem.W.kitOne K (.ref C) (.ref C) = some true
  kV : PySem.W.kitOne K (.ref C) (.type "ValueError") = some true
  q1 : PySem.W.kitOne K (.ref C) (.ref o1) = some false
  q2 : PySem.W.kitOne K (.ref C) (.ref o2) = some false
  q3 : PySem.W.kitOne K (.ref C) (.ref o3) = some false
  q4 : PySem.W.kitOne K (.ref C) (.ref o4) = some false
  q5 : PySem.W.kitOne K (.ref C) (.ref o5) = some false
  q6 : PySem.W.kitOne K (.ref C) (.ref o6) = some false
theorem refsX_mk {K : PySem.W.Frag} {M C fI o1 o2 o3 o4 o5 o6 N : Addr} {nm q : Str} {bs : List Value} {bm : List Value} {cd : ClassData} {oc tc kw doc pm cdv ct : Value} {dT : Addr} {tn : Nat} {tsl : Array (Option Value)} {td od an : Option Addr} {osl : Array (Option Value)} {hdct sn sub' ab col dd k0 k1 k2 k3 k5}
    (nM : PySem.W.nsIn K mainGlobals "MeetError" = some (some (.ref M)))
    (nC : PySem.W.nsIn K mainGlobals "NoArc" = some (some (.ref C)))
    (nV : PySem.W.nsIn K mainGlobals "ValueError" = some none)
    (n1 : PySem.W.nsIn K mainGlobals "NoBases" = some (some (.ref o1)))
    (n2 : PySem.W.nsIn K mainGlobals "NoField" = some (some (.ref o2)))
    (n3 : PySem.W.nsIn K mainGlobals "NoLayout" = some (some (.ref o3)))
    (n4 : PySem.W.nsIn K mainGlobals "NoMeeting" = some (some (.ref o4)))
    (n5 : PySem.W.nsIn K mainGlobals "NoNumber" = some (some (.ref o5)))
    (n6 : PySem.W.nsIn K mainGlobals "NoPart" = some (some (.ref o6)))
    (lk : K.lookup C = some (excClassObj nm q C N bs bm hdct sn sub' ab col dd k0 k1 k2 k3 k5 newVE))
    (tl : PySem.W.tailIn K bmVE bm = true)
    (nk : PySem.W.nsOkIn K N = true)
    (ik : PySem.W.nsIn K N "__init__" = some (some (.ref fI)))
    (fn : PySem.W.isFn K (.ref fI) = true)
    (cls : PySem.W.clsIn K C = some cd)
    (ok : cd.mro.all okEntry = true)
    (obj : cd.mro.contains (.type "object") = true)
    (bex : cd.mro.contains (.type "BaseException") = true)
    (dct : cd.hasDict = true)
    (sa : PySem.W.findIn K (.ref C) (Str.ofString "__setattr__") = some (some (.builtin "object.__setattr__")))
    (fdl : PySem.W.findIn K (.ref C) "block" = some none)
    (kp : PySem.W.keepIn K (.ref C) = true)
    (sp : PySem.W.specialIn K (.ref M) (Str.ofString "__getattribute__") = some (some (.builtin "type.__getattribute__")))
    (rdM : PySem.W.readsIn K M (.type "type") = true)
    (fcM : PySem.W.findCls K (.ref M) (.type "type") (Str.ofString "__init__") = some (.val (.builtin "ValueError.__init__")))
    (lf : K.lookup fI = some ⟨oc, od, .func (PySem.W.fnOf "__init__" "NoArc.__init__" (defArgs sXInit) (defBody sXInit) (defScope sXInit) (.ref dT) kw doc pm an cdv ct), osl⟩)
    (lT : K.lookup dT = some ⟨tc, td, .seq #[.none] tn, tsl⟩)
    (cf : PySem.W.codeIn K cdv "NoArc.__init__" = true)
    (exM : PySem.W.excIn K M [.type "ValueError", .type "Exception", .type "BaseException", .type "object"] "ValueError.__new__" = true)
    (gaM : PySem.W.findIn K (.ref M) "__getattribute__" = some (some (.builtin "BaseException.__getattribute__")))
    (noM : PySem.W.findIn K (.ref M) "__getattr__" = some none)
    (clM : PySem.W.findIn K (.ref M) "__class__" = some (some (.builtin "object.__class__")))
    (obM : PySem.W.mroIn K M (.type "object") = some true)
    (beM : PySem.W.mroIn K M (.type "BaseException") = some true)
    (gaC : PySem.W.findIn K (.ref C) "__getattribute__" = some (some (.builtin "BaseException.__getattribute__")))
    (noC : PySem.W.findIn K (.ref C) "__getattr__" = some none)
    (clC : PySem.W.findIn K (.ref C) "__class__" = some (some (.builtin "object.__class__")))
    (obC : PySem.W.mroIn K C (.type "object") = some true)
    (beC : PySem.W.mroIn K C (.type "BaseException") = some true)
    (gt : PySem.W.specialIn K (.builtin "object.__class__") "__get__" = some (some (.builtin "getset_descriptor.__get__")))
    (tk : PySem.W.takesIn K (.builtin "object.__class__") = some true)
    (sub : PySem.W.mroIn K C (.ref M) = some true)
    (kC : PySem.W.kitOne K (.ref C) (.ref C) = some true)
    (kV : PySem.W.kitOne K (.ref C) (.type "ValueError") = some true)
    (q1 : PySem.W.kitOne K (.ref C) (.ref o1) = some false)
    (q2 : PySem.W.kitOne K (.ref C) (.ref o2) = some false)
    (q3 : PySem.W.kitOne K (.ref C) (.ref o3) = some false)
    (q4 : PySem.W.kitOne K (.ref C) (.ref o4) = some false)
    (q5 : PySem.W.kitOne K (.ref C) (.ref o5) = some false)
    (q6 : PySem.W.kitOne K (.ref C) (.ref o6) = some false)
    : ∃ (M C fI o1 o2 o3 o4 o5 o6 : Addr) (fd : FuncData), RefsX K M C fI o1 o2 o3 o4 o5 o6 fd :=
  ⟨M, C, fI, o1, o2, o3, o4, o5, o6, _, nM, nC, n1, n2, n3, n4, n5, n6, nV, ⟨⟨nm, q, N, bs, bm, hdct, sn, sub', ab, col, dd, k0, k1, k2, k3, k5, lk, tl, nk, ik⟩, fn, ⟨cd, cls, ok, obj, bex, dct, gaC, noC, sa⟩, fdl, kp⟩, ⟨sp, rdM, fcM⟩, ⟨⟨oc, od, dT, _, tn, kw, doc, pm, an, cdv, ct, osl, lT, rfl, rfl, lf, cf⟩⟩, ⟨exM, gaM, noM, clM, obM, beM⟩, ⟨⟨nm, q, N, bs, bm, hdct, sn, sub', ab, col, dd, k0, k1, k2, k3, k5, _, lk⟩, gaC, noC, clC, obC, beC⟩, ⟨gt, tk⟩, sub, kC, kV, q1, q2, q3, q4, q5, q6⟩
structure MarksX (K : PySem.W.Frag) (mg : Str → Option Value) (M C fI o1 o2 o3 o4 o5 o6 : Addr) (fd : FuncData) : Prop where
  R : RefsX K M C fI o1 o2 o3 o4 o5 o6 fd
  mM : mg "MeetError" = some (.ref M)
  mC : mg "NoArc" = some (.ref C)
  m1 : mg "NoBases" = some (.ref o1)
  m2 : mg "NoField" = some (.ref o2)
  m3 : mg "NoLayout" = some (.ref o3)
  m4 : mg "NoMeeting" = some (.ref o4)
  m5 : mg "NoNumber" = some (.ref o5)
  m6 : mg "NoPart" = some (.ref o6)
  mV : mg "ValueError" = none
theorem marksX_of {K : PySem.W.Frag} {h : Heap} {mg : Str → Option Value} {M C fI o1 o2 o3 o4 o5 o6 : Addr} {fd : FuncData} (X : K.In h) (G : h.Ns mainGlobals mg) (R : RefsX K M C fI o1 o2 o3 o4 o5 o6 fd) : MarksX K mg M C fI o1 o2 o3 o4 o5 o6 fd :=
  ⟨R, PySem.W.mg_of X G R.nM, PySem.W.mg_of X G R.nC, PySem.W.mg_of X G R.n1, PySem.W.mg_of X G R.n2, PySem.W.mg_of X G R.n3, PySem.W.mg_of X G R.n4, PySem.W.mg_of X G R.n5, PySem.W.mg_of X G R.n6, PySem.W.mg_none_of X G R.nV⟩
/-- a rising block below p -/
structure Bls (p : Nat) (b : List Nat) : Prop where
  so : b.Pairwise (· < ·)
  lt : ∀ x ∈ b, x < p
theorem Bls.nd {p : Nat} {b : List Nat} (h : Bls p b) : b.Nodup := by
  rw [List.nodup_iff_pairwise_ne]
  exact h.so.imp fun z => Nat.ne_of_lt z
theorem Bls.blk {p : Nat} {b : List Nat} (h : Bls p b) : Blk p b := ⟨h.nd, h.lt⟩
theorem Bls.len {p : Nat} {b : List Nat} (h : Bls p b) : b.length ≤ p := h.blk.len
theorem Bls.mono {p q : Nat} {b : List Nat} (h : Bls p b) (l : p ≤ q) : Bls q b := ⟨h.so, fun x hx => Nat.lt_of_lt_of_le (h.lt x hx) l⟩
theorem Bls.up {i : Nat} {b : List Nat} (hb : Bls i b) : Bls (i + 1) b := hb.mono (Nat.le_succ i)
theorem Bls.snoc {i : Nat} {b : List Nat} (hb : Bls i b) : Bls (i + 1) (b ++ [i]) := by
  refine ⟨List.pairwise_append.mpr ⟨hb.so, by simp, fun x hx y hy => ?_⟩, hb.blk.snoc.lt⟩
  rw [List.mem_singleton.mp hy]
  exact hb.lt x hx
theorem Bls.snocLt {p q e : Nat} {b : List Nat} (h : Bls p b) (h1 : p ≤ e) (h2 : e < q) : Bls q (b ++ [e]) := ((h.mono h1).snoc).mono h2
theorem Bls.erase {m : Nat} {b : List Nat} (h : Bls m b) (k : Nat) : Bls m (b.eraseIdx k) := ⟨h.so.sublist (List.eraseIdx_sublist ..), (h.blk.erase k).lt⟩
theorem blk_sorted {m : Nat} {b : List Nat} (h : Blk m b) (hs : b.Pairwise (· ≤ ·)) : Bls m b := by
  refine ⟨?_, h.lt⟩
  have hn := List.nodup_iff_pairwise_ne.mp h.nd
  exact (hs.and hn).imp fun ⟨z1, z2⟩ => Nat.lt_of_le_of_ne z1 z2
theorem alls_snoc {m : Nat} {bs : List (List Nat)} {b : List Nat} (h : ∀ b ∈ bs, Bls m b) (hb : Bls m b) : ∀ b' ∈ bs ++ [b], Bls m b' := fun b' hb' => by
  rcases List.mem_append.mp hb' with z | z
  · exact h b' z
  · rw [List.mem_singleton.mp z]
    exact hb
def spCell2 (K : PySem.W.Frag) : Sp := fun vs H Q _ => ∃ (a : Addr) (ns : List Int) (k : Nat), vs = [.ref a, .int (k : Int)] ∧ SqL K H a (ns.map V.int) ∧ k ≤ 1000 ∧ ∀ (z : Int) (H' : Hp), Same H H' → Q (.int z) H'
theorem scCell : FnScope ["_law_script", "_law_k", "_law_state", "_law_cell_here"] ["_law_script", "_law_k"] (defScope sCell) := ⟨rfl, rfl, rfl, by decide +kernel, rfl, by decide +kernel, by decide +kernel⟩
theorem ok_cell2 {f : Addr} {fd : FuncData} (F : Fun K "_law_cell" "_law_cell" sCell f fd) (T : TxtB mg) : FnOk P w K mg base CX0 1 f fd ["_law_script", "_law_k"] (spCell2 K) := by
  refine F.okQ scCell (fun vs H Q E h => ?_) (fun cdv A outer s H vs Q E hr h => ?_)
  · obtain ⟨a, ns, k, rfl, _⟩ := h
    rfl
  · obtain ⟨a, ns, k, rfl, hS, hk, q⟩ := h
    refine ⟨_, (qss_cons (qs_if (qt_cmpR op_lt (qv 1) (qe_callB call_len_seq (by rfl) T.len PySem.boot_len (qac (qv 0) qa_nil)) (nomark _)) (qss_one (qs_ret (qe_ix ix_list (qv 0) (qv 1) (fun _ _ => rfl)))) qss_nil)
      (qss_cons (qs_set (i := 2) scCell.nd rfl (Or.inl rfl) (qe_op op_mod (qe_op op_mul qe_int (qe_op op_add (qe_op op_add (qe_op op_mul (qv 1) (qv 1)) (qe_op op_mul qe_int (qv 1))) qe_int)) qe_int))
      (qss_cons (qs_for PassesOwn.never rfl (qi_list (qe_slice sl_list (qv 0) qo_none (qo_some qe_int))) (qg_name (i := 3) scCell.nd rfl (Or.inl rfl))
        (qss_one (qs_set (i := 2) scCell.nd rfl (Or.inl rfl) (qe_op op_mod (qe_op op_add (qe_op op_mul (qv 2) qe_int) (qv 3)) qe_int))))
      (qss_one (qs_ret (qv 2)))))), ?_⟩
    refine ⟨_, rfl, _, rfl, a, _, rfl, .inl hS, _, _, rfl, rfl, _, rfl, ?_⟩
    refine ite2 (fun hc => ?_) (fun hc => ?_)
    · have hlt : k < ns.length := by
        have := of_decide_eq_true hc
        rw [List.length_map] at this
        omega
      refine ⟨_, rfl, _, rfl, a, _, _, V.int ns[k], rfl, rfl, hS, atI_nat (by rw [List.getElem?_map, List.getElem?_eq_getElem hlt]; rfl), q _ _ (Same.refl _)⟩
    · refine ⟨_, rfl, _, rfl, _, _, rfl, rfl, .inr ⟨by omega, by omega⟩, _, rfl, _, _, rfl, rfl, .inl ⟨by decide, by decide⟩, _, _, rfl, rfl, _, _, rfl, rfl, _, _, rfl, rfl, .inl ⟨by decide, by decide⟩, _, _, rfl, rfl, by show (0 : Int) < 2147483647; decide, ?_⟩
      refine ⟨_, rfl, _, rfl, a, _, rfl, hS, fun l hl => ?_⟩
      refine ⟨l, rfl, ⟨_, SqL.of upd_same⟩, for_list (K := K) (a := l) (xs := cutV (ns.map V.int) none (some 3)) (fun i σ H2 => H2 = upd H l (.lst (cutV (ns.map V.int) none (some 3))) ∧ ∃ (z : Int) (x3 : Option V), σ = [some (.ref a), some (.int k), some (.int z), x3]) ⟨rfl, _, _, rfl⟩ (fun i σ H2 _ ⟨e, _⟩ => SqL.of (e ▸ upd_same)) ?_ ?_⟩
      · rintro i v σ H2 hi ⟨rfl, z, x3, rfl⟩
        obtain ⟨c, rfl⟩ := cut_ints v (List.mem_of_getElem? hi)
        exact ⟨_, rfl, _, _, rfl, rfl, .inr ⟨by decide, by decide⟩, _, rfl, _, _, rfl, rfl, _, _, rfl, rfl, by show (0 : Int) < 2147483647; decide, rfl, _, _, rfl⟩
      · rintro σ H2 ⟨rfl, z, x3, rfl⟩
        exact ⟨_, rfl, q _ _ (same_new hl)⟩
theorem pickB {x y : Int} (b : Bool) : atI [V.int x, V.int y] (if b then 1 else 0) = some (V.int (if b then y else x)) := by cases b <;> rfl
def spNums : Sp := fun vs H Q _ => ∃ (c : Int) (m : Nat), vs = [.int c, .int (m : Nat)] ∧ m ≤ 1000 ∧ ∀ (l : Addr) (ns : List Int) (H' : Hp), H l = none → Same H H' → H' l = some (.lst (ns.map V.int)) → ns.length = m → (∀ x ∈ ns, 0 ≤ x ∧ x < 2000000000) → Q (.ref l) H'
theorem scLNumbers : FnScope ["_law_cell_here", "_law_many", "_law_found", "_law_state", "_law_digits", "_law_k"] ["_law_cell_here", "_law_many"] (defScope sLNumbers) := ⟨rfl, rfl, rfl, by decide +kernel, rfl, by decide +kernel, by decide +kernel⟩
theorem ok_numbers {f : Addr} {fd : FuncData} (F : Fun K "_law_numbers" "_law_numbers" sLNumbers f fd) (T : TxtB mg) : FnOk P w K mg base CX0 1 f fd ["_law_cell_here", "_law_many"] spNums := by
  refine F.okQ scLNumbers (fun vs H Q E h => ?_) (fun cdv A outer s H vs Q E hr h => ?_)
  · obtain ⟨c, m, rfl, _⟩ := h
    rfl
  · obtain ⟨c, m, rfl, hm, q⟩ := h
    refine ⟨_, (qss_cons (qs_set (i := 2) scLNumbers.nd rfl (Or.inl rfl) (qe_lst qa_nil))
      (qss_cons (qs_set (i := 3) scLNumbers.nd rfl (Or.inl rfl) (qe_op op_mod (qe_op op_mul (qe_op op_add (qe_op op_mod (qv 0) qe_int) qe_int) qe_int) qe_int))
      (qss_cons (qs_set (i := 4) scLNumbers.nd rfl (Or.inl rfl) qe_int)
      (qss_cons (qs_if (QW.pt (qw_or (qt_cmpR op_lt (qv 0) qe_int (nomark _)) (qw_or1 (qt_cmpR op_ge (qv 0) (qe_op op_pow qe_int qe_int) (nomark _))))) (qss_one (qs_set (i := 4) scLNumbers.nd rfl (Or.inl rfl) (qe_callB call_abs (by rfl) T.abs PyProof.Rows.boot_abs (qac (qv 0) qa_nil)))) qss_nil)
      (qss_cons (qs_for PassesOwn.never rfl (qi_range1 rfl T.range (qac (qv 1) qa_nil)) (qg_name (i := 5) scLNumbers.nd rfl (Or.inl rfl))
        (qss_cons (qs_set (i := 3) scLNumbers.nd rfl (Or.inl rfl) (qe_op op_mod (qe_op op_add (qe_op op_add (qe_op op_mul (qv 3) (qe_op op_add (qe_op op_mod (qv 3) qe_int) qe_int)) (qe_op op_mul qe_int (qv 5))) qe_int) qe_int))
        (qss_cons (qs_expr (qe_bm PySem.F.plainAttrs_list PySem.F.slot_list_append PySem.F.type_list_append mt_append (qv 2) (qac (qe_ix ix_list (qe_lst (qac (qv 3) (qac (qe_op op_mod (qv 4) qe_int) qa_nil))) (qe_callTy call_int1 (by rfl) T.int PyProof.Rows.boot_int (qac (qe_cmpR op_gt (qv 4) qe_int (nomark _)) qa_nil)) (fun _ _ => rfl)) qa_nil)))
        (qss_one (qs_set (i := 4) scLNumbers.nd rfl (Or.inl rfl) (qe_op op_fdiv (qv 4) qe_int))))))
      (qss_one (qs_ret (qv 2)))))))), ?_⟩
    refine ⟨by show 0 ≤ sizeLine; decide, fun l hl => ?_⟩
    have big : (0 : Int) < 1999999973 := by decide
    have c1 := Int.emod_nonneg c (show (1999999973 : Int) ≠ 0 by decide)
    have c2 := Int.emod_lt_of_pos c big
    refine ⟨_, rfl, _, _, rfl, rfl, (by show (0 : Int) < 1999999973; decide), _, _, rfl, rfl, _, _, rfl, rfl, .inr ⟨by decide, by decide⟩, _, _, rfl, rfl, (by show (0 : Int) < 1999999973; decide), ?_⟩
    generalize hst : (c % 1999999973 + 31) * 765432101 % 1999999973 = st0
    have st1 : 0 ≤ st0 ∧ st0 < 1999999973 := by
      rw [← hst]
      exact ⟨Int.emod_nonneg _ (by decide), Int.emod_lt_of_pos _ (by decide)⟩
    refine ⟨_, rfl, _, _, rfl, rfl, _, rfl, ?_⟩
    obtain ⟨dg, hdg, hw⟩ : ∃ dg : Int, 0 ≤ dg ∧ ((c < 0 ∧ dg = (if c < 0 then -c else c)) ∨ (¬ c < 0 ∧ c ≥ 10 ^ (18 : Int).toNat ∧ dg = (if c < 0 then -c else c)) ∨ (¬ c < 0 ∧ ¬ c ≥ 10 ^ (18 : Int).toNat ∧ dg = 0)) := by
      by_cases h1 : c < 0
      · exact ⟨_, abs_nn c, .inl ⟨h1, rfl⟩⟩
      · by_cases h2 : c ≥ 10 ^ (18 : Int).toNat
        · exact ⟨_, abs_nn c, .inr (.inl ⟨h1, h2, rfl⟩)⟩
        · exact ⟨0, Int.le_refl 0, .inr (.inr ⟨h1, h2, rfl⟩)⟩
    rcases hw with ⟨h1, e⟩ | ⟨h1, h2, e⟩ | ⟨h1, h2, e⟩
    all_goals first | refine ifF h1 ⟨_, rfl, _, _, rfl, rfl, ⟨by decide, by decide, by decide⟩, _, _, rfl, rfl, _, rfl, ifT h2 ⟨_, rfl, c, rfl, ?_⟩⟩ | refine ifF h1 ⟨_, rfl, _, _, rfl, rfl, ⟨by decide, by decide, by decide⟩, _, _, rfl, rfl, _, rfl, ifF h2 ?_⟩ | refine ifT h1 ⟨_, rfl, c, rfl, ?_⟩
    all_goals
      refine ⟨_, rfl, ((m : Nat) : Int), rfl, by omega, by omega, for_range (n := m) (fun i σ H2 => Same H H2 ∧ ∃ (ns : List Int) (sd dg : Int) (x : Option V), σ = [some (.int c), some (.int (m : Nat)), some (.ref l), some (.int sd), some (.int dg), x] ∧ H2 l = some (.lst (ns.map V.int)) ∧ ns.length = i ∧ (∀ x ∈ ns, 0 ≤ x ∧ x < 2000000000) ∧ 0 ≤ sd ∧ sd < 1999999973 ∧ 0 ≤ dg)
        ⟨same_new hl, [], st0, dg, none, by rw [e, ← hst]; rfl, upd_same, rfl, by simp, st1.1, st1.2, hdg⟩ ?_ ?_⟩
      · rintro i σ H2 hi ⟨s2, ns, sd, dg, x, rfl, hl2, hlen, hns, h1, h2, h3⟩
        have a1 := Int.emod_nonneg sd (show (65521 : Int) ≠ 0 by decide)
        have a2 := Int.emod_lt_of_pos sd (show (0 : Int) < 65521 by decide)
        refine ⟨_, rfl, _, rfl, _, _, rfl, rfl, (by show (0 : Int) < 65521; decide), _, _, rfl, rfl, _, _, rfl, rfl, .inl ⟨by omega, by omega⟩, _, rfl, _, _, rfl, rfl, .inl ⟨by decide, by decide⟩, _, _, rfl, rfl, _, _, rfl, rfl, _, _, rfl, rfl, (by show (0 : Int) < 1999999973; decide), ?_⟩
        refine ⟨_, rfl, .inl ⟨rfl, _, SqL.of hl2⟩, _, rfl, _, rfl, _, _, rfl, rfl, (by show (0 : Int) < 1000000; decide), by show 2 ≤ sizeLine; decide, fun t ht => ?_⟩
        refine ⟨_, rfl, _, _, rfl, rfl, .inr ⟨_, rfl, t, _, _, _, rfl, rfl, SqL.of upd_same, pickB _, l, _, _, rfl, rfl, (same_new ht) _ _ hl2, ?_, ?_⟩⟩
        · rw [List.length_map, hlen]
          exact Nat.lt_of_lt_of_le hi (Nat.le_trans hm (by decide))
        refine ⟨_, rfl, _, _, rfl, rfl, ⟨by decide, by decide⟩, same_upd (s2.trans (same_new ht)) hl, ns ++ [if decide (0 < dg) = true then dg % 1000000 else (sd * (sd % 65521 + 40487) + 7 * (0 + (i : Int)) + 5) % 1999999973], _, _, _, rfl, ?_, ?_, ?_, ?_, ?_, ?_⟩
        · rw [List.map_append]
          exact upd_same
        · rw [List.length_append, hlen]
          rfl
        · intro y hy
          rcases List.mem_append.mp hy with z | z
          · exact hns y z
          · rw [List.mem_singleton.mp z]
            split
            · exact ⟨Int.emod_nonneg _ (by decide), Int.lt_trans (Int.emod_lt_of_pos _ (by decide)) (by decide)⟩
            · exact ⟨Int.emod_nonneg _ (by decide), Int.lt_trans (Int.emod_lt_of_pos _ (by decide)) (by decide)⟩
        · exact Int.emod_nonneg _ (by decide)
        · exact Int.emod_lt_of_pos _ (by decide)
        · exact Int.ediv_nonneg h3 (by decide)
      · rintro σ H2 ⟨s2, ns, sd, dg, x, rfl, hl2, hlen, hns, _⟩
        exact ⟨_, rfl, q l ns H2 hl s2 hl2 hlen hns⟩
theorem comp_list {K : PySem.W.Frag} {a : Addr} {xs : List V} {g : TG} {tc : TT} {te : TE} {σ' : St} {H : Hp} {G : Addr → Hp → List V → Prop} (Pv : Nat → List V → Hp → Prop) (h0 : Pv 0 [] H) (hl : ∀ i ys H, i ≤ xs.length → Pv i ys H → SqL K H a xs)
    (hs : ∀ i x ys H (N : List V → Hp → Prop), xs[i]? = some x → Pv i ys H → (∀ ys' H', Pv (i + 1) ys' H' → N ys' H') → g x σ' H fun σ2 H4 => Weak σ' σ2 ∧ tc σ2 H4 fun b H5 => if b = true then te σ2 H5 fun y H6 => ys.length < sizeLine ∧ N (ys ++ [y]) H6 else N ys H5)
    (hd : ∀ ys H, Pv xs.length ys H → ys.length ≤ sizeLine ∧ ∀ p, H p = none → G p H ys) :
    ∃ W : Nat → Nat → List V → Hp → Prop, (∃ m, W 0 m [] H) ∧ ∀ i m ys H2, W i m ys H2 →
      ((Itl K a).stop i H2 ∧ ys.length ≤ sizeLine ∧ ∀ p, H2 p = none → G p H2 ys) ∨
      ((Itl K a).go i H2 ∧ ∀ x H3, (Itl K a).yld i H2 x H3 → g x σ' H3 fun σ2 H4 => Weak σ' σ2 ∧ tc σ2 H4 fun b H5 =>
        if b = true then te σ2 H5 fun y H6 => ys.length < sizeLine ∧ ∃ m', m' < m ∧ W (i + 1) m' (ys ++ [y]) H6 else ∃ m', m' < m ∧ W (i + 1) m' ys H5) := by
  refine ⟨fun i m ys H => m = xs.length - i ∧ i ≤ xs.length ∧ Pv i ys H, ⟨xs.length, rfl, Nat.zero_le _, h0⟩, ?_⟩
  rintro i m ys H2 ⟨rfl, hi, p⟩
  have q := hl i ys H2 hi p
  by_cases hlt : i < xs.length
  · refine .inr ⟨⟨xs, xs[i], q, by simp [hlt]⟩, fun x H' y => ?_⟩
    obtain ⟨e, y⟩ := y
    subst e
    exact hs i x ys _ (fun ys' H'' => ∃ m', m' < xs.length - i ∧ m' = xs.length - (i + 1) ∧ i + 1 ≤ xs.length ∧ Pv (i + 1) ys' H'') (y xs q) p (fun ys' H'' p' => ⟨_, by omega, rfl, hlt, p'⟩)
  · have e : i = xs.length := by omega
    subst e
    exact .inl ⟨⟨xs, q, Nat.le_refl _⟩, hd ys H2 p⟩
theorem comp_tup {K : PySem.W.Frag} {a : Addr} {xs : List V} {g : TG} {tc : TT} {te : TE} {σ' : St} {H : Hp} {G : Addr → Hp → List V → Prop} (Pv : Nat → List V → Hp → Prop) (h0 : Pv 0 [] H) (hl : ∀ i ys H, i ≤ xs.length → Pv i ys H → SqT K H a xs)
    (hs : ∀ i x ys H (N : List V → Hp → Prop), xs[i]? = some x → Pv i ys H → (∀ ys' H', Pv (i + 1) ys' H' → N ys' H') → g x σ' H fun σ2 H4 => Weak σ' σ2 ∧ tc σ2 H4 fun b H5 => if b = true then te σ2 H5 fun y H6 => ys.length < sizeLine ∧ N (ys ++ [y]) H6 else N ys H5)
    (hd : ∀ ys H, Pv xs.length ys H → ys.length ≤ sizeLine ∧ ∀ p, H p = none → G p H ys) :
    ∃ W : Nat → Nat → List V → Hp → Prop, (∃ m, W 0 m [] H) ∧ ∀ i m ys H2, W i m ys H2 →
      ((Itt K a).stop i H2 ∧ ys.length ≤ sizeLine ∧ ∀ p, H2 p = none → G p H2 ys) ∨
      ((Itt K a).go i H2 ∧ ∀ x H3, (Itt K a).yld i H2 x H3 → g x σ' H3 fun σ2 H4 => Weak σ' σ2 ∧ tc σ2 H4 fun b H5 =>
        if b = true then te σ2 H5 fun y H6 => ys.length < sizeLine ∧ ∃ m', m' < m ∧ W (i + 1) m' (ys ++ [y]) H6 else ∃ m', m' < m ∧ W (i + 1) m' ys H5) := by
  refine ⟨fun i m ys H => m = xs.length - i ∧ i ≤ xs.length ∧ Pv i ys H, ⟨xs.length, rfl, Nat.zero_le _, h0⟩, ?_⟩
  rintro i m ys H2 ⟨rfl, hi, p⟩
  have q := hl i ys H2 hi p
  by_cases hlt : i < xs.length
  · refine .inr ⟨⟨xs, xs[i], q, by simp [hlt]⟩, fun x H' y => ?_⟩
    obtain ⟨e, y⟩ := y
    subst e
    exact hs i x ys _ (fun ys' H'' => ∃ m', m' < xs.length - i ∧ m' = xs.length - (i + 1) ∧ i + 1 ≤ xs.length ∧ Pv (i + 1) ys' H'') (y xs q) p (fun ys' H'' p' => ⟨_, by omega, rfl, hlt, p'⟩)
  · have e : i = xs.length := by omega
    subst e
    exact .inl ⟨⟨xs, q, Nat.le_refl _⟩, hd ys H2 p⟩
theorem at_ok {ns : List Int} {i : Nat} (h : i < ns.length) : ∃ x : Int, atI (ns.map V.int) (i : Int) = some (.int x) ∧ x ∈ ns := ⟨ns[i], atI_nat (by rw [List.getElem?_map, List.getElem?_eq_getElem h]; rfl), List.getElem_mem h⟩
theorem nats_get {b : List Nat} {i : Nat} {v : V} (h : (nats b)[i]? = some v) : ∃ x, b[i]? = some x ∧ v = .int ((x : Nat) : Int) := by
  unfold nats at h
  rw [List.getElem?_map] at h
  cases hq : b[i]? with
  | none => rw [hq] at h; cases h
  | some p => rw [hq] at h; cases h; exact ⟨p, rfl, rfl⟩
def spMask : Sp := fun vs H Q _ => ∃ (x : Int) (m : Nat), vs = [.int x, .int (m : Nat)] ∧ m ≤ 60 ∧ ∀ (t : Addr) (b : List Nat) (H' : Hp), H t = none → Same H H' → H' t = some (.tup (nats b)) → Bls m b → Q (.ref t) H'
theorem scLMask : FnScope ["_law_x", "_law_many"] ["_law_x", "_law_many"] (defScope sLMask) := ⟨rfl, rfl, rfl, by decide +kernel, rfl, by decide +kernel, by decide +kernel⟩
theorem ok_mask {f : Addr} {fd : FuncData} (F : Fun K "_law_mask" "_law_mask" sLMask f fd) (T : TxtB mg) : FnOk P w K mg base CX0 1 f fd ["_law_x", "_law_many"] spMask := by
  refine F.okQ scLMask (fun vs H Q E h => ?_) (fun cdv A outer s H vs Q E hr h => ?_)
  · obtain ⟨x, m, rfl, _⟩ := h
    rfl
  · obtain ⟨x, m, rfl, hm, q⟩ := h
    refine ⟨_, (qss_one (qs_ret (qe_callTy call_tuple_of (by rfl) T.tup (by decide +kernel) (qac (qe_comp (g := gName 0) (N := ["_law_point", "_law_x"]) (src := [none, some 0]) rfl (comp_scope (defScope sLMask) ["_law_x", "_law_many"] rfl rfl (by decide +kernel) rfl) (qi_range1 rfl T.range (qac (qv 1) qa_nil)) (fun _ _ _ _ _ => (qg_name (i := 0) (show (["_law_point", "_law_x"] : List Str).Nodup by decide +kernel) rfl (Or.inl rfl) (Or.inr rfl))) (fun _ _ _ _ _ => (qif_one (qt_cmpR op_eq (qe_op op_and (qe_op op_shr (qv 1) (qv 0)) qe_int) qe_int (nomark _)))) (fun _ _ _ _ _ => (qv 0))) qa_nil)))), ?_⟩
    refine ⟨_, rfl, ((m : Nat) : Int), rfl, by omega, by omega, comp_rng (lo := 0) (n := m) (fun i ys H2 => H2 = H ∧ ∃ b, ys = nats b ∧ Bls i b) ⟨rfl, [], rfl, ⟨by simp, by simp⟩⟩ ?_ ?_⟩
    · rintro i ys H2 N hi ⟨rfl, b, rfl, hb⟩ nx
      refine ⟨Weak.set (by intro v z; cases z), ?_⟩
      refine ⟨_, rfl, _, rfl, _, _, rfl, rfl, by omega, _, _, rfl, rfl, rfl, _, rfl, ?_⟩
      refine ite2 (fun _ => ⟨_, rfl, ?_, nx _ _ ⟨rfl, b ++ [i], ?_, hb.snoc⟩⟩) (fun _ => nx _ _ ⟨rfl, b, rfl, hb.up⟩)
      · rw [nats_len]
        exact Nat.lt_of_le_of_lt hb.len (Nat.lt_of_lt_of_le hi (Nat.le_trans hm (by decide)))
      · rw [nats_snoc, Int.zero_add]
    · rintro ys H2 ⟨rfl, b, rfl, hb⟩
      refine ⟨by rw [nats_len]; exact Nat.le_trans hb.len (Nat.le_trans hm (by decide)), fun r hr => ⟨r, _, rfl, .inl ⟨SqL.of upd_same, fun t ht => ?_⟩⟩⟩
      have s1 := same_new (o := .lst (nats b)) hr
      exact q t b _ (s1.free ht) (s1.trans (same_new ht)) upd_same hb
def spRow (K : PySem.W.Frag) : Sp := fun vs H Q _ => ∃ (a : Addr) (ns : List Int) (m : Nat), vs = [.ref a, .int (m : Nat)] ∧ SqL K H a (ns.map V.int) ∧ m ≤ ns.length ∧ m ≤ 60 ∧ ∀ (l : Addr) (r : List Nat) (H' : Hp), H l = none → Same H H' → H' l = some (.lst (nats r)) → r.Perm (List.range m) → Q (.ref l) H'
theorem scLRow : FnScope ["_law_xs", "_law_many"] ["_law_xs", "_law_many"] (defScope sLRow) := ⟨rfl, rfl, rfl, by decide +kernel, rfl, by decide +kernel, by decide +kernel⟩
theorem ok_row {f : Addr} {fd : FuncData} (F : Fun K "_law_row" "_law_row" sLRow f fd) (T : TxtB mg) : FnOk P w K mg base CX0 1 f fd ["_law_xs", "_law_many"] (spRow K) := by
  refine F.okQ scLRow (fun vs H Q E h => ?_) (fun cdv A outer s H vs Q E hr h => ?_)
  · obtain ⟨a, ns, m, rfl, _⟩ := h
    rfl
  · obtain ⟨a, ns, m, rfl, hS, hm, hm60, q⟩ := h
    refine ⟨_, (qss_one (qs_ret (qe_comp (g := gName 0) (N := ["_law_pair"]) (src := [none]) rfl (comp_scope (defScope sLRow) ["_law_xs", "_law_many"] rfl rfl (by decide +kernel) rfl) (qi_list (qe_callB call_sortP (by rfl) T.sor (by decide +kernel) (qac (qe_comp (g := gName 0) (N := ["_law_k", "_law_xs"]) (src := [none, some 0]) rfl (comp_scope (defScope sLRow) ["_law_xs", "_law_many"] rfl rfl (by decide +kernel) rfl) (qi_range1 rfl T.range (qac (qv 1) qa_nil)) (fun _ _ _ _ _ => (qg_name (i := 0) (show (["_law_k", "_law_xs"] : List Str).Nodup by decide +kernel) rfl (Or.inl rfl) (Or.inr rfl))) (fun _ _ _ _ _ => qif_nil) (fun _ _ _ _ _ => (qe_tup (qac (qe_ix (show IxR _ (rIxL K) from ix_list) (qv 1) (qv 0) (fun _ _ => rfl)) (qac (qv 0) qa_nil))))) qa_nil))) (fun _ _ _ _ _ => (qg_name (i := 0) (show (["_law_pair"] : List Str).Nodup by decide +kernel) rfl (Or.inl rfl) (Or.inr rfl))) (fun _ _ _ _ _ => qif_nil) (fun _ _ _ _ _ => (qe_ix (show IxR _ (rIxT K) from ix_tup) (qv 0) qe_int (fun _ _ => rfl)))))), ?_⟩
    refine ⟨_, rfl, ((m : Nat) : Int), rfl, by omega, by omega, comp_rng (lo := 0) (n := m) (fun i ys H2 => Same H H2 ∧ ∃ ps : List (Int × Int), PrsAt H2 ys ps ∧ ps.map (·.2) = (List.range i).map fun k => ((k : Nat) : Int)) ⟨Same.refl _, [], trivial, rfl⟩ ?_ ?_⟩
    · rintro i ys H2 N hi ⟨s2, ps, hP, hps⟩ nx
      obtain ⟨x, e, _⟩ := at_ok (ns := ns) (i := i) (by omega)
      refine ⟨Weak.set (by intro v z; cases z), ⟨_, rfl, _, rfl, a, _, _, .int x, rfl, rfl, s2.seq hS, by rw [Int.zero_add]; exact e, _, rfl, by show 2 ≤ sizeLine; decide, fun t ht => ⟨?_, nx _ _ ⟨s2.trans (same_new ht), ps ++ [(x, ((i : Nat) : Int))], ?_, ?_⟩⟩⟩⟩
      · have h1 := hP.len
        have h2 := congrArg List.length hps
        rw [List.length_map, List.length_map, List.length_range] at h2
        exact Nat.lt_of_le_of_lt (show ys.length ≤ 60 by omega) (by decide)
      · refine (hP.same (same_new ht)).snoc ?_
        rw [Int.zero_add]
        exact upd_same
      · rw [List.map_append, hps, List.range_succ, List.map_append]
        rfl
    rintro ys H2 ⟨s2, ps, hP, hps⟩
    have hyl : ys.length = m := by
      have h1 := hP.len
      have h2 := congrArg List.length hps
      rw [List.length_map, List.length_map, List.length_range] at h2
      omega
    refine ⟨by rw [hyl]; exact Nat.le_trans hm60 (by decide), fun r hr => ?_⟩
    have w1 := same_new (o := .lst ys) hr
    refine ⟨r, ys, ps, rfl, SqL.of upd_same, hP.same w1, by omega, fun l vs' hl hpm => ?_⟩
    have w2 := same_new (o := .lst vs') hl
    obtain ⟨ps', hP', hpp⟩ := ((hP.same w1).same w2).perm hpm
    have hmem : ∀ p ∈ ps', ∃ k : Nat, p.2 = ((k : Nat) : Int) := fun p hp => by
      have : p.2 ∈ ps.map (·.2) := List.mem_map_of_mem (hpp.mem_iff.mp hp)
      rw [hps] at this
      obtain ⟨k, _, e⟩ := List.mem_map.mp this
      exact ⟨k, e.symm⟩
    refine ⟨l, rfl, ⟨_, SqL.of upd_same⟩, comp_list (K := K) (xs := vs') (fun i zs H3 => H3 = upd (upd H2 r (.lst ys)) l (.lst vs') ∧ zs = nats ((ps'.take i).map fun p => p.2.toNat)) ⟨rfl, rfl⟩ (fun i zs H3 _ ⟨e, _⟩ => SqL.of (e ▸ upd_same)) ?_ ?_⟩
    · rintro i v zs H3 N hi ⟨rfl, rfl⟩ nx
      obtain ⟨b, p, rfl, hp, hb⟩ := hP'.get hi
      obtain ⟨k, hk⟩ := hmem p (List.mem_of_getElem? hp)
      have hil : i < vs'.length := (List.getElem?_eq_some_iff.mp hi).1
      have hvl := hpm.length_eq
      refine ⟨Weak.set (by intro v z; cases z), ⟨_, rfl, b, _, 1, .int p.2, rfl, rfl, SqT.of hb, rfl, ?_, nx _ _ ⟨rfl, ?_⟩⟩⟩
      · rw [nats_len, List.length_map, List.length_take]
        exact Nat.lt_of_le_of_lt (show _ ≤ 60 by omega) (by decide)
      · rw [List.take_add_one, hp, Option.toList_some, List.map_append, List.map_cons, List.map_nil, nats_snoc, hk, Int.toNat_natCast]
    rintro zs H3 ⟨rfl, rfl⟩
    have hlen' : vs'.length = ps'.length := hP'.len
    have hvl := hpm.length_eq
    rw [hlen', List.take_length]
    refine ⟨by rw [nats_len, List.length_map]; exact Nat.le_trans (show ps'.length ≤ 60 by omega) (by decide), fun l2 hl2 => ?_⟩
    have w3 := same_new (o := .lst (nats (ps'.map fun p => p.2.toNat))) hl2
    have sA := s2.trans (w1.trans w2)
    refine q l2 _ _ (sA.free hl2) (sA.trans w3) upd_same ?_
    have h1 := hpp.map fun p : Int × Int => p.2.toNat
    have h2 : (ps.map fun p : Int × Int => p.2.toNat) = List.range m := by
      have : (ps.map fun p : Int × Int => p.2.toNat) = (ps.map (·.2)).map Int.toNat := by rw [List.map_map]; rfl
      rw [this, hps, List.map_map]
      conv => rhs; rw [← List.map_id (List.range m)]
      exact List.map_congr_left fun k _ => by simp
    rwa [h2] at h1
def spOfSize : Sp := fun vs H Q _ => ∃ (x : Int) (m : Nat) (z : Int), vs = [.int x, .int (m : Nat), .int z] ∧ 0 ≤ x ∧ m ≤ 60 ∧ 0 ≤ z ∧ ∀ (t : Addr) (b : List Nat) (H' : Hp), H t = none → Same H H' → H' t = some (.tup (nats b)) → Bls m b → Q (.ref t) H'
theorem scLOfSize : FnScope ["_law_x", "_law_many", "_law_size", "_law_left"] ["_law_x", "_law_many", "_law_size"] (defScope sLOfSize) := ⟨rfl, rfl, rfl, by decide +kernel, rfl, by decide +kernel, by decide +kernel⟩
theorem ok_ofsize {f : Addr} {fd : FuncData} (F : Fun K "_law_of_size" "_law_of_size" sLOfSize f fd) (T : TxtB mg) : FnOk P w K mg base CX0 1 f fd ["_law_x", "_law_many", "_law_size"] spOfSize := by
  refine F.okQ scLOfSize (fun vs H Q E h => ?_) (fun cdv A outer s H vs Q E hr h => ?_)
  · obtain ⟨x, m, z, rfl, _⟩ := h
    rfl
  · obtain ⟨x, m, z, rfl, hx, hm, hz, q⟩ := h
    refine ⟨_, (qss_cons (qs_set (i := 3) scLOfSize.nd rfl (Or.inl rfl) (qe_callTy (call_list_rng rfl) (by rfl) T.lst (by decide +kernel) (qac (qe_callTy call_rng1 (by rfl) T.range PyProof.Rows.boot_range (qac (qv 1) qa_nil)) qa_nil)))
      (qss_cons (qs_while PassesOwn.never (qt_cmpR op_gt (qe_callB call_len_seq (by rfl) T.len PySem.boot_len (qac (qv 3) qa_nil)) (qv 2) (nomark _))
        (qss_cons (qs_expr (qe_bm PySem.F.plainAttrs_list PySem.F.slot_list_pop PySem.F.type_list_pop mt_popAt (qv 3) (qac (qe_op op_mod (qv 0) (qe_callB call_len_seq (by rfl) T.len PySem.boot_len (qac (qv 3) qa_nil))) qa_nil)))
        (qss_one (qs_set (i := 0) scLOfSize.nd rfl (Or.inl rfl) (qe_op op_add (qe_op op_fdiv (qv 0) qe_int) qe_int)))))
      (qss_one (qs_ret (qe_callTy call_tuple_of (by rfl) T.tup (by decide +kernel) (qac (qv 3) qa_nil)))))), ?_⟩
    refine ⟨_, rfl, ((m : Nat) : Int), rfl, fun r hr' => ⟨r, m, rfl, upd_same, Nat.le_trans hm (by decide), fun l hl => ?_⟩⟩
    have w1 := same_new (o := .rng 0 ((m : Nat) : Int)) hr'
    have hl0 : H l = none := w1.free hl
    refine while_w (fun σ H2 => Same H H2 ∧ ∃ (y : Int) (b : List Nat), σ = [some (.int y), some (.int (m : Nat)), some (.int z), some (.ref l)] ∧ H2 l = some (.lst (nats b)) ∧ Bls m b ∧ 0 ≤ y)
      (fun σ H2 => match H2 l with | some (.lst xs) => xs.length | _ => 0)
      ⟨w1.trans (same_new hl), x, List.range m, rfl, upd_same, ⟨List.pairwise_lt_range, fun k hk => List.mem_range.mp hk⟩, hx⟩ ?_
    rintro mm σ H2 ⟨s2, y, b, rfl, hl2, hb, hy⟩ hmm
    refine ⟨_, rfl, l, _, rfl, .inl (SqL.of hl2), _, rfl, _, _, rfl, rfl, _, rfl, ?_⟩
    refine ite2 (fun hc => WTurn.of ?_) (fun hc => ?_)
    · have hc' : z < ((nats b).length : Int) := of_decide_eq_true hc
      have hbl : 0 < b.length := by
        rw [nats_len] at hc'
        omega
      have e1 := Int.emod_nonneg y (show ((nats b).length : Int) ≠ 0 by rw [nats_len]; omega)
      have e2 := Int.emod_lt_of_pos y (show (0 : Int) < ((nats b).length : Int) by rw [nats_len]; omega)
      have hkl : (y % ((nats b).length : Int)).toNat < (nats b).length := by omega
      have hb60 := hb.len
      refine ⟨_, rfl, .inl ⟨rfl, _, SqL.of hl2⟩, _, rfl, _, rfl, l, _, rfl, .inl (SqL.of hl2), _, _, rfl, rfl, by rw [nats_len]; omega, l, _, _, (y % ((nats b).length : Int)).toNat, (nats b)[(y % ((nats b).length : Int)).toNat], rfl, rfl, hl2, by omega, ?_, ?_, List.getElem?_eq_getElem hkl, ?_⟩
      · rw [nats_len] at e2 ⊢
        omega
      · exact PySem.seqIndex_of (by omega) (by omega)
      · have ee : (nats b).eraseIdx (y % ((nats b).length : Int)).toNat = nats (b.eraseIdx (y % ((nats b).length : Int)).toNat) := nats_erase b _
        refine ⟨_, rfl, _, _, rfl, rfl, ⟨by decide, by decide⟩, _, _, rfl, rfl, ⟨same_upd s2 hl0, _, _, rfl, by rw [ee]; exact upd_same, hb.erase _, ?_⟩, ?_⟩
        · have := Int.ediv_nonneg hy (show (0 : Int) ≤ 5 by decide)
          show 0 ≤ y / 5 + 7
          omega
        · rw [hmm, hl2]
          show (match upd H2 l _ l with | some (.lst xs) => xs.length | _ => 0) < _
          rw [upd_same]
          show ((nats b).eraseIdx _).length < (nats b).length
          rw [List.length_eraseIdx_of_lt hkl]
          omega
    · refine ⟨_, rfl, l, _, rfl, .inl ⟨SqL.of hl2, fun t ht => q t b _ (s2.free ht) (s2.trans (same_new ht)) upd_same hb⟩⟩
def BlsQ (m : Nat) (H : Hp) (Q : V → Hp → Prop) : Prop := ∀ (l : Addr) (ws : List V) (bs : List (List Nat)) (H' : Hp), H l = none → Same H H' → H' l = some (.lst ws) → TpAt H' ws bs → bs.length ≤ 60 → (∀ b ∈ bs, Bls m b) → Q (.ref l) H'
def spAllSets : Sp := fun vs H Q _ => ∃ (m : Nat) (z : Int), vs = [.int (m : Nat), .int z] ∧ m ≤ 5 ∧ BlsQ m H Q
theorem scLAllSets : FnScope ["_law_many", "_law_size"] ["_law_many", "_law_size"] (defScope sLAllSets) := ⟨rfl, rfl, rfl, by decide +kernel, rfl, by decide +kernel, by decide +kernel⟩
theorem ok_allsets {f : Addr} {fd : FuncData} (F : Fun K "_law_all_sets" "_law_all_sets" sLAllSets f fd) (T : TxtB mg) (pLMask : Pm P w K mg base CX0 1 "_law_mask" ["_law_x", "_law_many"] spMask) : FnOk P w K mg base CX0 2 f fd ["_law_many", "_law_size"] spAllSets := by
  refine F.okQ scLAllSets (fun vs H Q E h => ?_) (fun cdv A outer s H vs Q E hr1 h => ?_)
  · obtain ⟨m, z, rfl, _⟩ := h
    rfl
  · obtain ⟨m, z, rfl, hm, q⟩ := h
    refine ⟨_, (qss_one (qs_ret (qe_comp (g := gName 0) (N := ["_law_x", "_law_many", "_law_size"]) (src := [none, some 0, some 1]) rfl (comp_scope (defScope sLAllSets) ["_law_many", "_law_size"] rfl rfl (by decide +kernel) rfl) (qi_range1 rfl T.range (qac (qe_op op_shl qe_int (qv 0)) qa_nil)) (fun _ _ _ _ _ => (qg_name (i := 0) (show (["_law_x", "_law_many", "_law_size"] : List Str).Nodup by decide +kernel) rfl (Or.inl rfl) (Or.inr rfl))) (fun _ _ _ _ _ => (qif_one (qt_cmpR op_eq (qe_callB (show CallR _ _ (rLenQ K) from call_lenQ) (by rfl) T.len PySem.boot_len (qac (qe_callP pLMask hr1 rfl pass0 (qac (qv 0) (qac (qv 1) qa_nil))) qa_nil)) (qv 2) (nomark _)))) (fun _ _ _ _ _ => (qe_callP pLMask hr1 rfl pass0 (qac (qv 0) (qac (qv 1) qa_nil))))))), ?_⟩
    obtain ⟨n, hn, hn2⟩ : ∃ n : Nat, (1 : Int) * 2 ^ (((m : Nat) : Int)).toNat = (n : Int) ∧ n ≤ 32 := by
      have h : m = 0 ∨ m = 1 ∨ m = 2 ∨ m = 3 ∨ m = 4 ∨ m = 5 := by omega
      rcases h with rfl | rfl | rfl | rfl | rfl | rfl
      · exact ⟨1, by decide, by decide⟩
      · exact ⟨2, by decide, by decide⟩
      · exact ⟨4, by decide, by decide⟩
      · exact ⟨8, by decide, by decide⟩
      · exact ⟨16, by decide, by decide⟩
      · exact ⟨32, by decide, by decide⟩
    refine ⟨_, rfl, _, _, rfl, rfl, ⟨by omega, by omega, by decide⟩, ((n : Nat) : Int), congrArg (fun x => [V.int x]) hn, by omega, by omega, comp_rng (lo := 0) (n := n) (fun i ys H2 => Same H H2 ∧ ∃ bs : List (List Nat), TpAt H2 ys bs ∧ bs.length ≤ i ∧ ∀ b ∈ bs, Bls m b) ⟨Same.refl _, [], trivial, Nat.le_refl _, by simp⟩ ?_ ?_⟩
    · rintro i ys H2 N hi ⟨s2, bs, hT, hl, hb⟩ nx
      refine ⟨Weak.set (by intro v z; cases z), ?_⟩
      refine ⟨_, rfl, _, rfl, _, m, rfl, by omega, fun t b H3 ht s3 ht3 hb1 => ?_⟩
      refine ⟨t, _, rfl, .inr (SqT.of ht3), _, rfl, rfl, _, rfl, ?_⟩
      refine ite2 (fun _ => ⟨_, rfl, _, rfl, _, m, rfl, by omega, fun t2 b2 H4 ht2 s4 ht4 hb2 => ⟨?_, nx _ _ ⟨s2.trans (s3.trans s4), bs ++ [b2], ((hT.sm s3).sm s4).snoc ht4, ?_, alls_snoc hb hb2⟩⟩⟩) (fun _ => nx _ _ ⟨s2.trans s3, bs, hT.sm s3, by omega, hb⟩)
      · rw [hT.len]
        exact Nat.lt_of_le_of_lt hl (Nat.lt_of_lt_of_le hi (Nat.le_trans hn2 (by decide)))
      · rw [List.length_append]
        exact Nat.succ_le_succ hl
    · rintro ys H2 ⟨s2, bs, hT, hl, hb⟩
      refine ⟨by rw [hT.len]; exact Nat.le_trans hl (Nat.le_trans hn2 (by decide)), fun r hr => ?_⟩
      have s1 := same_new (o := .lst ys) hr
      exact q r ys bs _ (s2.free hr) (s2.trans s1) upd_same (hT.sm s1) (by omega) hb
def spTBase (K : PySem.W.Frag) : Sp := fun vs H Q _ => ∃ (a : Addr) (b : List Nat) (m : Nat), vs = [.ref a, .int (m : Nat)] ∧ (H a = some (.lst (nats b)) ∨ H a = some (.tup (nats b))) ∧ Bls m b ∧ 0 < m ∧ m ≤ 9 ∧ BlsQ m H Q
theorem turn_blk {m : Nat} {b : List Nat} (hb : Blk m b) (hm : 0 < m) (k : Nat) : Blk m (b.map fun p => (p + k) % m) := by
  refine ⟨?_, fun x hx => ?_⟩
  · rw [List.nodup_iff_pairwise_ne, List.pairwise_map]
    refine (List.Pairwise.imp_of_mem ?_ hb.nd)
    intro x y hx hy hne e
    have h1 := hb.lt x hx
    have h2 := hb.lt y hy
    apply hne
    have h3 := Nat.mod_add_div (x + k) m
    have h4 := Nat.mod_add_div (y + k) m
    have h5 : (x + k) % m = (y + k) % m := e
    rw [h5] at h3
    have h6 : (x + k) / m = (y + k) / m ∨ (x + k) / m < (y + k) / m ∨ (y + k) / m < (x + k) / m := by omega
    rcases h6 with h6 | h6 | h6
    · rw [h6] at h3
      omega
    · have := Nat.mul_le_mul_left m (show (x + k) / m + 1 ≤ (y + k) / m from h6)
      rw [Nat.mul_add, Nat.mul_one] at this
      omega
    · have := Nat.mul_le_mul_left m (show (y + k) / m + 1 ≤ (x + k) / m from h6)
      rw [Nat.mul_add, Nat.mul_one] at this
      omega
  · obtain ⟨p, _, rfl⟩ := List.mem_map.mp hx
    exact Nat.mod_lt _ hm
theorem scLTurnedBase : FnScope ["_law_base", "_law_many"] ["_law_base", "_law_many"] (defScope sLTurnedBase) := ⟨rfl, rfl, rfl, by decide +kernel, rfl, by decide +kernel, by decide +kernel⟩
theorem ok_tbase {f : Addr} {fd : FuncData} (F : Fun K "_law_turned_base" "_law_turned_base" sLTurnedBase f fd) (T : TxtB mg) : FnOk P w K mg base CX0 1 f fd ["_law_base", "_law_many"] (spTBase K) := by
  refine F.okQ scLTurnedBase (fun vs H Q E h => ?_) (fun cdv A outer s H vs Q E hr1 h => ?_)
  · obtain ⟨a, b, m, rfl, _⟩ := h
    rfl
  · obtain ⟨a, b, m, rfl, ha, hb, hm0, hm, q⟩ := h
    refine ⟨_, (qss_one (qs_ret (qe_comp (g := gName 0) (N := ["_law_turn", "_law_base", "_law_many"]) (src := [none, some 0, some 1]) rfl (comp_scope (defScope sLTurnedBase) ["_law_base", "_law_many"] rfl rfl (by decide +kernel) rfl) (qi_range1 rfl T.range (qac (qv 1) qa_nil)) (fun _ _ _ _ _ => (qg_name (i := 0) (show (["_law_turn", "_law_base", "_law_many"] : List Str).Nodup by decide +kernel) rfl (Or.inr rfl) (Or.inl rfl))) (fun _ _ _ _ _ => qif_nil) (fun _ _ _ _ _ => (qe_callTy (show CallR _ _ (rTupQ K) from call_tupQ) (by rfl) T.tup (by decide +kernel) (qac (qe_callB (show CallR _ _ (rSortI K) from call_sortI) (by rfl) T.sor (by decide +kernel) (qac (qe_comp (g := gName 0) (N := ["_law_point", "_law_turn", "_law_many"]) (src := [none, some 0, some 2]) rfl (comp_scopeX ["_law_turn", "_law_base", "_law_many"] rfl rfl rfl) (show QI _ _ _ (iSeq K _) from qi_seq (qv 1)) (fun _ _ _ _ _ => (qg_name (i := 0) (show (["_law_point", "_law_turn", "_law_many"] : List Str).Nodup by decide +kernel) rfl (Or.inl rfl) (Or.inr rfl))) (fun _ _ _ _ _ => qif_nil) (fun _ _ _ _ _ => (qe_op op_mod (qe_op op_add (qv 0) (qv 1)) (qv 2)))) qa_nil)) qa_nil)))))), ?_⟩
    have hbl := hb.len
    refine ⟨_, rfl, ((m : Nat) : Int), rfl, by omega, by omega, comp_rng (lo := 0) (n := m) (fun i ys H2 => Same H H2 ∧ ∃ bs : List (List Nat), TpAt H2 ys bs ∧ bs.length = i ∧ ∀ b ∈ bs, Bls m b) ⟨Same.refl _, [], trivial, rfl, by simp⟩ ?_ ?_⟩
    · rintro i ys H2 N hi ⟨s2, bs, hT, hl, hb'⟩ nx
      refine ⟨Weak.set (by intro v z; cases z), ?_⟩
      have hlz : ys.length < sizeLine := by
        rw [hT.len, hl]
        exact Nat.lt_of_lt_of_le hi (Nat.le_trans hm (by decide))
      have fin : (nats ((b.take (nats b).length).map fun p => (p + i) % m)).length ≤ sizeLine ∧ ∀ r, H2 r = none → rSortI K [V.ref r] (upd H2 r (.lst (nats ((b.take (nats b).length).map fun p => (p + i) % m)))) fun x H1 => rTupQ K [x] H1 fun y H6 => ys.length < sizeLine ∧ N (ys ++ [y]) H6 := by
        rw [show b.take (nats b).length = b by rw [nats_len, List.take_length]]
        refine ⟨by rw [nats_len, List.length_map]; exact Nat.le_trans hbl (Nat.le_trans hm (by decide)), fun r hr => ?_⟩
        have w1 := same_new (o := .lst (nats (b.map fun p => (p + i) % m))) hr
        refine ⟨r, (b.map fun p => (p + i) % m).map fun p => ((p : Nat) : Int), rfl, SqL.of (by rw [← nats_ints]; exact upd_same), by rw [List.length_map, List.length_map]; omega, fun l ns hl' hp hs => ?_⟩
        obtain ⟨c, e, hp', hs'⟩ := back_nats hp hs
        rw [e]
        have w2 := same_new (o := .lst (nats c)) hl'
        refine ⟨l, _, rfl, .inl ⟨SqL.of upd_same, fun t ht => ⟨hlz, nx _ _ ⟨s2.trans (w1.trans (w2.trans (same_new ht))), bs ++ [c], ((((hT.sm w1).sm w2).sm (same_new ht)).snoc upd_same), ?_, alls_snoc hb' (blk_sorted ((turn_blk hb.blk hm0 i).perm hp') hs')⟩⟩⟩⟩
        rw [List.length_append, hl]
        rfl
      rcases ha with ha | ha
      · refine ⟨_, rfl, a, rfl, .inl ⟨⟨_, SqL.of (s2 _ _ ha)⟩, comp_list (K := K) (xs := nats b) (fun j zs H3 => H3 = H2 ∧ zs = nats ((b.take j).map fun p => (p + i) % m)) ⟨rfl, rfl⟩ (fun j zs H3 _ ⟨e, _⟩ => SqL.of (e ▸ s2 _ _ ha)) ?_ ?_⟩⟩
        · rintro j x zs H3 N3 hj ⟨rfl, rfl⟩ nx3
          obtain ⟨p, hp, rfl⟩ := nats_get hj
          refine ⟨Weak.set (by intro v z; cases z), ⟨_, rfl, _, rfl, _, _, rfl, rfl, _, rfl, _, _, rfl, rfl, by omega, ?_, nx3 _ _ ⟨rfl, ?_⟩⟩⟩
          · rw [nats_len, List.length_map, List.length_take]
            exact Nat.lt_of_le_of_lt (show _ ≤ 9 by omega) (by decide)
          · rw [List.take_add_one, hp, Option.toList_some, List.map_append, List.map_cons, List.map_nil, nats_snoc, Int.zero_add]
            rfl
        · rintro zs H3 ⟨rfl, rfl⟩
          exact fin
      · refine ⟨_, rfl, a, rfl, .inr ⟨⟨_, SqT.of (s2 _ _ ha)⟩, comp_tup (K := K) (xs := nats b) (fun j zs H3 => H3 = H2 ∧ zs = nats ((b.take j).map fun p => (p + i) % m)) ⟨rfl, rfl⟩ (fun j zs H3 _ ⟨e, _⟩ => SqT.of (e ▸ s2 _ _ ha)) ?_ ?_⟩⟩
        · rintro j x zs H3 N3 hj ⟨rfl, rfl⟩ nx3
          obtain ⟨p, hp, rfl⟩ := nats_get hj
          refine ⟨Weak.set (by intro v z; cases z), ⟨_, rfl, _, rfl, _, _, rfl, rfl, _, rfl, _, _, rfl, rfl, by omega, ?_, nx3 _ _ ⟨rfl, ?_⟩⟩⟩
          · rw [nats_len, List.length_map, List.length_take]
            exact Nat.lt_of_le_of_lt (show _ ≤ 9 by omega) (by decide)
          · rw [List.take_add_one, hp, Option.toList_some, List.map_append, List.map_cons, List.map_nil, nats_snoc, Int.zero_add]
            rfl
        · rintro zs H3 ⟨rfl, rfl⟩
          exact fin
    · rintro ys H2 ⟨s2, bs, hT, hl, hb'⟩
      refine ⟨by rw [hT.len, hl]; exact Nat.le_trans hm (by decide), fun r hr => ?_⟩
      have s1 := same_new (o := .lst ys) hr
      exact q r ys bs _ (s2.free hr) (s2.trans s1) upd_same (hT.sm s1) (by omega) hb'
def LayQ (H : Hp) (Q : V → Hp → Prop) : Prop := ∀ (t l : Addr) (m : Nat) (ws : List V) (bs : List (List Nat)) (H' : Hp), H t = none → H l = none → Same H H' → H' t = some (.tup [.int (m : Nat), .ref l]) → H' l = some (.lst ws) → TpAt H' ws bs → 1 ≤ m → m ≤ 9 → bs.length ≤ 60 → (∀ b ∈ bs, Bls m b) → Q (.ref t) H'
def spEven : Sp := fun vs H Q _ => ∃ (x y : Int), vs = [.int x, .int y] ∧ LayQ H Q
theorem scLEvenBlocks : FnScope ["_law_x", "_law_y", "_law_way", "_law_blocks", "_law_many"] ["_law_x", "_law_y"] (defScope sLEvenBlocks) := ⟨rfl, rfl, rfl, by decide +kernel, rfl, by decide +kernel, by decide +kernel⟩
theorem ok_even {f : Addr} {fd : FuncData} (F : Fun K "_law_even_blocks" "_law_even_blocks" sLEvenBlocks f fd) (T : TxtB mg) (pLMask : Pm P w K mg base CX0 1 "_law_mask" ["_law_x", "_law_many"] spMask) (pLTurnedBase : Pm P w K mg base CX0 1 "_law_turned_base" ["_law_base", "_law_many"] (spTBase K)) (pLAllSets : Pm P w K mg base CX0 2 "_law_all_sets" ["_law_many", "_law_size"] spAllSets) : FnOk P w K mg base CX0 3 f fd ["_law_x", "_law_y"] spEven := by
  refine F.okQ scLEvenBlocks (fun vs H Q E h => ?_) (fun cdv A outer s H vs Q E hr2 h => ?_)
  · obtain ⟨x, y, rfl, _⟩ := h
    rfl
  · obtain ⟨x, y, rfl, q⟩ := h
    have hr1 := hr2.mono (show 1 ≤ 2 by decide)
    refine ⟨_, (qss_cons (qs_set (i := 2) scLEvenBlocks.nd rfl (Or.inl rfl) (qe_op op_mod (qv 0) qe_int))
      (qss_cons (qs_if (qt_cmpR op_eq (qv 2) qe_int (nomark _)) (qss_one (qs_ret (qe_tup (qac qe_int (qac (qe_callP pLTurnedBase hr1 rfl pass0 (qac (qe_lst (qac qe_int (qac qe_int (qac qe_int qa_nil)))) (qac qe_int qa_nil))) qa_nil))))) qss_nil)
      (qss_cons (qs_if (qt_cmpR op_eq (qv 2) qe_int (nomark _)) (qss_cons (qs_setComp (i := 3) (g := gTup K 2 (gCons (gName 0) (gCons (gName 1) gNil))) (N := ["_law_m", "_law_c"]) (src := [none, none]) rfl (comp_scope (defScope sLEvenBlocks) ["_law_x", "_law_y", "_law_way", "_law_blocks", "_law_many"] rfl rfl (by decide +kernel) rfl) (qi_list (qe_comp (g := gName 0) (N := ["_law_j"]) (src := [none]) rfl (comp_scope (defScope sLEvenBlocks) ["_law_x", "_law_y", "_law_way", "_law_blocks", "_law_many"] rfl rfl (by decide +kernel) rfl) (qi_range1 rfl T.range (qac qe_int qa_nil)) (fun _ _ _ _ _ => (qg_name (i := 0) (show (["_law_j"] : List Str).Nodup by decide +kernel) rfl (Or.inl rfl) (Or.inr rfl))) (fun _ _ _ _ _ => qif_nil) (fun _ _ _ _ _ => (qe_tup (qac (qe_op op_fdiv (qv 0) qe_int) (qac (qe_op op_mod (qv 0) qe_int) qa_nil)))))) (fun _ _ _ _ _ => (show QG _ _ (gTup K 2 _) from qg_tup rfl (qgs_cons (qg_name (i := 0) (show (["_law_m", "_law_c"] : List Str).Nodup by decide +kernel) rfl (Or.inr rfl) (Or.inl rfl)) (qgs_cons (qg_name (i := 1) (show (["_law_m", "_law_c"] : List Str).Nodup by decide +kernel) rfl (Or.inr rfl) (Or.inl rfl)) qgs_nil)))) (fun _ _ _ _ _ => qif_nil) (fun _ _ _ _ _ => (qe_callTy (show CallR _ _ (rTupQ K) from call_tupQ) (by rfl) T.tup (by decide +kernel) (qac (qe_comp (g := gName 0) (N := ["_law_k", "_law_m", "_law_c"]) (src := [none, some 0, some 1]) rfl (comp_scopeX ["_law_m", "_law_c"] rfl rfl rfl) (qi_range1 rfl T.range (qac qe_int qa_nil)) (fun _ _ _ _ _ => (qg_name (i := 0) (show (["_law_k", "_law_m", "_law_c"] : List Str).Nodup by decide +kernel) rfl (Or.inl rfl) (Or.inr rfl))) (fun _ _ _ _ _ => qif_nil) (fun _ _ _ _ _ => (qe_op op_add (qe_op op_mul qe_int (qv 0)) (qe_op op_mod (qe_op op_add (qe_op op_mul (qv 1) (qv 0)) (qv 2)) qe_int)))) qa_nil))) (qg_name (i := 3) scLEvenBlocks.nd rfl (Or.inl rfl)))
        (qss_one (qs_ret (qe_tup (qac qe_int (qac (qe_op op_cat (qv 3) (qe_comp (g := gName 0) (N := ["_law_c"]) (src := [none]) rfl (comp_scope (defScope sLEvenBlocks) ["_law_x", "_law_y", "_law_way", "_law_blocks", "_law_many"] rfl rfl (by decide +kernel) rfl) (qi_range1 rfl T.range (qac qe_int qa_nil)) (fun _ _ _ _ _ => (qg_name (i := 0) (show (["_law_c"] : List Str).Nodup by decide +kernel) rfl (Or.inr rfl) (Or.inl rfl))) (fun _ _ _ _ _ => qif_nil) (fun _ _ _ _ _ => (qe_callTy (show CallR _ _ (rTupQ K) from call_tupQ) (by rfl) T.tup (by decide +kernel) (qac (qe_comp (g := gName 0) (N := ["_law_j", "_law_c"]) (src := [none, some 0]) rfl (comp_scopeX ["_law_c"] rfl rfl rfl) (qi_range1 rfl T.range (qac qe_int qa_nil)) (fun _ _ _ _ _ => (qg_name (i := 0) (show (["_law_j", "_law_c"] : List Str).Nodup by decide +kernel) rfl (Or.inl rfl) (Or.inr rfl))) (fun _ _ _ _ _ => qif_nil) (fun _ _ _ _ _ => (qe_op op_add (qe_op op_mul qe_int (qv 1)) (qv 0)))) qa_nil))))) qa_nil)))))) qss_nil)
      (qss_cons (qs_if (qt_cmpR op_eq (qv 2) qe_int (nomark _)) (qss_cons (qs_set (i := 4) scLEvenBlocks.nd rfl (Or.inl rfl) (qe_op op_add qe_int (qe_op op_mod (qe_op op_fdiv (qv 0) qe_int) qe_int)))
        (qss_one (qs_ret (qe_tup (qac (qv 4) (qac (qe_callP pLAllSets hr2 rfl pass0 (qac (qv 4) (qac (qe_op op_mod (qv 1) (qe_op op_add (qv 4) qe_int)) qa_nil))) qa_nil)))))) qss_nil)
      (qss_cons (qs_set (i := 4) scLEvenBlocks.nd rfl (Or.inl rfl) (qe_op op_add qe_int (qe_op op_mod (qe_op op_fdiv (qv 0) qe_int) qe_int)))
      (qss_one (qs_ret (qe_tup (qac (qv 4) (qac (qe_callP pLTurnedBase hr1 rfl pass0 (qac (qe_callP pLMask hr1 rfl pass0 (qac (qe_op op_mod (qv 1) (qe_op op_shl qe_int (qv 4))) (qac (qv 4) qa_nil))) (qac (qv 4) qa_nil))) qa_nil)))))))))), ?_⟩
    have fin : ∀ (m : Nat) (H1 : Hp), Same H H1 → 1 ≤ m → m ≤ 9 → ∀ (l : Addr) (ws : List V) (bs : List (List Nat)) (H' : Hp), H1 l = none → Same H1 H' → H' l = some (.lst ws) → TpAt H' ws bs → bs.length ≤ 60 → (∀ b ∈ bs, Bls m b) → ∀ t, H' t = none → Q (.ref t) (upd H' t (.tup [.int (m : Nat), .ref l])) := by
      intro m H1 s1 h1 h9 l ws bs H' hl s' hl' hT hn hb t ht
      have w := same_new (o := .tup [.int (m : Nat), .ref l]) ht
      have sA := s1.trans s'
      exact q t l m ws bs _ (sA.free ht) (s1.free hl) (sA.trans w) upd_same (w _ _ hl') (hT.sm w) h1 h9 hn hb
    have many : ∀ n : Int, 0 < n → n ≤ 9 → ∃ m : Nat, 1 + x / 5 % n = (m : Int) ∧ 1 ≤ m ∧ (m : Int) ≤ n := fun n h0 h9 => by
      have h1 := Int.emod_nonneg (x / 5) (show n ≠ 0 by omega)
      have h2 := Int.emod_lt_of_pos (x / 5) h0
      exact ⟨(1 + x / 5 % n).toNat, by omega, by omega, by omega⟩
    refine ⟨_, rfl, _, _, rfl, rfl, (by decide : (0 : Int) < 5), ?_⟩
    refine ⟨_, rfl, rfl, _, rfl, ?_⟩
    refine ite2 (fun _ => ?_) (fun _ => ?_)
    · refine ⟨by show 3 ≤ sizeLine; decide, fun d hd => ⟨d, [0, 1, 3], 7, rfl, .inl upd_same, ⟨by decide, by decide⟩, by decide, by decide, fun l ws bs H' hl s' hl' hT hn hb => ⟨by show 2 ≤ sizeLine; decide, fun t ht => ?_⟩⟩⟩
      exact fin 7 _ (same_new hd) (by decide) (by decide) l ws bs H' hl s' hl' hT hn hb t ht
    refine ⟨_, rfl, rfl, _, rfl, ?_⟩
    refine ite2 (fun _ => ?_) (fun _ => ?_)
    · refine ⟨9, rfl, by decide, by decide, comp_rng (lo := 0) (n := 9) (fun i ys H2 => Same H H2 ∧ ∃ ps : List (Int × Int), PrsAt H2 ys ps ∧ ps.length = i ∧ ∀ p ∈ ps, 0 ≤ p.1 ∧ p.1 < 3 ∧ 0 ≤ p.2 ∧ p.2 < 3) ⟨Same.refl _, [], trivial, rfl, by simp⟩ ?_ ?_⟩
      · rintro i ys H2 N hi ⟨s2, ps, hP, hl, hb⟩ nx
        refine ⟨Weak.set (by intro v z; cases z), ⟨_, rfl, _, _, rfl, rfl, ⟨by decide, by decide⟩, _, rfl, _, _, rfl, rfl, (by decide : (0 : Int) < 3), by show 2 ≤ sizeLine; decide, fun t ht => ⟨?_, nx _ _ ⟨s2.trans (same_new ht), ps ++ [((0 + (i : Int)) / 3, (0 + (i : Int)) % 3)], PrsAt.snoc (p := ((0 + (i : Int)) / 3, (0 + (i : Int)) % 3)) upd_same (hP.same (same_new ht)), by rw [List.length_append, hl]; rfl, ?_⟩⟩⟩⟩
        · rw [hP.len, hl]
          exact Nat.lt_trans hi (by decide)
        · intro p hp
          rcases List.mem_append.mp hp with z | z
          · exact hb p z
          · rw [List.mem_singleton.mp z]
            exact ⟨by show 0 ≤ (0 + (i : Int)) / 3; omega, by show (0 + (i : Int)) / 3 < 3; omega, by show 0 ≤ (0 + (i : Int)) % 3; omega, by show (0 + (i : Int)) % 3 < 3; omega⟩
      rintro ys H2 ⟨s2, ps, hP, hl, hb⟩
      have hyl : ys.length = 9 := hP.len.trans hl
      refine ⟨by rw [hyl]; decide, fun r hr => ?_⟩
      have w1 := same_new (o := .lst ys) hr
      refine ⟨r, rfl, ⟨_, SqL.of upd_same⟩, comp_list (K := K) (xs := ys) (fun i zs H3 => Same (upd H2 r (.lst ys)) H3 ∧ ∃ bs : List (List Nat), TpAt H3 zs bs ∧ bs.length = i ∧ ∀ b ∈ bs, Bls 9 b) ⟨Same.refl _, [], trivial, rfl, by simp⟩ (fun i zs H3 _ ⟨s3, _⟩ => SqL.of (s3 _ _ upd_same)) ?_ ?_⟩
      · rintro i v zs H3 N3 hi ⟨s3, bs, hT, hl3, hbb⟩ nx3
        have hi9 : i < 9 := by
          have := (List.getElem?_eq_some_iff.mp hi).1
          omega
        obtain ⟨a, p, rfl, hp, ha⟩ := ((hP.same w1).same s3).get hi
        obtain ⟨b1, b2, b3, b4⟩ := hb p (List.mem_of_getElem? hp)
        have hzl : zs.length < sizeLine := by
          rw [hT.len, hl3]
          exact Nat.lt_trans hi9 (by decide)
        refine ⟨a, _, rfl, SqT.of ha, rfl, _, _, rfl, _, _, rfl, rfl, (Weak.set (by intro v z; cases z)).trans (Weak.set (by intro v z; cases z)), ?_⟩
        refine ⟨3, rfl, by decide, by decide, comp_rng (lo := 0) (n := 3) (fun j us H4 => H4 = H3 ∧ ∃ c : List Nat, us = nats c ∧ c.length = j ∧ Bls (3 * j) c) ⟨rfl, [], rfl, rfl, ⟨by simp, by simp⟩⟩ ?_ ?_⟩
        · rintro j us H4 N4 hj ⟨rfl, c, rfl, hcl, hc⟩ nx4
          refine ⟨Weak.set (by intro v z; cases z), ⟨_, rfl, _, _, rfl, rfl, .inl ⟨by decide, by decide⟩, _, rfl, _, rfl, _, _, rfl, rfl, ?_, _, rfl, _, _, rfl, rfl, _, _, rfl, rfl, (by decide : (0 : Int) < 3), _, _, rfl, rfl, ?_, nx4 _ _ ⟨rfl, c ++ [(3 * (0 + (j : Int)) + (p.1 * (0 + (j : Int)) + p.2) % 3).toNat], ?_, ?_, ?_⟩⟩⟩
          · exact .inl ⟨by omega, by omega⟩
          · rw [nats_len, hcl]
            exact Nat.lt_trans hj (by decide)
          · have e1 := Int.emod_nonneg (p.1 * (0 + (j : Int)) + p.2) (show (3 : Int) ≠ 0 by decide)
            rw [nats_snoc, Int.toNat_of_nonneg (by omega)]
          · rw [List.length_append, hcl]
            rfl
          · have e1 := Int.emod_nonneg (p.1 * (0 + (j : Int)) + p.2) (show (3 : Int) ≠ 0 by decide)
            have e2 := Int.emod_lt_of_pos (p.1 * (0 + (j : Int)) + p.2) (show (0 : Int) < 3 by decide)
            exact hc.snocLt (by omega) (by omega)
        · rintro us H4 ⟨rfl, c, rfl, hcl, hc⟩
          refine ⟨by rw [nats_len, hcl]; decide, fun r2 hr2' => ?_⟩
          have w2 := same_new (o := .lst (nats c)) hr2'
          refine ⟨r2, _, rfl, .inl ⟨SqL.of upd_same, fun t ht => ⟨hzl, nx3 _ _ ⟨s3.trans (w2.trans (same_new ht)), bs ++ [c], ((hT.sm w2).sm (same_new ht)).snoc upd_same, by rw [List.length_append, hl3]; rfl, alls_snoc hbb hc⟩⟩⟩⟩
      rintro zs H3 ⟨s3, bs, hT, hl3, hbb⟩
      have hzl : zs.length = 9 := by rw [hT.len, hl3, hyl]
      refine ⟨by rw [hzl]; decide, fun r3 hr3 => ?_⟩
      have w3 := same_new (o := .lst zs) hr3
      refine ⟨_, rfl, 3, rfl, by decide, by decide, comp_rng (lo := 0) (n := 3) (fun i us H4 => Same (upd H3 r3 (.lst zs)) H4 ∧ ∃ cs : List (List Nat), TpAt H4 us cs ∧ cs.length = i ∧ ∀ b ∈ cs, Bls 9 b) ⟨Same.refl _, [], trivial, rfl, by simp⟩ ?_ ?_⟩
      · rintro i us H4 N4 hi ⟨s4, cs, hT4, hl4, hb4⟩ nx4
        have hul : us.length < sizeLine := by
          rw [hT4.len, hl4]
          exact Nat.lt_trans hi (by decide)
        refine ⟨Weak.set (by intro v z; cases z), ?_⟩
        refine ⟨3, rfl, by decide, by decide, comp_rng (lo := 0) (n := 3) (fun j xs H5 => H5 = H4 ∧ ∃ c : List Nat, xs = nats c ∧ c.length = j ∧ Bls (3 * i + j) c) ⟨rfl, [], rfl, rfl, ⟨by simp, by simp⟩⟩ ?_ ?_⟩
        · rintro j xs H5 N5 hj ⟨rfl, c, rfl, hcl, hc⟩ nx5
          refine ⟨Weak.set (by intro v z; cases z), ⟨_, rfl, _, _, rfl, rfl, .inl ⟨by decide, by decide⟩, _, rfl, _, _, rfl, rfl, ?_, nx5 _ _ ⟨rfl, c ++ [3 * i + j], ?_, ?_, hc.snoc⟩⟩⟩
          · rw [nats_len, hcl]
            exact Nat.lt_trans hj (by decide)
          · rw [nats_snoc, show ((3 * i + j : Nat) : Int) = 3 * (0 + (i : Int)) + (0 + (j : Int)) by omega]
          · rw [List.length_append, hcl]
            rfl
        · rintro xs H5 ⟨rfl, c, rfl, hcl, hc⟩
          refine ⟨by rw [nats_len, hcl]; decide, fun r2 hr2' => ?_⟩
          have w2 := same_new (o := .lst (nats c)) hr2'
          refine ⟨r2, _, rfl, .inl ⟨SqL.of upd_same, fun t ht => ⟨hul, nx4 _ _ ⟨s4.trans (w2.trans (same_new ht)), cs ++ [c], ((hT4.sm w2).sm (same_new ht)).snoc upd_same, by rw [List.length_append, hl4]; rfl, alls_snoc hb4 (hc.mono (by omega))⟩⟩⟩⟩
      rintro us H4 ⟨s4, cs, hT4, hl4, hb4⟩
      have hul : us.length = 3 := hT4.len.trans hl4
      refine ⟨by rw [hul]; decide, fun r4 hr4 => ?_⟩
      have w4 := same_new (o := .lst us) hr4
      refine ⟨r3, r4, zs, us, rfl, rfl, (s4.trans w4) _ _ upd_same, upd_same, by rw [hzl, hul]; decide, fun l hl' => ⟨by show 2 ≤ sizeLine; decide, fun t ht => ?_⟩⟩
      have w5 := same_new (o := .lst (zs ++ us)) hl'
      refine fin 9 _ (s2.trans (w1.trans (s3.trans (w3.trans (s4.trans w4))))) (by decide) (by decide) l (zs ++ us) (bs ++ cs) _ hl' w5 upd_same ((((hT.sm w3).sm s4).sm w4).app (hT4.sm w4) |>.sm w5) (by rw [List.length_append, hl3, hl4, hyl]; decide) (fun b hb' => ?_) t ht
      rcases List.mem_append.mp hb' with z | z
      · exact hbb b z
      · exact hb4 b z
    refine ⟨_, rfl, rfl, _, rfl, ?_⟩
    refine ite2 (fun _ => ?_) (fun _ => ?_)
    · obtain ⟨m, hm, h1, h5⟩ := many 5 (by decide) (by decide)
      refine ⟨_, rfl, _, _, rfl, rfl, ⟨by decide, by decide⟩, _, _, rfl, rfl, (by decide : (0 : Int) < 5), _, _, rfl, rfl, ?_⟩
      dsimp only
      rw [hm]
      refine ⟨_, rfl, _, rfl, _, rfl, _, rfl, _, _, rfl, rfl, _, _, rfl, rfl, by show (0 : Int) < (m : Int) + 1; omega, m, _, rfl, by omega, fun l ws bs H' hl s' hl' hT hn hb => ⟨by show 2 ≤ sizeLine; decide, fun t ht => ?_⟩⟩
      exact fin m _ (Same.refl _) h1 (by omega) l ws bs H' hl s' hl' hT hn hb t ht
    · obtain ⟨m, hm, h1, h9⟩ := many 9 (by decide) (by decide)
      refine ⟨_, rfl, _, _, rfl, rfl, ⟨by decide, by decide⟩, _, _, rfl, rfl, (by decide : (0 : Int) < 9), _, _, rfl, rfl, ?_⟩
      dsimp only
      rw [hm]
      have hpw : (0 : Int) < 1 * 2 ^ (((m : Nat) : Int)).toNat := by
        rw [Int.one_mul]
        exact Int.pow_pos (by decide)
      refine ⟨_, rfl, _, rfl, _, rfl, _, _, rfl, rfl, ⟨by omega, by omega, by decide⟩, _, _, rfl, rfl, hpw, _, rfl, _, m, rfl, by omega, fun t1 b1 H1 ht1 s1 ht1' hb1 => ?_⟩
      refine ⟨_, rfl, t1, b1, m, rfl, .inr ht1', hb1, h1, by omega, fun l ws bs H' hl s' hl' hT hn hb => ⟨by show 2 ≤ sizeLine; decide, fun t ht => ?_⟩⟩
      exact fin m _ s1 h1 (by omega) l ws bs H' hl s' hl' hT hn hb t ht
def LayT (K : PySem.W.Frag) (H : Hp) (Q : V → Hp → Prop) : Prop := ∀ (t l : Addr) (m : Nat) (ws : List V) (bs : List (List Nat)) (H' : Hp), H t = none → Same H H' → H' t = some (.tup [.int (m : Nat), .ref l]) → H' l = some (.tup ws) → TpAt H' ws bs → 1 ≤ m → m ≤ 9 → bs.length ≤ 60 → (∀ b ∈ bs, Bls m b) → Q (.ref t) H'
def spLLayout (K : PySem.W.Frag) : Sp := fun vs H Q _ => ∃ (a : Addr) (ns : List Int) (k : Nat), vs = [.ref a, .int (k : Int)] ∧ SqL K H a (ns.map V.int) ∧ k ≤ 900 ∧ LayT K H Q
theorem scLLayout : FnScope ["_law_script", "_law_at", "_law_xs", "_law_ys", "_law_many", "_law_blocks", "_law_k", "_law_point", "_law_block_here", "_law_row_here"] ["_law_script", "_law_at"] (defScope sLLayout) := ⟨rfl, rfl, rfl, by decide +kernel, rfl, by decide +kernel, by decide +kernel⟩
theorem edit_blk {m : Nat} {b : List Nat} (hb : Blk m b) {p : Nat} (hp : p < m) (n : Nat) (hn : n ≤ 1) : Blk m (b.filter (fun x => decide (x ≠ p)) ++ List.replicate n p) := by
  refine ⟨?_, fun x hx => ?_⟩
  · rw [List.nodup_append]
    refine ⟨hb.nd.filter _, ?_, fun x hx y hy e => ?_⟩
    · rcases (show n = 0 ∨ n = 1 by omega) with rfl | rfl <;> simp
    · have h1 : x ≠ p := of_decide_eq_true (List.mem_filter.mp hx).2
      exact h1 (e.trans (List.eq_of_mem_replicate hy))
  · rcases List.mem_append.mp hx with z | z
    · exact hb.lt x (List.mem_filter.mp z).1
    · rw [List.eq_of_mem_replicate z]
      exact hp
theorem nodup_inj : ∀ {r : List Nat}, r.Nodup → ∀ {x y : Nat} (h1 : x < r.length) (h2 : y < r.length), r[x] = r[y] → x = y
  | [], _, _, _, h1, _, _ => absurd h1 (Nat.not_lt_zero _)
  | a :: r, hn, 0, 0, _, _, _ => rfl
  | a :: r, hn, 0, y + 1, _, h2, e => by
    have : a = r[y]'(by simpa using h2) := e
    exact absurd (this ▸ List.getElem_mem _) (List.nodup_cons.mp hn).1
  | a :: r, hn, x + 1, 0, h1, _, e => by
    have : r[x]'(by simpa using h1) = a := e
    exact absurd (this ▸ List.getElem_mem _) (List.nodup_cons.mp hn).1
  | a :: r, hn, x + 1, y + 1, h1, h2, e => congrArg (· + 1) (nodup_inj (List.nodup_cons.mp hn).2 (by simpa using h1) (by simpa using h2) e)
theorem perm_blk {m : Nat} {b r : List Nat} (hb : Blk m b) (hr : r.Perm (List.range m)) : Blk m (b.map fun p => r.getD p 0) := by
  have hl : r.length = m := by rw [hr.length_eq, List.length_range]
  have hnd : r.Nodup := hr.nodup_iff.mpr List.nodup_range
  have hg : ∀ x, x < m → r.getD x 0 = r[x]?.getD 0 := fun x _ => by rw [List.getD_eq_getElem?_getD]
  have he : ∀ x (h : x < m), r.getD x 0 = r[x]'(by omega) := fun x h => by
    rw [hg x h, List.getElem?_eq_getElem (by omega), Option.getD_some]
  refine ⟨?_, fun x hx => ?_⟩
  · rw [List.nodup_iff_pairwise_ne, List.pairwise_map]
    refine (List.Pairwise.imp_of_mem ?_ hb.nd)
    intro x y hx hy hne e
    rw [he x (hb.lt x hx), he y (hb.lt y hy)] at e
    have h1 := hb.lt x hx
    have h2 := hb.lt y hy
    exact hne (nodup_inj hnd (by omega) (by omega) e)
  · obtain ⟨p, hp, rfl⟩ := List.mem_map.mp hx
    rw [he p (hb.lt p hp)]
    exact List.mem_range.mp (hr.mem_iff.mp (List.getElem_mem _))
theorem tp_edit {HZ : Hp} {l t : Addr} {ws : List V} {bs : List (List Nat)} {b : List Nat} (hT : TpAt HZ ws bs) (hl : HZ l = some (.lst ws)) (ht : HZ t = some (.tup (nats b))) (j : Nat) : TpAt (upd HZ l (.lst (ws.set j (.ref t)))) (ws.set j (.ref t)) (bs.set j b) := by
  have hne : ∀ (x : Addr) xs, HZ x = some (.tup xs) → x ≠ l := fun x xs hx z => by
    rw [z, hl] at hx
    cases hx
  refine TpAt.set ?_ j (hT.same fun x xs hx => ?_)
  · rw [upd_ne (hne t _ ht)]
    exact ht
  · rw [upd_ne (hne x xs hx)]
    exact hx
def LSt (H : Hp) (a : Addr) (k : Int) (lx ly : Addr) (ns ny : List Int) (σ : St) (H' : Hp) : Prop := Same H H' ∧ H' lx = some (.lst (ns.map V.int)) ∧ H' ly = some (.lst (ny.map V.int)) ∧ ∃ (m : Nat) (l : Addr) (ws : List V) (bs : List (List Nat)) (x6 x7 x8 : Option V), σ = [some (.ref a), some (.int k), some (.ref lx), some (.ref ly), some (.int (m : Nat)), some (.ref l), x6, x7, x8, none] ∧ H' l = some (.lst ws) ∧ H l = none ∧ l ≠ lx ∧ l ≠ ly ∧ TpAt H' ws bs ∧ 1 ≤ m ∧ m ≤ 9 ∧ bs.length ≤ 60 ∧ ∀ b ∈ bs, Bls m b
theorem ok_llayout {f : Addr} {fd : FuncData} (F : Fun K "_law_layout" "_law_layout" sLLayout f fd) (T : TxtB mg) (pCell : Pm P w K mg base CX0 1 "_law_cell" ["_law_script", "_law_k"] (spCell2 K)) (pLNumbers : Pm P w K mg base CX0 1 "_law_numbers" ["_law_cell_here", "_law_many"] spNums) (pLMask : Pm P w K mg base CX0 1 "_law_mask" ["_law_x", "_law_many"] spMask) (pLOfSize : Pm P w K mg base CX0 1 "_law_of_size" ["_law_x", "_law_many", "_law_size"] spOfSize) (pLRow : Pm P w K mg base CX0 1 "_law_row" ["_law_xs", "_law_many"] (spRow K)) (pLEvenBlocks : Pm P w K mg base CX0 3 "_law_even_blocks" ["_law_x", "_law_y"] spEven) : FnOk P w K mg base CX0 4 f fd ["_law_script", "_law_at"] (spLLayout K) := by
  refine F.okQ scLLayout (fun vs H Q E h => ?_) (fun cdv A outer s H vs Q E hr3 h => ?_)
  · obtain ⟨a, ns, k, rfl, _⟩ := h
    rfl
  · obtain ⟨a, sn, k, rfl, hS, hk, q⟩ := h
    have hr1 := hr3.mono (show 1 ≤ 3 by decide)
    refine ⟨_, (qss_cons (qs_set (i := 2) scLLayout.nd rfl (Or.inr rfl) (qe_callP pLNumbers hr1 rfl pass0 (qac (qe_callP pCell hr1 rfl pass0 (qac (qv 0) (qac (qv 1) qa_nil))) (qac qe_int qa_nil))))
      (qss_cons (qs_set (i := 3) scLLayout.nd rfl (Or.inl rfl) (qe_callP pLNumbers hr1 rfl pass0 (qac (qe_callP pCell hr1 rfl pass0 (qac (qv 0) (qac (qe_op op_add (qv 1) qe_int) qa_nil))) (qac qe_int qa_nil))))
      (qss_cons (qs_set (i := 4) scLLayout.nd rfl (Or.inr rfl) (qe_op op_add qe_int (qe_op op_mod (qe_ix ix_list (qv 2) qe_int (fun _ _ => rfl)) qe_int)))
      (qss_cons (qs_setComp (i := 5) (g := gName 0) (N := ["_law_y", "_law_many"]) (src := [none, some 4]) rfl (comp_scope (defScope sLLayout) ["_law_script", "_law_at", "_law_xs", "_law_ys", "_law_many", "_law_blocks", "_law_k", "_law_point", "_law_block_here", "_law_row_here"] rfl rfl (by decide +kernel) rfl) (qi_list (qe_slice sl_list (qv 3) qo_none (qo_some (qe_op op_mod (qe_ix ix_list (qv 2) qe_int (fun _ _ => rfl)) qe_int)))) (fun _ _ _ _ _ => (qg_name (i := 0) (show (["_law_y", "_law_many"] : List Str).Nodup by decide +kernel) rfl (Or.inl rfl) (Or.inr rfl))) (fun _ _ _ _ _ => qif_nil) (fun _ _ _ _ _ => (qe_callP pLMask hr1 rfl pass0 (qac (qe_op op_mod (qv 0) (qe_op op_shl qe_int (qv 1))) (qac (qv 1) qa_nil)))) (qg_name (i := 5) scLLayout.nd rfl (Or.inl rfl)))
      (qss_cons (qs_if (qt_cmpR op_eq (qe_op op_mod (qe_ix ix_list (qv 2) qe_int (fun _ _ => rfl)) qe_int) qe_int (nomark _)) (qss_one (qs_setComp (i := 5) (g := gName 0) (N := ["_law_y", "_law_xs", "_law_many"]) (src := [none, some 2, some 4]) rfl (comp_scope (defScope sLLayout) ["_law_script", "_law_at", "_law_xs", "_law_ys", "_law_many", "_law_blocks", "_law_k", "_law_point", "_law_block_here", "_law_row_here"] rfl rfl (by decide +kernel) rfl) (qi_list (qe_slice sl_list (qv 3) qo_none (qo_some (qe_op op_mod (qe_ix ix_list (qv 2) qe_int (fun _ _ => rfl)) qe_int)))) (fun _ _ _ _ _ => (qg_name (i := 0) (show (["_law_y", "_law_xs", "_law_many"] : List Str).Nodup by decide +kernel) rfl (Or.inl rfl) (Or.inr rfl))) (fun _ _ _ _ _ => qif_nil) (fun _ _ _ _ _ => (qe_callP pLOfSize hr1 rfl pass0 (qac (qv 0) (qac (qv 2) (qac (qe_op op_mod (qe_ix (show IxR _ (rIxL K) from ix_list) (qv 1) qe_int (fun _ _ => rfl)) (qe_op op_add (qv 2) qe_int)) qa_nil))))) (qg_name (i := 5) scLLayout.nd rfl (Or.inl rfl)))) qss_nil)
      (qss_cons (qs_if (qt_cmpR op_gt (qe_op op_mod (qe_ix ix_list (qv 2) qe_int (fun _ _ => rfl)) qe_int) qe_int (nomark _)) (qss_one (qs_asg (qe_callP pLEvenBlocks hr3 rfl pass0 (qac (qe_ix ix_list (qv 2) qe_int (fun _ _ => rfl)) (qac (qe_ix ix_list (qv 2) qe_int (fun _ _ => rfl)) qa_nil))) (qg_tup rfl (qgs_cons (qg_name (i := 4) scLLayout.nd rfl (Or.inr rfl)) (qgs_cons (qg_name (i := 5) scLLayout.nd rfl (Or.inl rfl)) qgs_nil))))) qss_nil)
      (qss_cons (qs_if (qt_cmpR op_eq (qe_op op_mod (qe_ix ix_list (qv 2) qe_int (fun _ _ => rfl)) qe_int) qe_int (nomark _)) (qss_one (qs_set (i := 5) scLLayout.nd rfl (Or.inl rfl) (qe_slice sl_list (qe_op op_cat (qv 5) (qv 5)) qo_none (qo_some qe_int)))) qss_nil)
      (qss_cons (qs_if (QW.pt (qw_and (qt_cmpR op_eq (qe_op op_mod (qe_ix ix_list (qv 2) qe_int (fun _ _ => rfl)) qe_int) qe_int (nomark _)) (qw_and1 (qt_cmpR (op_neD hr3.units) (qv 5) (qe_lst qa_nil) (nomark _))))) (qss_cons (qs_set (i := 6) scLLayout.nd rfl (Or.inl rfl) (qe_op op_mod (qe_ix ix_list (qv 2) qe_int (fun _ _ => rfl)) (qe_callB call_len_seq (by rfl) T.len PySem.boot_len (qac (qv 5) qa_nil))))
        (qss_cons (qs_set (i := 7) scLLayout.nd rfl (Or.inr rfl) (qe_op op_mod (qe_ix ix_list (qv 2) qe_int (fun _ _ => rfl)) (qv 4)))
        (qss_cons (qs_set (i := 8) scLLayout.nd rfl (Or.inl rfl) (qe_op op_cat (qe_comp (g := gName 0) (N := ["_law_other", "_law_point"]) (src := [none, some 7]) rfl (comp_scope (defScope sLLayout) ["_law_script", "_law_at", "_law_xs", "_law_ys", "_law_many", "_law_blocks", "_law_k", "_law_point", "_law_block_here", "_law_row_here"] rfl rfl (by decide +kernel) rfl) (qi_seq (qe_ix ix_list (qv 5) (qv 6) (fun _ _ => rfl))) (fun _ _ _ _ _ => (qg_name (i := 0) (show (["_law_other", "_law_point"] : List Str).Nodup by decide +kernel) rfl (Or.inl rfl) (Or.inr rfl))) (fun _ _ _ _ _ => (qif_one (qt_cmpR op_ne (qv 0) (qv 1) (nomark _)))) (fun _ _ _ _ _ => (qv 0))) (qe_op op_mulL (qe_lst (qac (qv 7) qa_nil)) (qe_callTy call_int1 (by rfl) T.int (by decide +kernel) (qac (qe_cmpR op_notIn_seq (qv 7) (qe_ix ix_list (qv 5) (qv 6) (fun _ _ => rfl)) rfl) qa_nil)))))
        (qss_one (qs_asg (qe_callTy call_tuple_of (by rfl) T.tup (by decide +kernel) (qac (qe_callB call_sortI (by rfl) T.sor (by decide +kernel) (qac (qv 8) qa_nil)) qa_nil)) (qg_sub (qv 5) (qv 6) set_list (fun _ => rfl))))))) qss_nil)
      (qss_cons (qs_set (i := 9) scLLayout.nd rfl (Or.inr rfl) (qe_callP pLRow hr1 rfl pass0 (qac (qe_slice sl_list (qv 2) (qo_some qe_int) qo_none) (qac (qv 4) qa_nil))))
      (qss_cons (qs_if (qt_cmpR op_eq (qe_op op_mod (qe_op op_fdiv (qe_ix ix_list (qv 2) qe_int (fun _ _ => rfl)) qe_int) qe_int) qe_int (nomark _)) (qss_one (qs_setComp (i := 5) (g := gName 0) (N := ["_law_block_here", "_law_row_here"]) (src := [none, some 9]) rfl (comp_scope (defScope sLLayout) ["_law_script", "_law_at", "_law_xs", "_law_ys", "_law_many", "_law_blocks", "_law_k", "_law_point", "_law_block_here", "_law_row_here"] rfl rfl (by decide +kernel) rfl) (qi_list (qv 5)) (fun _ _ _ _ _ => (qg_name (i := 0) (show (["_law_block_here", "_law_row_here"] : List Str).Nodup by decide +kernel) rfl (Or.inl rfl) (Or.inr rfl))) (fun _ _ _ _ _ => qif_nil) (fun _ _ _ _ _ => (qe_callTy (show CallR _ _ (rTupQ K) from call_tupQ) (by rfl) T.tup (by decide +kernel) (qac (qe_callB (show CallR _ _ (rSortI K) from call_sortI) (by rfl) T.sor (by decide +kernel) (qac (qe_comp (g := gName 0) (N := ["_law_point", "_law_row_here"]) (src := [none, some 1]) rfl (comp_scopeX ["_law_block_here", "_law_row_here"] rfl rfl rfl) (show QI _ _ _ (iSeq K _) from qi_seq (qv 0)) (fun _ _ _ _ _ => (qg_name (i := 0) (show (["_law_point", "_law_row_here"] : List Str).Nodup by decide +kernel) rfl (Or.inl rfl) (Or.inr rfl))) (fun _ _ _ _ _ => qif_nil) (fun _ _ _ _ _ => (qe_ix (show IxR _ (rIxL K) from ix_list) (qv 1) (qv 0) (fun _ _ => rfl)))) qa_nil)) qa_nil))) (qg_name (i := 5) scLLayout.nd rfl (Or.inl rfl)))) qss_nil)
      (qss_one (qs_ret (qe_tup (qac (qv 4) (qac (qe_callTy call_tuple_of (by rfl) T.tup (by decide +kernel) (qac (qv 5) qa_nil)) qa_nil))))))))))))))), ?_⟩
    refine ⟨_, rfl, _, rfl, a, sn, k, rfl, hS, by omega, fun c1 H1 s1 => ⟨c1, 18, rfl, by decide, fun lx ns H2 hlx s2 hx2 hn hns => ?_⟩⟩
    have hS2 : SqL K H2 a (sn.map V.int) := (s1.trans s2).seq hS
    refine ⟨_, rfl, _, rfl, _, _, rfl, rfl, a, sn, k + 1, rfl, hS2, by omega, fun c2 H3 s3 => ⟨c2, 14, rfl, by decide, fun ly ny H4 hly s4 hy4 hny hnys => ?_⟩⟩
    have g : ∀ j : Nat, j < 18 → ∃ x : Int, atI (ns.map V.int) (j : Int) = some (.int x) ∧ 0 ≤ x ∧ x < 2000000000 := fun j hj => by
      obtain ⟨x, e, m⟩ := at_ok (ns := ns) (i := j) (by omega)
      exact ⟨x, e, hns x m⟩
    have m0 : ∀ (u : Int) (n : Int), 0 < n → 0 ≤ u % n ∧ u % n < n := fun u n h => ⟨Int.emod_nonneg _ (by omega), Int.emod_lt_of_pos _ h⟩
    obtain ⟨y0, e0, p0, _⟩ := g 0 (by decide)
    obtain ⟨y1, e1, p1, _⟩ := g 1 (by decide)
    obtain ⟨y2, e2, p2, _⟩ := g 2 (by decide)
    obtain ⟨y3, e3, p3, _⟩ := g 3 (by decide)
    obtain ⟨y4, e4, p4, _⟩ := g 4 (by decide)
    obtain ⟨y5, e5, p5, _⟩ := g 5 (by decide)
    obtain ⟨y6, e6, p6, _⟩ := g 6 (by decide)
    obtain ⟨y7, e7, p7, _⟩ := g 7 (by decide)
    obtain ⟨y8, e8, p8, _⟩ := g 8 (by decide)
    have sA : Same H H4 := s1.trans (s2.trans (s3.trans s4))
    have hx4 := (s3.trans s4) _ _ hx2
    have hlx0 : H lx = none := s1.free hlx
    have hly0 : H ly = none := (s1.trans (s2.trans s3)).free hly
    obtain ⟨m, hme, hm1, hm9⟩ : ∃ m : Nat, 1 + y1 % 9 = (m : Int) ∧ 1 ≤ m ∧ m ≤ 9 := by
      have := m0 y1 9 (by decide)
      exact ⟨(1 + y1 % 9).toNat, by omega, by omega, by omega⟩
    obtain ⟨j, hje, hj⟩ : ∃ j : Nat, y2 % 15 = (j : Int) ∧ j ≤ 14 := by
      have := m0 y2 15 (by decide)
      exact ⟨(y2 % 15).toNat, by omega, by omega⟩
    have hcut : cutV (ny.map V.int) none (some (y2 % 15)) = (ny.take j).map V.int := by
      rw [hje, cut_to (by rw [List.length_map]; omega), List.map_take]
    have hpw : (0 : Int) < 1 * 2 ^ (((m : Nat) : Int)).toNat := by
      rw [Int.one_mul]
      exact Int.pow_pos (by decide)
    refine ⟨_, rfl, lx, _, 1, .int y1, rfl, rfl, SqL.of hx4, e1, _, _, rfl, rfl, (by decide : (0 : Int) < 9), _, _, rfl, rfl, ?_⟩
    dsimp only
    rw [hme]
    refine seqVia (LSt H a k lx ly ns ny) ?_ (fun D' go => ?_)
    rotate_left
    · refine ⟨_, rfl, _, rfl, lx, _, 2, .int y2, rfl, rfl, SqL.of hx4, e2, _, _, rfl, rfl, (by decide : (0 : Int) < 15), _, rfl, ly, _, rfl, SqL.of hy4, fun u hu => ?_⟩
      rw [hcut]
      have w1 := same_new (o := .lst ((ny.take j).map V.int)) hu
      refine ⟨u, rfl, ⟨_, SqL.of upd_same⟩, comp_list (K := K) (xs := (ny.take j).map V.int) (fun i zs H5 => Same (upd H4 u (.lst ((ny.take j).map V.int))) H5 ∧ ∃ bs : List (List Nat), TpAt H5 zs bs ∧ bs.length = i ∧ ∀ b ∈ bs, Bls m b) ⟨Same.refl _, [], trivial, rfl, by simp⟩ (fun i zs H5 _ ⟨s5, _⟩ => SqL.of (s5 _ _ upd_same)) ?_ ?_⟩
      · rintro i v zs H5 N5 hi ⟨s5, bs, hT, hl, hb⟩ nx
        have hil : i < 15 := by
          have := (List.getElem?_eq_some_iff.mp hi).1
          rw [List.length_map, List.length_take] at this
          omega
        obtain ⟨z, _, rfl⟩ := ints_get hi
        refine ⟨Weak.set (by intro v z; cases z), ⟨_, rfl, _, rfl, _, _, rfl, rfl, ⟨by omega, by omega, by decide⟩, _, _, rfl, rfl, hpw, _, rfl, _, m, rfl, by omega, fun t b H6 ht s6 ht6 hb6 => ⟨?_, nx _ _ ⟨s5.trans s6, bs ++ [b], (hT.sm s6).snoc ht6, by rw [List.length_append, hl]; rfl, alls_snoc hb hb6⟩⟩⟩⟩
        rw [hT.len, hl]
        exact Nat.lt_trans hil (by decide)
      · rintro zs H5 ⟨s5, bs, hT, hl, hb⟩
        have hl' : bs.length ≤ 14 := by
          rw [hl, List.length_map, List.length_take]
          omega
        refine ⟨by rw [hT.len]; exact Nat.le_trans hl' (by decide), fun r hr => go _ _ ?_⟩
        have w2 := same_new (o := .lst zs) hr
        have sB := w1.trans s5
        exact ⟨sA.trans (sB.trans w2), (sB.trans w2) _ _ hx4, (sB.trans w2) _ _ hy4, m, r, zs, bs, none, none, none, rfl, upd_same, (sA.trans sB).free hr, (ne_of_none (sB _ _ hx4) hr).symm, (ne_of_none (sB _ _ hy4) hr).symm, hT.sm w2, hm1, hm9, by omega, hb⟩
    rintro σ H5 ⟨sB, hx5, hy5, m, l, ws, bs, x6, x7, x8, rfl, hl5, hl0, hnx, hnly, hT, hm1, hm9, hlen, hb⟩
    refine ⟨_, rfl, lx, _, 0, .int y0, rfl, rfl, SqL.of hx5, e0, _, _, rfl, rfl, (by decide : (0 : Int) < 4), rfl, _, rfl, ?_⟩
    refine iteV (LSt H a k lx ly ns ny) ?_ (fun _ go => ?_) (fun _ go => go _ _ ⟨sB, hx5, hy5, m, l, ws, bs, x6, x7, x8, rfl, hl5, hl0, hnx, hnly, hT, hm1, hm9, hlen, hb⟩)
    rotate_left
    · refine ⟨_, rfl, _, rfl, lx, _, 2, .int y2, rfl, rfl, SqL.of hx5, e2, _, _, rfl, rfl, (by decide : (0 : Int) < 15), _, rfl, ly, _, rfl, SqL.of hy5, fun u hu => ?_⟩
      rw [hcut]
      have w1 := same_new (o := .lst ((ny.take j).map V.int)) hu
      refine ⟨u, rfl, ⟨_, SqL.of upd_same⟩, comp_list (K := K) (xs := (ny.take j).map V.int) (fun i zs H6 => Same (upd H5 u (.lst ((ny.take j).map V.int))) H6 ∧ ∃ bs : List (List Nat), TpAt H6 zs bs ∧ bs.length = i ∧ ∀ b ∈ bs, Bls m b) ⟨Same.refl _, [], trivial, rfl, by simp⟩ (fun i zs H6 _ ⟨s6, _⟩ => SqL.of (s6 _ _ upd_same)) ?_ ?_⟩
      · rintro i v zs H6 N6 hi ⟨s6, bs', hT', hl', hb'⟩ nx
        have hil : i < 15 := by
          have := (List.getElem?_eq_some_iff.mp hi).1
          rw [List.length_map, List.length_take] at this
          omega
        obtain ⟨z, hz, rfl⟩ := ints_get hi
        have hz0 := (hnys z (List.mem_of_mem_take hz)).1
        refine ⟨Weak.set (by intro v z; cases z), ⟨_, rfl, _, rfl, _, rfl, lx, _, 3, .int y3, rfl, rfl, SqL.of (s6 _ _ (w1 _ _ hx5)), e3, _, rfl, _, _, rfl, rfl, _, _, rfl, rfl, by show (0 : Int) < (m : Int) + 1; omega, z, m, y3 % ((m : Int) + 1), rfl, hz0, by omega, (m0 y3 ((m : Int) + 1) (by omega)).1, fun t b H7 ht s7 ht7 hb7 => ⟨?_, nx _ _ ⟨s6.trans s7, bs' ++ [b], (hT'.sm s7).snoc ht7, by rw [List.length_append, hl']; rfl, alls_snoc hb' hb7⟩⟩⟩⟩
        rw [hT'.len, hl']
        exact Nat.lt_trans hil (by decide)
      · rintro zs H6 ⟨s6, bs', hT', hl', hb'⟩
        have hl'' : bs'.length ≤ 14 := by
          rw [hl', List.length_map, List.length_take]
          omega
        refine ⟨by rw [hT'.len]; exact Nat.le_trans hl'' (by decide), fun r hr => go _ _ ?_⟩
        have w2 := same_new (o := .lst zs) hr
        have sC := w1.trans s6
        exact ⟨sB.trans (sC.trans w2), (sC.trans w2) _ _ hx5, (sC.trans w2) _ _ hy5, m, r, zs, bs', x6, x7, x8, rfl, upd_same, (sB.trans sC).free hr, (ne_of_none (sC _ _ hx5) hr).symm, (ne_of_none (sC _ _ hy5) hr).symm, hT'.sm w2, hm1, hm9, by omega, hb'⟩
    clear hx5 hy5 hl5 hT hb sB hlen hm1 hm9 hl0 hnx hnly
    rintro σ H6 ⟨sB, hx5, hy5, m, l, ws, bs, x6, x7, x8, rfl, hl5, hl0, hnx, hnly, hT, hm1, hm9, hlen, hb⟩
    refine ⟨_, rfl, lx, _, 0, .int y0, rfl, rfl, SqL.of hx5, e0, _, _, rfl, rfl, (by decide : (0 : Int) < 4), _, _, rfl, rfl, _, rfl, ?_⟩
    refine iteV (LSt H a k lx ly ns ny) ?_ (fun _ go => ?_) (fun _ go => go _ _ ⟨sB, hx5, hy5, m, l, ws, bs, x6, x7, x8, rfl, hl5, hl0, hnx, hnly, hT, hm1, hm9, hlen, hb⟩)
    rotate_left
    · refine ⟨_, rfl, lx, _, 4, .int y4, rfl, rfl, SqL.of hx5, e4, _, rfl, lx, _, 5, .int y5, rfl, rfl, SqL.of hx5, e5, y4, y5, rfl, fun t l' m' ws' bs' H7 ht hl' s7 ht7 hl7 hT7 h1 h9 hn7 hb7 => ⟨t, _, rfl, SqT.of ht7, rfl, _, _, rfl, _, _, rfl, rfl, go _ _ ?_⟩⟩
      exact ⟨sB.trans s7, s7 _ _ hx5, s7 _ _ hy5, m', l', ws', bs', x6, x7, x8, rfl, hl7, sB.free hl', (ne_of_none hx5 hl').symm, (ne_of_none hy5 hl').symm, hT7, h1, h9, hn7, hb7⟩
    clear hx5 hy5 hl5 hT hb sB hlen hm1 hm9 hl0 hnx hnly
    rintro σ H7 ⟨sB, hx5, hy5, m, l, ws, bs, x6, x7, x8, rfl, hl5, hl0, hnx, hnly, hT, hm1, hm9, hlen, hb⟩
    refine ⟨_, rfl, lx, _, 6, .int y6, rfl, rfl, SqL.of hx5, e6, _, _, rfl, rfl, (by decide : (0 : Int) < 4), rfl, _, rfl, ?_⟩
    refine iteV (LSt H a k lx ly ns ny) ?_ (fun _ go => ?_) (fun _ go => go _ _ ⟨sB, hx5, hy5, m, l, ws, bs, x6, x7, x8, rfl, hl5, hl0, hnx, hnly, hT, hm1, hm9, hlen, hb⟩)
    rotate_left
    · refine ⟨_, rfl, _, rfl, l, l, ws, ws, rfl, rfl, hl5, hl5, by rw [hT.len]; exact Nat.le_trans (show bs.length + bs.length ≤ 120 by omega) (by decide), fun c hc => ?_⟩
      have w1 := same_new (o := .lst (ws ++ ws)) hc
      refine ⟨_, rfl, c, _, rfl, SqL.of upd_same, fun r hr => go _ _ ?_⟩
      rw [show cutV (ws ++ ws) none (some 14) = (ws ++ ws).take 14 from cut_le (k := 14)]
      have w2 := same_new (o := .lst ((ws ++ ws).take 14)) hr
      refine ⟨sB.trans (w1.trans w2), (w1.trans w2) _ _ hx5, (w1.trans w2) _ _ hy5, m, r, _, (bs ++ bs).take 14, x6, x7, x8, rfl, upd_same, (sB.trans w1).free hr, (ne_of_none (w1 _ _ hx5) hr).symm, (ne_of_none (w1 _ _ hy5) hr).symm, (((hT.app hT).take 14).sm w1).sm w2, hm1, hm9, by rw [List.length_take]; omega, fun b hb' => ?_⟩
      rcases List.mem_append.mp (List.mem_of_mem_take hb') with z | z
      · exact hb b z
      · exact hb b z
    clear hx5 hy5 hl5 hT hb sB hlen hm1 hm9 hl0 hnx hnly
    rintro σ H8 ⟨sB, hx5, hy5, m, l, ws, bs, x6, x7, x8, rfl, hl5, hl0, hnx, hnly, hT, hm1, hm9, hlen, hb⟩
    dsimp only
    refine seqVia (LSt H a k lx ly ns ny) ?_ (fun D' go => ?_)
    rotate_left
    · have st : LSt H a k lx ly ns ny [some (.ref a), some (.int k), some (.ref lx), some (.ref ly), some (.int (m : Nat)), some (.ref l), x6, x7, x8, none] H8 := ⟨sB, hx5, hy5, m, l, ws, bs, x6, x7, x8, rfl, hl5, hl0, hnx, hnly, hT, hm1, hm9, hlen, hb⟩
      refine ⟨_, rfl, lx, _, 6, .int y6, rfl, rfl, SqL.of hx5, e6, _, _, rfl, rfl, (by decide : (0 : Int) < 4), rfl, _, rfl, ?_⟩
      by_cases hc : V.int (y6 % 4) = V.int 2
      · refine ifT hc ⟨_, rfl, by show 0 ≤ sizeLine; decide, fun d hd => ?_⟩
        have w1 := same_new (o := .lst []) hd
        refine ⟨dTps bs, .list [], by simp only [dTps, IsD]; exact ⟨l, _, rfl, SqL.of (w1 _ _ hl5), tps_isD (hT.sm w1)⟩, by simp only [IsD]; exact ⟨d, _, rfl, SqL.of upd_same, by simp [IsDs]⟩, shaped_tps bs, rfl, _, rfl, ?_⟩
        show if (!PyData.eqv (dTps bs) (.list [])) = true then _ else _
        by_cases hbe : bs = []
        · rw [show PyData.eqv (dTps bs) (.list []) = true by rw [hbe]; rfl]
          exact iteF (go _ _ ⟨sB.trans w1, w1 _ _ hx5, w1 _ _ hy5, m, l, ws, bs, x6, x7, x8, rfl, w1 _ _ hl5, hl0, hnx, hnly, hT.sm w1, hm1, hm9, hlen, hb⟩)
        · have hlen0 : 0 < bs.length := List.length_pos_iff.mpr hbe
          rw [show PyData.eqv (dTps bs) (.list []) = false by
            cases bs with
            | nil => exact absurd rfl hbe
            | cons y r => simp [dTps, PyData.eqv, PyData.eqvAll]]
          have hwl : ws.length = bs.length := hT.len
          have hm2 := m0 y7 (ws.length : Int) (by omega)
          obtain ⟨jj, hjje, hjjl⟩ : ∃ jj : Nat, y7 % (ws.length : Int) = (jj : Int) ∧ jj < ws.length := ⟨(y7 % (ws.length : Int)).toNat, by omega, by omega⟩
          have hget : ws[jj]? = some ws[jj] := List.getElem?_eq_getElem hjjl
          obtain ⟨ab, bb, eab, hbs, hab⟩ := (hT.sm w1).get hget
          have hbb : Bls m bb := hb bb (List.mem_of_getElem? hbs)
          have hbl := hbb.len
          have hpm := m0 y8 (m : Int) (by omega)
          obtain ⟨pt, hpte, hptl⟩ : ∃ pt : Nat, y8 % (m : Int) = (pt : Int) ∧ pt < m := ⟨(y8 % (m : Int)).toNat, by omega, by omega⟩
          have hatI : atI ws (y7 % (ws.length : Int)) = some (.ref ab) := by rw [hjje]; exact atI_nat (hget.trans (congrArg some eab))
          refine iteT ⟨_, rfl, lx, _, 7, .int y7, rfl, rfl, SqL.of (w1 _ _ hx5), e7, _, rfl, l, _, rfl, .inl (SqL.of (w1 _ _ hl5)), _, _, rfl, rfl, by omega, ?_⟩
          refine ⟨_, rfl, lx, _, 8, .int y8, rfl, rfl, SqL.of (w1 _ _ hx5), e8, _, rfl, _, _, rfl, rfl, by show (0 : Int) < (m : Int); omega, ?_⟩
          refine ⟨_, rfl, _, rfl, l, ws, _, .ref ab, rfl, rfl, SqL.of (w1 _ _ hl5), hatI, ab, rfl, .inr ⟨⟨_, SqT.of hab⟩, comp_tup (K := K) (xs := nats bb) (fun i zs H9 => H9 = upd H8 d (.lst []) ∧ zs = nats ((bb.take i).filter fun x => decide (x ≠ pt))) ⟨rfl, rfl⟩ (fun i zs H9 _ ⟨e, _⟩ => SqT.of (e ▸ hab)) ?_ ?_⟩⟩
          · rintro i v zs H9 N9 hi ⟨rfl, rfl⟩ nx
            obtain ⟨p, hp, rfl⟩ := nats_get hi
            refine ⟨Weak.set (by intro v z; cases z), ⟨_, rfl, _, rfl, rfl, _, rfl, ?_⟩⟩
            have htk : (bb.take (i + 1)).filter (fun x => decide (x ≠ pt)) = (bb.take i).filter (fun x => decide (x ≠ pt)) ++ [p].filter (fun x => decide (x ≠ pt)) := by
              rw [List.take_add_one, hp, Option.toList_some, List.filter_append]
            refine ite2 (fun hne => ⟨_, rfl, ?_, nx _ _ ⟨rfl, ?_⟩⟩) (fun hne => nx _ _ ⟨rfl, ?_⟩)
            · rw [nats_len]
              refine Nat.lt_of_le_of_lt (Nat.le_trans (List.length_filter_le ..) (show _ ≤ 9 from ?_)) (by decide)
              rw [List.length_take]
              omega
            · have hpp : p ≠ pt := fun z => by
                rw [z, ← hpte] at hne
                simp at hne
              rw [htk, List.filter_cons_of_pos (by simpa using hpp), List.filter_nil, nats_snoc]
            · have hpp : p = pt := by
                have : (V.int ((p : Nat) : Int)) = V.int (y8 % (m : Int)) := by simpa using hne
                have e := V.int.inj this
                omega
              rw [htk, List.filter_cons_of_neg (by simpa using hpp), List.filter_nil, List.append_nil]
          rintro zs H9 ⟨rfl, rfl⟩
          have hfl : ((bb.take (nats bb).length).filter fun x => decide (x ≠ pt)) = bb.filter fun x => decide (x ≠ pt) := by rw [nats_len, List.take_length]
          rw [hfl]
          have hfle : (bb.filter fun x => decide (x ≠ pt)).length ≤ 9 := Nat.le_trans (List.length_filter_le ..) (by omega)
          refine ⟨by rw [nats_len]; exact Nat.le_trans hfle (by decide), fun r hr => ?_⟩
          have w2 := same_new (o := .lst (nats (bb.filter fun x => decide (x ≠ pt)))) hr
          refine ⟨_, rfl, by show 1 ≤ sizeLine; decide, fun d2 hd2 => ?_⟩
          have w3 := same_new (o := .lst [V.int (y8 % (m : Int))]) hd2
          have w13 := w1.trans (w2.trans w3)
          refine ⟨_, rfl, _, rfl, _, rfl, l, ws, _, .ref ab, rfl, rfl, SqL.of (w13 _ _ hl5), hatI, ab, nats bb, rfl, .inr (SqT.of ((w2.trans w3) _ _ hab)), rfl, by simp [nats, flatV], .inr ⟨_, rfl, ?_⟩⟩
          generalize (if (true : Bool) = true then !inV (V.int (y8 % (m : Int))) (nats bb) else inV (V.int (y8 % (m : Int))) (nats bb)) = kk
          obtain ⟨nn, hnn, hnn1⟩ : ∃ nn : Nat, (if kk = true then (1 : Int) else 0) = (nn : Int) ∧ nn ≤ 1 := by
            cases kk
            · exact ⟨0, rfl, by decide⟩
            · exact ⟨1, rfl, by decide⟩
          refine ⟨d2, [V.int (y8 % (m : Int))], (nn : Int), rfl, congrArg V.int hnn, SqL.of upd_same, by omega, by omega, by rw [List.length_singleton, Int.toNat_natCast]; omega, fun l2 hl2 => ?_⟩
          have erep : (List.replicate (nn : Int).toNat [V.int (y8 % (m : Int))]).flatten = nats (List.replicate nn pt) := by
            rw [Int.toNat_natCast, hpte]
            rcases (show nn = 0 ∨ nn = 1 by omega) with rfl | rfl <;> rfl
          rw [erep]
          have w4 := same_new (o := .lst (nats (List.replicate nn pt))) hl2
          have hbk := edit_blk hbb.blk hptl nn hnn1
          refine ⟨r, l2, _, _, rfl, rfl, (w3.trans w4) _ _ upd_same, upd_same, by rw [nats_len, nats_len, List.length_replicate]; exact Nat.le_trans (show _ ≤ 10 by omega) (by decide), fun c hc' => ?_⟩
          rw [show nats (bb.filter fun x => decide (x ≠ pt)) ++ nats (List.replicate nn pt) = nats (bb.filter (fun x => decide (x ≠ pt)) ++ List.replicate nn pt) by unfold nats; rw [List.map_append]]
          generalize hB : bb.filter (fun x => decide (x ≠ pt)) ++ List.replicate nn pt = B at hbk ⊢
          have hBl := hbk.len
          have w5 := same_new (o := .lst (nats B)) hc'
          refine ⟨_, rfl, c, B.map fun p => ((p : Nat) : Int), rfl, SqL.of (by rw [← nats_ints]; exact upd_same), by rw [List.length_map]; omega, fun l3 ns' hl3 hp' hs' => ?_⟩
          obtain ⟨b', eb, hp2, hs2⟩ := back_nats hp' hs'
          rw [eb]
          have w6 := same_new (o := .lst (nats b')) hl3
          refine ⟨l3, _, rfl, .inl ⟨SqL.of upd_same, fun t ht => ?_⟩⟩
          have w7 := same_new (o := .tup (nats b')) ht
          have wA := w13.trans (w4.trans (w5.trans (w6.trans w7)))
          have hlA := wA _ _ hl5
          refine ⟨_, rfl, _, rfl, l, ws, _, jj, rfl, rfl, hlA, by rw [hjje]; unfold ixN; rw [if_pos (by omega), if_pos (by omega), Int.toNat_natCast], go _ _ ?_⟩
          refine ⟨same_upd (sB.trans wA) hl0, by rw [upd_ne hnx.symm]; exact wA _ _ hx5, by rw [upd_ne hnly.symm]; exact wA _ _ hy5, m, l, ws.set jj (.ref t), bs.set jj b', _, _, _, rfl, upd_same, hl0, hnx, hnly, tp_edit (hT.sm wA) hlA upd_same jj, hm1, hm9, by rw [List.length_set]; exact hlen, fun b hb' => ?_⟩
          · rcases List.mem_or_eq_of_mem_set hb' with z | z
            · exact hb b z
            · rw [z]
              exact blk_sorted (hbk.perm hp2) hs2
      · exact ifF hc (go _ _ st)
    clear hx5 hy5 hl5 hT hb sB hlen hm1 hm9 hl0 hnx hnly
    rintro σ H9 ⟨sB, hx5, hy5, m, l, ws, bs, x6, x7, x8, rfl, hl5, hl0, hnx, hnly, hT, hm1, hm9, hlen, hb⟩
    refine ⟨_, rfl, _, rfl, lx, _, rfl, SqL.of hx5, fun u hu => ?_⟩
    rw [show cutV (ns.map V.int) (some 9) none = (ns.drop 9).map V.int by rw [show (9 : Int) = ((9 : Nat) : Int) from rfl, cut_from (by rw [List.length_map]; omega), List.map_drop]]
    have w1 := same_new (o := .lst ((ns.drop 9).map V.int)) hu
    refine ⟨_, rfl, u, ns.drop 9, m, rfl, SqL.of upd_same, by rw [List.length_drop]; omega, by omega, fun lr r HA hlr sR hlrA hperm => ?_⟩
    have sC := w1.trans sR
    have hxA := sC _ _ hx5
    have hlA := sC _ _ hl5
    have hTA := hT.sm sC
    have hrl : r.length = m := by rw [hperm.length_eq, List.length_range]
    refine ⟨_, rfl, lx, _, 6, .int y6, rfl, rfl, SqL.of hxA, e6, _, _, rfl, rfl, ⟨by decide, by decide⟩, _, _, rfl, rfl, (by decide : (0 : Int) < 2), rfl, _, rfl, ?_⟩
    refine iteV (fun σ' H' => Same H H' ∧ ∃ (l : Addr) (ws : List V) (bs : List (List Nat)) (x6 x7 x8 x9 : Option V), σ' = [some (.ref a), some (.int (k : Int)), some (.ref lx), some (.ref ly), some (.int (m : Nat)), some (.ref l), x6, x7, x8, x9] ∧ H' l = some (.lst ws) ∧ TpAt H' ws bs ∧ bs.length ≤ 60 ∧ ∀ b ∈ bs, Bls m b) ?_ (fun _ go => ?_) (fun _ go => go _ _ ⟨sB.trans sC, l, ws, bs, x6, x7, x8, _, rfl, hlA, hTA, hlen, hb⟩)
    · rintro σ' HB ⟨sD, l', ws', bs', z6, z7, z8, z9, rfl, hlB, hTB, hlenB, hbB⟩
      refine ⟨_, rfl, _, rfl, l', _, rfl, .inl ⟨SqL.of hlB, fun tl htl => ⟨by show 2 ≤ sizeLine; decide, fun t ht => ?_⟩⟩⟩
      have v1 := same_new (o := .tup ws') htl
      have v2 := same_new (o := .tup [.int (m : Nat), .ref tl]) ht
      exact q t tl m ws' bs' _ ((sD.trans v1).free ht) (sD.trans (v1.trans v2)) upd_same (v2 _ _ upd_same) ((hTB.sm v1).sm v2) hm1 hm9 hlenB hbB
    · refine ⟨_, rfl, l, rfl, ⟨_, SqL.of hlA⟩, comp_list (K := K) (xs := ws) (fun i zs H5 => Same HA H5 ∧ ∃ cs : List (List Nat), TpAt H5 zs cs ∧ cs.length = i ∧ ∀ b ∈ cs, Bls m b) ⟨Same.refl _, [], trivial, rfl, by simp⟩ (fun i zs H5 _ ⟨s5, _⟩ => SqL.of (s5 _ _ hlA)) ?_ ?_⟩
      · rintro i v zs H5 N5 hi ⟨s5, cs, hT5, hl5', hb5⟩ nx
        have hil : i < ws.length := (List.getElem?_eq_some_iff.mp hi).1
        obtain ⟨ab, bb, rfl, hbs, hab⟩ := (hTA.sm s5).get hi
        have hbb : Bls m bb := hb bb (List.mem_of_getElem? hbs)
        have hbl := hbb.len
        have hzl : zs.length < sizeLine := by
          rw [hT5.len, hl5']
          exact Nat.lt_of_lt_of_le hil (by rw [hTA.len]; exact Nat.le_trans hlen (by decide))
        refine ⟨Weak.set (by intro v z; cases z), ?_⟩
        refine ⟨_, rfl, ab, rfl, .inr ⟨⟨_, SqT.of hab⟩, comp_tup (K := K) (xs := nats bb) (fun j us H6 => H6 = H5 ∧ us = nats ((bb.take j).map fun p => r.getD p 0)) ⟨rfl, rfl⟩ (fun j us H6 _ ⟨e, _⟩ => SqT.of (e ▸ hab)) ?_ ?_⟩⟩
        · rintro j' x us H6 N6 hj' ⟨rfl, rfl⟩ nx6
          obtain ⟨p, hp, rfl⟩ := nats_get hj'
          have hpm : p < m := hbb.lt p (List.mem_of_getElem? hp)
          have hrp : (nats r)[p]? = some (.int ((r.getD p 0 : Nat) : Int)) := by
            unfold nats
            rw [List.getElem?_map, List.getElem?_eq_getElem (by omega), List.getD_eq_getElem?_getD, List.getElem?_eq_getElem (by omega)]
            rfl
          refine ⟨Weak.set (by intro v z; cases z), ⟨_, rfl, _, rfl, lr, nats r, _, .int ((r.getD p 0 : Nat) : Int), rfl, rfl, SqL.of (s5 _ _ hlrA), atI_nat hrp, ?_, nx6 _ _ ⟨rfl, ?_⟩⟩⟩
          · rw [nats_len, List.length_map, List.length_take]
            exact Nat.lt_of_le_of_lt (show _ ≤ 9 by omega) (by decide)
          · rw [List.take_add_one, hp, Option.toList_some, List.map_append, List.map_cons, List.map_nil, nats_snoc]
        · rintro us H6 ⟨rfl, rfl⟩
          rw [show bb.take (nats bb).length = bb by rw [nats_len, List.take_length]]
          have hbk := perm_blk hbb.blk hperm
          have hbkl := hbk.len
          refine ⟨by rw [nats_len]; exact Nat.le_trans hbkl (Nat.le_trans hm9 (by decide)), fun r2 hr2 => ?_⟩
          have v1 := same_new (o := .lst (nats (bb.map fun p => r.getD p 0))) hr2
          refine ⟨r2, (bb.map fun p => r.getD p 0).map fun p => ((p : Nat) : Int), rfl, SqL.of (by rw [← nats_ints]; exact upd_same), by rw [List.length_map]; omega, fun l3 ns' hl3 hp' hs' => ?_⟩
          obtain ⟨b', eb, hp2, hs2⟩ := back_nats hp' hs'
          rw [eb]
          have v2 := same_new (o := .lst (nats b')) hl3
          refine ⟨l3, _, rfl, .inl ⟨SqL.of upd_same, fun t ht => ⟨hzl, nx _ _ ⟨s5.trans (v1.trans (v2.trans (same_new ht))), cs ++ [b'], (((hT5.sm v1).sm v2).sm (same_new ht)).snoc upd_same, by rw [List.length_append, hl5']; rfl, alls_snoc hb5 (blk_sorted (hbk.perm hp2) hs2)⟩⟩⟩⟩
      · rintro zs H5 ⟨s5, cs, hT5, hl5', hb5⟩
        have hcl : cs.length ≤ 60 := by
          rw [hl5', hTA.len]
          exact hlen
        refine ⟨by rw [hT5.len]; exact Nat.le_trans hcl (by decide), fun r2 hr2 => go _ _ ?_⟩
        have v1 := same_new (o := .lst zs) hr2
        exact ⟨sB.trans (sC.trans (s5.trans v1)), r2, zs, cs, x6, x7, x8, _, rfl, upd_same, hT5.sm v1, hcl, hb5⟩
theorem inV_nats (p : Nat) : ∀ b : List Nat, inV (V.int ((p : Nat) : Int)) (nats b) = decide (p ∈ b)
  | [] => rfl
  | x :: b => by
    have ih := inV_nats p b
    unfold inV at ih ⊢
    unfold nats at ih ⊢
    rw [List.map_cons, List.any_cons, ih]
    by_cases h : x = p
    · subst h
      simp [eqV]
    · have : (eqV (V.int ((x : Nat) : Int)) (V.int ((p : Nat) : Int))) = false := by simp [eqV]; omega
      rw [this, Bool.false_or]
      simp [List.mem_cons, Ne.symm h]
theorem flat_nats (b : List Nat) : (nats b).all flatV = true := by simp [nats, flatV]
def LayA (H : Hp) (t : Addr) (m : Nat) (bs : List (List Nat)) : Prop := ∃ (l : Addr) (ws : List V), H t = some (.tup [.int (m : Nat), .ref l]) ∧ H l = some (.tup ws) ∧ TpAt H ws bs ∧ bs.length ≤ 200
theorem LayA.sm {H H' : Hp} (s : Same H H') {t : Addr} {m : Nat} {bs : List (List Nat)} (h : LayA H t m bs) : LayA H' t m bs := by
  obtain ⟨l, ws, h1, h2, h3, h4⟩ := h
  exact ⟨l, ws, s _ _ h1, s _ _ h2, h3.sm s, h4⟩
theorem take_snoc {α : Type} {bs : List α} {i : Nat} {b : α} (h : bs[i]? = some b) : bs.take (i + 1) = bs.take i ++ [b] := by
  rw [List.take_add_one, h, Option.toList_some]
def mks (m : Nat) (b : List Nat) : List V := (List.range m).map fun p => V.bl (decide (p ∈ b))
theorem mks_len (m : Nat) (b : List Nat) : (mks m b).length = m := by unfold mks; rw [List.length_map, List.length_range]
theorem mks_get {m p : Nat} (b : List Nat) (h : p < m) : (mks m b)[p]? = some (.bl (decide (p ∈ b))) := by
  unfold mks
  rw [List.getElem?_map, List.getElem?_range h]
  rfl
theorem mks_set {m x : Nat} (c : List Nat) : (mks m c).set x (V.bl true) = mks m (c ++ [x]) := by
  unfold mks
  apply List.ext_getElem
  · simp
  intro i h1 h2
  rw [List.getElem_set]
  simp only [List.getElem_map, List.getElem_range]
  by_cases h : x = i
  · subst h
    simp
  · simp [h, Ne.symm h]
theorem mks_nil : ∀ m : Nat, (List.replicate m [V.bl false]).flatten = mks m []
  | 0 => rfl
  | m + 1 => by
    rw [List.replicate_succ', List.flatten_append, mks_nil m]
    unfold mks
    rw [List.range_succ, List.map_append]
    rfl
def spMarks : Sp := fun vs H Q _ => ∃ (a : Addr) (m : Nat) (b : List Nat), vs = [.int (m : Nat), .ref a] ∧ (H a = some (.lst (nats b)) ∨ H a = some (.tup (nats b))) ∧ m ≤ 60 ∧ (∀ x ∈ b, x < m) ∧ ∀ (l : Addr) (H' : Hp), H l = none → Same H H' → H' l = some (.lst (mks m b)) → Q (.ref l) H'
theorem scMarksOf : FnScope ["points", "block", "marks", "point"] ["points", "block"] (defScope sMarksOf) := ⟨rfl, rfl, rfl, by decide +kernel, rfl, by decide +kernel, by decide +kernel⟩
theorem ok_marks {f : Addr} {fd : FuncData} (F : Fun K "marks_of" "marks_of" sMarksOf f fd) (T : TxtB mg) : FnOk P w K mg base CX0 1 f fd ["points", "block"] spMarks := by
  refine F.okQ scMarksOf (fun vs H Q E h => ?_) (fun cdv A outer s H vs Q E hr h => ?_)
  · obtain ⟨a, m, b, rfl, _⟩ := h
    rfl
  · obtain ⟨a, m, b, rfl, ha, hm, hb, q⟩ := h
    refine ⟨_, (qss_cons (qs_set (i := 2) scMarksOf.nd rfl (Or.inl rfl) (qe_op op_mulL (qe_lst (qac qe_bl qa_nil)) (qv 0)))
      (qss_cons (qs_for PassesOwn.never rfl (qi_seq (qv 1)) (qg_name (i := 3) scMarksOf.nd rfl (Or.inl rfl))
        (qss_one (qs_asg qe_bl (qg_sub (qv 2) (qv 3) set_list))))
      (qss_one (qs_ret (qv 2))))), ?_⟩
    refine ⟨by show 1 ≤ sizeLine; decide, fun d hd => ⟨_, rfl, d, [V.bl false], (m : Int), rfl, rfl, SqL.of upd_same, by omega, by omega, by show 1 * (m : Int).toNat ≤ 65536; omega, fun l hl => ?_⟩⟩
    have w1 := same_new (o := .lst [V.bl false]) hd
    have w2 := same_new (o := .lst (List.replicate (m : Int).toNat [V.bl false]).flatten) hl
    have hl0 : H l = none := w1.free hl
    have key : ∀ i x σ (H3 : Hp), (nats b)[i]? = some x → (Same H H3 ∧ ∃ x3, σ = [some (V.int (m : Nat)), some (V.ref a), some (V.ref l), x3] ∧ H3 l = some (.lst (mks m (b.take i)))) → ∃ p : Nat, x = .int (p : Nat) ∧ ixN (mks m (b.take i)).length (p : Nat) = some p ∧ H3 l = some (.lst (mks m (b.take i))) ∧ Same H (upd H3 l (.lst ((mks m (b.take i)).set p (V.bl true)))) ∧ upd H3 l (.lst ((mks m (b.take i)).set p (V.bl true))) l = some (.lst (mks m (b.take (i + 1)))) := by
      rintro i x σ H3 hi ⟨s3, x3, _, hl3⟩
      obtain ⟨p, hp, rfl⟩ := L2.nats_get hi
      have hpm := hb p (List.mem_of_getElem? hp)
      refine ⟨p, rfl, ?_, hl3, same_upd s3 hl0, ?_⟩
      · unfold ixN
        rw [if_pos (by omega), if_pos (by rw [mks_len]; omega), Int.toNat_natCast]
      · rw [upd_same, mks_set, take_snoc hp]
    have st : Same H (upd (upd H d (.lst [V.bl false])) l (.lst (List.replicate (m : Int).toNat [V.bl false]).flatten)) ∧ ∃ x3, [some (V.int (m : Nat)), some (V.ref a), some (V.ref l), none] = [some (V.int (m : Nat)), some (V.ref a), some (V.ref l), x3] ∧ upd (upd H d (.lst [V.bl false])) l (.lst (List.replicate (m : Int).toNat [V.bl false]).flatten) l = some (.lst (mks m (b.take 0))) := by
      refine ⟨w1.trans w2, none, rfl, ?_⟩
      rw [upd_same, Int.toNat_natCast, mks_nil]
      rfl
    rcases ha with ha | ha
    · refine ⟨_, rfl, a, rfl, .inl ⟨⟨_, SqL.of ((w1.trans w2) _ _ ha)⟩, for_list (K := K) (xs := nats b) (fun i σ H3 => Same H H3 ∧ ∃ x3, σ = [some (V.int (m : Nat)), some (V.ref a), some (V.ref l), x3] ∧ H3 l = some (.lst (mks m (b.take i)))) st (fun i σ H3 _ ⟨s3, _⟩ => SqL.of (s3 _ _ ha)) ?_ ?_⟩⟩
      · rintro i x σ H3 hi hP
        obtain ⟨p, rfl, h1, h2, h3, h4⟩ := key i x σ H3 hi hP
        obtain ⟨s3, x3, rfl, hl3⟩ := hP
        exact ⟨_, rfl, _, rfl, l, _, _, p, rfl, rfl, h2, h1, h3, _, rfl, h4⟩
      · rintro σ H3 ⟨s3, x3, rfl, hl3⟩
        rw [nats_len, List.take_length] at hl3
        exact ⟨_, rfl, q l _ hl0 s3 hl3⟩
    · refine ⟨_, rfl, a, rfl, .inr ⟨⟨_, SqT.of ((w1.trans w2) _ _ ha)⟩, for_tup (K := K) (xs := nats b) (fun i σ H3 => Same H H3 ∧ ∃ x3, σ = [some (V.int (m : Nat)), some (V.ref a), some (V.ref l), x3] ∧ H3 l = some (.lst (mks m (b.take i)))) st (fun i σ H3 _ ⟨s3, _⟩ => SqT.of (s3 _ _ ha)) ?_ ?_⟩⟩
      · rintro i x σ H3 hi hP
        obtain ⟨p, rfl, h1, h2, h3, h4⟩ := key i x σ H3 hi hP
        obtain ⟨s3, x3, rfl, hl3⟩ := hP
        exact ⟨_, rfl, _, rfl, l, _, _, p, rfl, rfl, h2, h1, h3, _, rfl, h4⟩
      · rintro σ H3 ⟨s3, x3, rfl, hl3⟩
        rw [nats_len, List.take_length] at hl3
        exact ⟨_, rfl, q l _ hl0 s3 hl3⟩
theorem isD_blkS {K : PySem.W.Frag} {H : Hp} {a : Addr} {L : List Nat} (h : H a = some (.lst (nats L))) : IsD K H (dBlk L) (.ref a) := by
  simp only [dBlk, IsD]
  exact ⟨a, _, rfl, SqL.of h, ints_isD' L⟩
theorem eqv_intsS : ∀ L M : List Nat, PyData.eqvAll (L.map fun p => PyData.int ((p : Nat) : Int)) (M.map fun p => PyData.int ((p : Nat) : Int)) = decide (L = M)
  | [], [] => by simp [PyData.eqvAll]
  | [], _ :: _ => by simp [PyData.eqvAll]
  | _ :: _, [] => by simp [PyData.eqvAll]
  | x :: L, y :: M => by
    have ih := eqv_intsS L M
    simp only [List.map_cons, PyData.eqvAll, PyData.eqv, ih]
    by_cases h : x = y
    · subst h
      simp
    · have : ¬ ((x : Int) = (y : Int)) := by omega
      simp [h, this]
theorem eqv_blkS (L M : List Nat) : PyData.eqv (dBlk L) (dBlk M) = decide (L = M) := by
  simp only [dBlk, PyData.eqv]
  exact eqv_intsS L M
theorem take_natsS (b : List Nat) : b.take (nats b).length = b := by rw [nats_len, List.take_length]
/-- of a block what lies among the points -/
def ins (pts b : List Nat) : List Nat := b.filter fun x => decide (x ∈ pts)
theorem ins_snoc {pts b : List Nat} {i x : Nat} (h : b[i]? = some x) : ins pts (b.take (i + 1)) = if x ∈ pts then ins pts (b.take i) ++ [x] else ins pts (b.take i) := by
  unfold ins
  rw [take_snoc h, List.filter_append]
  by_cases hx : x ∈ pts
  · simp [hx]
  · simp [hx]
theorem ins_le (pts b : List Nat) : (ins pts b).length ≤ b.length := List.length_filter_le ..
/-- the first block of a sort, told by a word and numbers -/
def FirstW (bad : List Nat → Prop) (good x : Str) (L : List Nat → List Nat) (bs : List (List Nat)) (w : Str) (M : List Nat) : Prop :=
  (w = good ∧ M = [] ∧ ∀ b ∈ bs, ¬ bad b) ∨ ∃ k b, w = x ∧ M = k :: L b ∧ bs[k]? = some b ∧ bad b ∧ ∀ (j : Nat) b', j < k → bs[j]? = some b' → ¬ bad b'
theorem first_none {bad : List Nat → Prop} {good x : Str} {L : List Nat → List Nat} {bs : List (List Nat)} (h : ∀ (j : Nat) b', j < bs.length → bs[j]? = some b' → ¬ bad b') : FirstW bad good x L bs good [] := by
  refine .inl ⟨rfl, rfl, fun b hb => ?_⟩
  obtain ⟨j, hj⟩ := List.getElem?_of_mem hb
  exact h j b (List.getElem?_eq_some_iff.mp hj).1 hj
theorem first_step {bad : List Nat → Prop} {bs : List (List Nat)} {i : Nat} {b : List Nat} (h : ∀ (j : Nat) b', j < i → bs[j]? = some b' → ¬ bad b') (hi : bs[i]? = some b) (hb : ¬ bad b) : ∀ (j : Nat) b', j < i + 1 → bs[j]? = some b' → ¬ bad b' := by
  intro j b' hj hj'
  by_cases e : j = i
  · subst e
    rw [hi] at hj'
    cases hj'
    exact hb
  · exact h j b' (by omega) hj'
def arcB (pts b : List Nat) : Prop := 2 < (ins pts b).length
def arcW (pts : List Nat) : List (List Nat) → Str → List Nat → Prop := FirstW (arcB pts) "arc" "three" fun b => (ins pts b).take 3
/-- what is told of a layout and a list of points -/
def spToldS (W : List Nat → List (List Nat) → Str → List Nat → Prop) : Sp := fun vs H Q _ => ∃ (t a : Addr) (m : Nat) (bs : List (List Nat)) (pts : List Nat), vs = [.ref t, .ref a] ∧ LayA H t m bs ∧ m ≤ 60 ∧ (∀ b ∈ bs, Blk m b) ∧ H a = some (.lst (nats pts)) ∧ (∀ x ∈ pts, x < m) ∧
  ∀ (u : Addr) (x : Str) (L : List Nat) (H' : Hp), Same H H' → H' u = some (.tup (.str x :: nats L)) → W pts bs x L → Q (.ref u) H'
def spMarkedOf : Sp := fun vs H Q _ => ∃ (d l : Addr) (m : Nat) (b pts : List Nat), vs = [.ref d, .ref l] ∧ H d = some (.tup (nats b)) ∧ H l = some (.lst (mks m pts)) ∧ m ≤ 60 ∧ Blk m b ∧ ∀ (r : Addr) (H' : Hp), H r = none → Same H H' → H' r = some (.lst (nats (ins pts b))) → Q (.ref r) H'
theorem scMarkedOf : FnScope ["points", "marks"] ["points", "marks"] (defScope sMarkedOf) := ⟨rfl, rfl, rfl, by decide +kernel, rfl, by decide +kernel, by decide +kernel⟩
theorem ok_markedOf {f : Addr} {fd : FuncData} (F : Fun K "marked_of" "marked_of" sMarkedOf f fd) (T : TxtB mg) : FnOk P w K mg base CX0 1 f fd ["points", "marks"] spMarkedOf := by
  refine F.okQ scMarkedOf (fun vs H Q E h => ?_) (fun cdv A outer s H vs Q E hr h => ?_)
  · obtain ⟨d, l, m, b, pts, rfl, _⟩ := h
    rfl
  · obtain ⟨d, l, m, b, pts, rfl, hd, hl, hm, hb, q⟩ := h
    refine ⟨_, (qss_one (qs_ret (qe_comp (g := gName 0) (N := ["point", "marks"]) (src := [none, some 1]) rfl (comp_scope (defScope sMarkedOf) ["points", "marks"] rfl rfl (by decide +kernel) rfl) (qi_tup (qv 0)) (fun _ _ _ _ _ => (qg_name (i := 0) (show (["point", "marks"] : List Str).Nodup by decide +kernel) rfl (Or.inl rfl) (Or.inr rfl))) (fun _ _ _ _ _ => (qif_one (qt_val (qe_ix (show IxR _ (rIxL K) from ix_list) (qv 1) (qv 0) (fun _ _ => rfl))))) (fun _ _ _ _ _ => (qv 0))))), ?_⟩
    refine ⟨_, rfl, d, rfl, ⟨_, SqT.of hd⟩, comp_tup (K := K) (xs := nats b) (fun i zs H2 => H2 = H ∧ zs = nats (ins pts (b.take i))) ⟨rfl, rfl⟩ (fun i zs H2 _ ⟨e, _⟩ => SqT.of (e ▸ hd)) ?_ ?_⟩
    · rintro i v zs H2 N hi ⟨rfl, rfl⟩ nx
      obtain ⟨x, hx, rfl⟩ := L2.nats_get hi
      have hxm := hb.lt x (List.mem_of_getElem? hx)
      have e := ins_snoc (pts := pts) hx
      refine ⟨Weak.set (by intro v z; cases z), ?_⟩
      refine ⟨_, rfl, _, rfl, l, _, _, _, rfl, rfl, SqL.of hl, atI_nat (mks_get pts hxm), _, rfl, ?_⟩
      have hlt : (ins pts (b.take i)).length < sizeLine := by
        refine Nat.lt_of_le_of_lt (ins_le ..) (Nat.lt_of_le_of_lt (List.length_take_le' ..) (Nat.lt_of_le_of_lt hb.len (Nat.lt_of_le_of_lt hm (by decide))))
      refine ite2 (fun h1 => ?_) (fun h1 => ?_)
      · have h1 := of_decide_eq_true h1
        rw [if_pos h1] at e
        refine ⟨_, rfl, by rw [nats_len]; exact hlt, nx _ _ ⟨rfl, by rw [e, nats_snoc]⟩⟩
      · have h1 : ¬ x ∈ pts := fun z => h1 (decide_eq_true z)
        rw [if_neg h1] at e
        exact nx _ _ ⟨rfl, by rw [e]⟩
    · rintro zs H2 ⟨rfl, rfl⟩
      rw [take_natsS]
      refine ⟨by rw [nats_len]; exact Nat.le_trans (ins_le ..) (Nat.le_trans hb.len (Nat.le_trans hm (by decide))), fun r hr => ?_⟩
      exact q r _ hr (same_new hr) upd_same
theorem three_of {L : List Nat} (h : 2 < L.length) : ∃ a b c, L[0]? = some a ∧ L[1]? = some b ∧ L[2]? = some c ∧ L.take 3 = [a, b, c] := by
  match L, h with
  | a :: b :: c :: r, _ => exact ⟨a, b, c, rfl, rfl, rfl, rfl⟩
theorem nats_at {L : List Nat} {i x : Nat} (h : L[i]? = some x) : (nats L)[i]? = some (V.int ((x : Nat) : Int)) := by
  unfold nats
  rw [List.getElem?_map, h]
  rfl
theorem scArcTold : FnScope ["M", "points", "marks", "number", "block", "inside"] ["M", "points"] (defScope sArcTold) := ⟨rfl, rfl, rfl, by decide +kernel, rfl, by decide +kernel, by decide +kernel⟩
theorem ok_arcTold {f : Addr} {fd : FuncData} (F : Fun K "arc_told" "arc_told" sArcTold f fd) (T : TxtB mg) (pMarksOf : Pm P w K mg base CX0 1 "marks_of" ["points", "block"] spMarks) (pMarkedOf : Pm P w K mg base CX0 1 "marked_of" ["points", "marks"] spMarkedOf) : FnOk P w K mg base CX0 2 f fd ["M", "points"] (spToldS arcW) := by
  refine F.okQ scArcTold (fun vs H Q E h => ?_) (fun cdv A outer s H vs Q E hr h => ?_)
  · obtain ⟨t, a, m, bs, pts, rfl, _⟩ := h
    rfl
  · obtain ⟨t, a, m, bs, pts, rfl, ⟨lb, ws, ht, hlb, hT, hlen⟩, hm, hb, ha, hp, q⟩ := h
    refine ⟨_, (qss_cons (qs_set (i := 2) scArcTold.nd rfl (Or.inl rfl) (qe_callP pMarksOf hr rfl pass0 (qac (qe_ix ix_tup (qv 0) qe_int (fun _ _ => rfl)) (qac (qv 1) qa_nil))))
      (qss_cons (qs_for PassesOwn.never rfl (qi_enumT rfl T.enu (qac (qe_ix ix_tup (qv 0) qe_int (fun _ _ => rfl)) qa_nil)) (qg_tup rfl (qgs_cons (qg_name (i := 3) scArcTold.nd rfl (Or.inl rfl)) (qgs_cons (qg_name (i := 4) scArcTold.nd rfl (Or.inl rfl)) qgs_nil)))
        (qss_cons (qs_set (i := 5) scArcTold.nd rfl (Or.inl rfl) (qe_callP pMarkedOf hr rfl pass0 (qac (qv 4) (qac (qv 2) qa_nil))))
        (qss_one (qs_if (qt_cmpR op_gt (qe_callB call_len_seq (by rfl) T.len PySem.boot_len (qac (qv 5) qa_nil)) qe_int (nomark _)) (qss_one (qs_ret (qe_tup (qac qe_str (qac (qv 3) (qac (qe_ix ix_list (qv 5) qe_int (fun _ _ => rfl)) (qac (qe_ix ix_list (qv 5) qe_int (fun _ _ => rfl)) (qac (qe_ix ix_list (qv 5) qe_int (fun _ _ => rfl)) qa_nil)))))))) qss_nil))))
      (qss_one (qs_ret (qe_tup (qac qe_str qa_nil)))))), ?_⟩
    refine ⟨_, rfl, t, _, 0, .int (m : Nat), rfl, rfl, SqT.of ht, rfl, _, rfl, a, m, pts, rfl, .inl ha, hm, hp, fun l H1 hl0 s1 hl => ?_⟩
    have ht1 := s1 _ _ ht
    have hlb1 := s1 _ _ hlb
    refine ⟨_, rfl, t, _, 1, .ref lb, rfl, rfl, SqT.of ht1, rfl, lb, rfl, ⟨_, SqT.of hlb1⟩, for_enumT (K := K) (a := lb) (xs := ws) (fun i σ H2 => Same H1 H2 ∧ (∃ x3 x4 x5, σ = [some (.ref t), some (.ref a), some (.ref l), x3, x4, x5]) ∧ ∀ (j : Nat) b', j < i → bs[j]? = some b' → ¬ arcB pts b') ⟨Same.refl _, ⟨none, none, none, rfl⟩, fun j b' z => by omega⟩ (fun i σ H2 _ ⟨e, _⟩ => SqT.of (e _ _ hlb1)) ?_ ?_⟩
    · rintro i v T1 σ H2 hi ⟨s2, ⟨x3, x4, x5, rfl⟩, hno⟩ hT1
      obtain ⟨d, b, rfl, hbs, hd⟩ := (hT.sm (s1.trans s2)).get hi
      have hbb := hb b (List.mem_of_getElem? hbs)
      have w1 := same_new (o := .tup [V.int ((i : Nat) : Int), V.ref d]) hT1
      have s3 := s2.trans w1
      have hd3 := w1 _ _ hd
      refine ⟨T1, _, rfl, SqT.of upd_same, rfl, _, _, rfl, _, _, rfl, rfl, ?_⟩
      generalize upd H2 T1 (.tup [V.int ((i : Nat) : Int), V.ref d]) = H3 at s3 hd3 ⊢
      refine ⟨_, rfl, _, rfl, d, l, m, b, pts, rfl, hd3, s3 _ _ hl, hm, hbb, fun r H4 hr0 s4 hr4 => ?_⟩
      refine ⟨_, rfl, r, _, rfl, .inl (SqL.of hr4), _, _, rfl, rfl, _, rfl, ?_⟩
      rw [nats_len]
      refine ite2 (fun h1 => ?_) (fun h1 => ?_)
      · have h1 : arcB pts b := by
          have := of_decide_eq_true h1
          unfold arcB
          omega
        obtain ⟨x, y, z, e1, e2, e3, e4⟩ := three_of h1
        refine ⟨_, rfl, _, rfl, r, _, 0, _, rfl, rfl, SqL.of hr4, atI_nat (nats_at e1), _, rfl, r, _, 1, _, rfl, rfl, SqL.of hr4, atI_nat (nats_at e2), _, rfl, r, _, 2, _, rfl, rfl, SqL.of hr4, atI_nat (nats_at e3), by show 5 ≤ sizeLine; decide, fun u hu => ?_⟩
        refine q u "three" [i, x, y, z] _ (s1.trans (s3.trans (s4.trans (same_new hu)))) upd_same (.inr ⟨i, b, rfl, ?_, hbs, h1, hno⟩)
        show _ = i :: (ins pts b).take 3
        rw [e4]
      · have h1 : ¬ arcB pts b := fun z => h1 (decide_eq_true (by unfold arcB at z; omega))
        exact ⟨s3.trans s4, ⟨_, _, _, rfl⟩, first_step hno hbs h1⟩
    · rintro σ H2 ⟨s2, ⟨x3, x4, x5, rfl⟩, hno⟩
      refine ⟨by show 1 ≤ sizeLine; decide, fun u hu => q u "arc" [] _ (s1.trans (s2.trans (same_new hu))) upd_same (first_none ?_)⟩
      rw [hT.len] at hno
      exact hno
def rInstQ (K : PySem.W.Frag) : List V → Hp → VK → Prop := fun xs H Q => ∃ x c t b, xs = [x, c] ∧ TyOf K H x t ∧ (∀ u, RelV c u → PySem.W.kitOne K t u = some b) ∧ Q (.bl b) H
theorem hi_ok (L : Nat) : ∃ hi : Nat, (if (if (8 : Int) < (L : Int) then 8 else (L : Int)) > 4 then (if (8 : Int) < (L : Int) then 8 else (L : Int)) else 4) = (hi : Int) ∧ 4 ≤ hi ∧ hi ≤ 8 := by
  by_cases h : (8 : Int) < (L : Int)
  · rw [if_pos h, if_pos (by decide)]
    exact ⟨8, rfl, by decide, by decide⟩
  · rw [if_neg h]
    by_cases h1 : (L : Int) > 4
    · rw [if_pos h1]
      exact ⟨L, rfl, by omega, by omega⟩
    · rw [if_neg h1]
      exact ⟨4, rfl, by decide, by decide⟩

theorem none_of {H H' : Hp} (s : Same H H') {r : Addr} (h : H' r = none) : H r = none := by
  cases e : H r with
  | none => rfl
  | some o => rw [s _ _ e] at h; cases h
theorem str_app_len (a b : Str) : (a ++ b).length = a.length + b.length := by
  show (a.cps ++ b.cps).size = _
  rw [Array.size_append]
  rfl
theorem scXInit : FnScope ["self", "block"] ["self", "block"] (defScope sXInit) := ⟨rfl, rfl, rfl, by decide +kernel, rfl, by decide +kernel, by decide +kernel⟩
theorem ok_xinit {f : Addr} {fd : FuncData} (F : FunD K "__init__" "NoArc.__init__" sXInit f fd) (B : BaseX K M) (mM : mg "MeetError" = some (.ref M)) : FnOk P w K mg base CX0 1 f fd ["self", "block"] (spXI K "block") := by
  refine F.okQ scXInit (fun vs H Q E h => ?_) (fun cdv A outer s H vs Q E hr h => ?_)
  · obtain ⟨e, C, fI, v, rfl, _⟩ := h
    rfl
  · obtain ⟨e, C, fI, v, rfl, hH, O, hv, q⟩ := h
    refine ⟨_, (qss_cons (qs_expr (qe_xinit B rfl mM (qac (qv 0) (qac (qe_fstr (qf_cons qe_str (qf_cons (qe_frep (qv 1)) qf_nil))) qa_nil)))) (qss_one (qs_xset (qv 0) (qv 1)))), ?_⟩
    have fin : ∀ y : Str, y.length ≤ 5 → ∀ z : Str, z = Str.empty ++ "no arc; block: " ++ y → z.length ≤ sizeLine := fun y hy z hz => by
      have e0 : (Str.empty ++ ("no arc; block: " : Str)).length = 15 := by decide +kernel
      have : z.length = 15 + y.length := by rw [hz, str_app_len, e0]
      exact Nat.le_trans (show z.length ≤ 100 by omega) (by decide)
    refine ⟨_, rfl, _, rfl, by decide +kernel, _, rfl, ?_⟩
    rcases hv with ⟨i, rfl, hi⟩ | rfl
    · have hd := dig_len ⟨i, by omega⟩
      refine .inl ⟨_, rfl, Nat.lt_of_le_of_lt (Nat.log2_le_self _) (by show i < 1920; omega), Nat.le_trans hd (by decide), _, rfl, fin _ hd _ rfl, fin _ hd _ rfl, e, C, fI, "block", none, _, rfl, hH, O, _, rfl, _, rfl, e, C, fI, rfl, hH, O, fun dx hdx => q dx hdx⟩
    · refine .inr ⟨rfl, _, rfl, fin _ (by decide +kernel) _ rfl, fin _ (by decide +kernel) _ rfl, e, C, fI, "block", none, _, rfl, hH, O, _, rfl, _, rfl, e, C, fI, rfl, hH, O, fun dx hdx => q dx hdx⟩
theorem bindsXI {f : Addr} {fd : FuncData} (F : FunD K "__init__" "NoArc.__init__" sXInit f fd) : Binds K fd ["self", "block"] [] := F.binds fun _ _ _ _ _ _ _ us hl => match us, hl with | [_, _], _ => ⟨_, rfl, rfl⟩
/-- the points that are marked, in order -/
def kept (m : Nat) (pts : List Nat) : List Nat := (List.range m).filter fun p => decide (p ∈ pts)
theorem kept_mem {m : Nat} {pts : List Nat} {x : Nat} : x ∈ kept m pts ↔ x < m ∧ x ∈ pts := by
  unfold kept
  rw [List.mem_filter, List.mem_range, decide_eq_true_iff]
theorem kept_snoc (i : Nat) (pts : List Nat) : kept (i + 1) pts = if i ∈ pts then kept i pts ++ [i] else kept i pts := by
  unfold kept
  rw [List.range_succ, List.filter_append]
  by_cases h : i ∈ pts
  · simp [h]
  · simp [h]
theorem kept_le (m : Nat) (pts : List Nat) : (kept m pts).length ≤ m := by
  unfold kept
  exact Nat.le_trans (List.length_filter_le ..) (Nat.le_of_eq List.length_range)
def spAllM : Sp := fun vs H Q _ => ∃ (l : Addr) (m : Nat) (pts : List Nat), vs = [.ref l] ∧ H l = some (.lst (mks m pts)) ∧ m ≤ 60 ∧ ∀ (r : Addr) (H' : Hp), H r = none → Same H H' → H' r = some (.lst (nats (kept m pts))) → Q (.ref r) H'
theorem scAllMarked : FnScope ["marks"] ["marks"] (defScope sAllMarked) := ⟨rfl, rfl, rfl, by decide +kernel, rfl, by decide +kernel, by decide +kernel⟩
theorem ok_allM {f : Addr} {fd : FuncData} (F : Fun K "all_marked" "all_marked" sAllMarked f fd) (T : TxtB mg) : FnOk P w K mg base CX0 1 f fd ["marks"] spAllM := by
  refine F.okQ scAllMarked (fun vs H Q E h => ?_) (fun cdv A outer s H vs Q E hr h => ?_)
  · obtain ⟨l, m, pts, rfl, _⟩ := h
    rfl
  · obtain ⟨l, m, pts, rfl, hl, hm, q⟩ := h
    refine ⟨_, (qss_one (qs_ret (qe_comp (g := gTup K 2 (gCons (gName 0) (gCons (gName 1) gNil))) (N := ["point", "mark"]) (src := [none, none]) rfl (comp_scope (defScope sAllMarked) ["marks"] rfl rfl (by decide +kernel) rfl) (qi_enum rfl T.enu (qac (qv 0) qa_nil)) (fun _ _ _ _ _ => (show QG _ _ (gTup K 2 _) from qg_tup rfl (qgs_cons (qg_name (i := 0) (show (["point", "mark"] : List Str).Nodup by decide +kernel) rfl (Or.inl rfl) (Or.inr rfl)) (qgs_cons (qg_name (i := 1) (show (["point", "mark"] : List Str).Nodup by decide +kernel) rfl (Or.inl rfl) (Or.inr rfl)) qgs_nil)))) (fun _ _ _ _ _ => (qif_one (qt_val (qv 1)))) (fun _ _ _ _ _ => (qv 0))))), ?_⟩
    refine ⟨_, rfl, l, rfl, ⟨_, SqL.of hl⟩, comp_enum (K := K) (a := l) (xs := mks m pts) (fun i zs H2 => Same H H2 ∧ zs = nats (kept i pts)) ⟨Same.refl _, rfl⟩ (fun i zs H2 _ ⟨e, _⟩ => SqL.of (e _ _ hl)) ?_ ?_⟩
    · rintro i v x zs H2 N hi ⟨s2, rfl⟩ hx nx
      have hil := (List.getElem?_eq_some_iff.mp hi).1
      rw [mks_len] at hil
      rw [mks_get pts hil] at hi
      cases hi
      have w1 := same_new (o := .tup [.int ((i : Nat) : Int), .bl (decide (i ∈ pts))]) hx
      have e := kept_snoc i pts
      refine ⟨x, _, rfl, SqT.of upd_same, rfl, _, _, rfl, _, _, rfl, rfl, (Weak.set (by intro v z; cases z)).trans (Weak.set (by intro v z; cases z)), ?_⟩
      refine ⟨_, rfl, _, rfl, ?_⟩
      have hlt : (kept i pts).length < sizeLine := Nat.lt_of_le_of_lt (kept_le i pts) (Nat.lt_of_lt_of_le hil (Nat.le_trans hm (by decide)))
      refine ite2 (fun h1 => ?_) (fun h1 => ?_)
      · have h1 := of_decide_eq_true h1
        rw [if_pos h1] at e
        exact ⟨_, rfl, by rw [nats_len]; exact hlt, nx _ _ ⟨s2.trans w1, by rw [e, nats_snoc]⟩⟩
      · have h1 : ¬ i ∈ pts := fun z => h1 (decide_eq_true z)
        rw [if_neg h1] at e
        exact nx _ _ ⟨s2.trans w1, by rw [e]⟩
    · rintro zs H2 ⟨s2, rfl⟩
      rw [mks_len]
      refine ⟨by rw [nats_len]; exact Nat.le_trans (kept_le ..) (Nat.le_trans hm (by decide)), fun r hr' => ?_⟩
      exact q r _ (none_of s2 hr') (s2.trans (same_new hr')) upd_same
theorem ixN_nat {n k : Nat} (h : k < n) : ixN n ((k : Nat) : Int) = some k := by
  unfold ixN
  rw [if_pos (by omega), if_pos (by omega), Int.toNat_natCast]
theorem qt_isN {X : Cx} {a : Expr} {ta : TE} {j pos' pos} (ha : QE X a ta) : QT X (.Compare a [.Is] [.Constant .none j pos'] pos) (tB (tIsN ta)) := qt_cmp (pc_isN ha.h)
theorem qt_notN {X : Cx} {a : Expr} {ta : TE} {j pos' pos} (ha : QE X a ta) : QT X (.Compare a [.IsNot] [.Constant .none j pos'] pos) (tB (tNotN ta)) := qt_cmp (pc_notN ha.h)
theorem ins_mem {pts b : List Nat} {x : Nat} : x ∈ ins pts b ↔ x ∈ b ∧ x ∈ pts := by
  unfold ins
  rw [List.mem_filter, decide_eq_true_iff]
theorem ins_kept {m : Nat} {q b : List Nat} (hb : Blk m b) : ins (kept m q) b = ins q b := by
  unfold ins
  refine List.filter_congr fun x hx => ?_
  have := hb.lt x hx
  simp only [kept_mem, this, true_and]
theorem kept_bls (m : Nat) (q : List Nat) : Bls m (kept m q) := ⟨List.Pairwise.sublist List.filter_sublist List.pairwise_lt_range, fun x hx => List.mem_range.mp (List.mem_filter.mp hx).1⟩
theorem rep_snoc (i : Nat) (c : Bool) : (List.replicate i c).map V.bl ++ [V.bl c] = (List.replicate (i + 1) c).map V.bl := by
  rw [List.replicate_succ', List.map_append]
  rfl
theorem rep_len (i : Nat) (c : Bool) : ((List.replicate i c).map V.bl).length = i := by rw [List.length_map, List.length_replicate]
theorem rep_all (n : Nat) : (List.replicate n true).all id = true := by simp
theorem rep_any (n : Nat) : (List.replicate n false).any id = false := by simp
def rIsD (K : PySem.W.Frag) : List V → Hp → VK → Prop := fun xs H Q => ∃ a C dx c b, xs = [.ref a, c] ∧ H a = some (XD a C dx) ∧ PySem.W.ExcD K C ∧ (∀ u, RelV c u → PySem.W.kitOne K (.ref C) u = some b) ∧ Q (.bl b) H
def rIsDT (K : PySem.W.Frag) : List V → Hp → VK → Prop := fun xs H Q => ∃ a C dx p ys b, xs = [.ref a, .ref p] ∧ H a = some (XD a C dx) ∧ PySem.W.ExcD K C ∧ H p = some (.tup ys) ∧ (∀ us, Vals ys us → PySem.W.kitAny K (.ref C) us = some b) ∧ Q (.bl b) H
theorem kit_nones {K : PySem.W.Frag} {t : Value} : ∀ {cs : List Addr}, (∀ c ∈ cs, PySem.W.kitOne K t (.ref c) = some false) → ∀ us, Vals (cs.map V.ref) us → PySem.W.kitAny K t us = some false
  | [], _, us, r => by cases r; rfl
  | c :: cs, h, us, r => by
    cases r with
    | cons r1 r2 =>
      cases r1
      unfold PySem.W.kitAny
      rw [h c (by simp)]
      exact kit_nones (fun c' hc' => h c' (List.mem_cons_of_mem _ hc')) _ r2
theorem first_uniq {bad : List Nat → Prop} {bs : List (List Nat)} {k k' : Nat} {b b' : List Nat} (h : bs[k]? = some b) (hb : bad b) (hf : ∀ (j : Nat) c, j < k → bs[j]? = some c → ¬ bad c) (h' : bs[k']? = some b') (hb' : bad b') (hf' : ∀ (j : Nat) c, j < k' → bs[j]? = some c → ¬ bad c) : k = k' := by
  rcases Nat.lt_trichotomy k k' with z | z | z
  · exact absurd hb (hf' k b z h)
  · exact z
  · exact absurd hb' (hf k' b' z h')
theorem passND {X : Cx} {P : Program} {w : World} : Passes (CXD P w) X E0 := fun _ _ _ _ _ _ _ q => by
  obtain ⟨_, _, _, _, _, _, _, _, _, _, _, z⟩ := q
  exact z.elim
/-- the first block with three of the points, or none -/
def ThrV (pts : List Nat) (bs : List (List Nat)) (v : V) : Prop := (∃ (k : Nat) (b : List Nat), v = .int ((k : Nat) : Int) ∧ bs[k]? = some b ∧ arcB pts b ∧ ∀ (j : Nat) b', j < k → bs[j]? = some b' → ¬ arcB pts b') ∨ (v = .non ∧ ∀ b ∈ bs, ¬ arcB pts b)
def spThree : Sp := fun vs H Q _ => ∃ (t a : Addr) (m : Nat) (bs : List (List Nat)) (pts : List Nat), vs = [.ref t, .ref a] ∧ LayA H t m bs ∧ m ≤ 60 ∧ (∀ b ∈ bs, Blk m b) ∧ H a = some (.lst (nats pts)) ∧ ∀ (v : V) (H' : Hp), Same H H' → ThrV pts bs v → Q v H'
theorem scLThree : FnScope ["_law_layout_here", "_law_points", "_law_k"] ["_law_layout_here", "_law_points"] (defScope sLThree) := ⟨rfl, rfl, rfl, by decide +kernel, rfl, by decide +kernel, by decide +kernel⟩
theorem ok_three {f : Addr} {fd : FuncData} (F : Fun K "_law_three" "_law_three" sLThree f fd) (T : TxtB mg) : FnOk P w K mg base CX0 1 f fd ["_law_layout_here", "_law_points"] spThree := by
  refine F.okQ scLThree (fun vs H Q E h => ?_) (fun cdv A outer s H vs Q E hr h => ?_)
  · obtain ⟨t, a, m, bs, pts, rfl, _⟩ := h
    rfl
  · obtain ⟨t, a, m, bs, pts, rfl, ⟨lb, ws, ht, hlb, hT, hlen⟩, hm, hb, ha, q⟩ := h
    refine ⟨_, (qss_cons (qs_for PassesOwn.never rfl (qi_range1 rfl T.range (qac (qe_callB call_len_seq (by rfl) T.len PySem.boot_len (qac (qe_ix ix_tup (qv 0) qe_int (fun _ _ => rfl)) qa_nil)) qa_nil)) (qg_name (i := 2) scLThree.nd rfl (Or.inl rfl))
        (qss_one (qs_if (qt_cmpR op_gt (qe_callB call_len_seq (by rfl) T.len PySem.boot_len (qac (qe_comp (g := gName 0) (N := ["_law_point", "_law_points"]) (src := [none, some 1]) rfl (comp_scope (defScope sLThree) ["_law_layout_here", "_law_points", "_law_k"] rfl rfl (by decide +kernel) rfl) (qi_tup (qe_ix ix_tup (qe_ix ix_tup (qv 0) qe_int (fun _ _ => rfl)) (qv 2) (fun _ _ => rfl))) (fun _ _ _ _ _ => (qg_name (i := 0) (show (["_law_point", "_law_points"] : List Str).Nodup by decide +kernel) rfl (Or.inl rfl) (Or.inr rfl))) (fun _ _ _ _ _ => (qif_one (qt_cmpR (show OpR _ _ (rIn K false) from op_in_seq) (qv 0) (qv 1) rfl))) (fun _ _ _ _ _ => (qv 0))) qa_nil)) qe_int (nomark _)) (qss_one (qs_ret (qv 2))) qss_nil)))
      (qss_one (qs_ret qe_non))), ?_⟩
    have hwl : ws.length ≤ 200 := by rw [hT.len]; exact hlen
    refine ⟨_, rfl, t, _, 1, .ref lb, rfl, rfl, SqT.of ht, rfl, lb, ws, rfl, .inr (SqT.of hlb), ((ws.length : Nat) : Int), rfl, by omega, by omega, ?_⟩
    rw [Int.toNat_natCast]
    refine for_range (lo := 0) (n := ws.length) (fun i σ H2 => Same H H2 ∧ (∃ x2, σ = [some (.ref t), some (.ref a), x2]) ∧ ∀ (j : Nat) b', j < i → bs[j]? = some b' → ¬ arcB pts b') ⟨Same.refl _, ⟨none, rfl⟩, fun j b' z => by omega⟩ ?_ ?_
    · rintro i σ H2 hi ⟨s2, ⟨x2, rfl⟩, hno⟩
      rw [Int.zero_add]
      have gi : ws[i]? = some ws[i] := List.getElem?_eq_getElem _
      obtain ⟨d, b, ed, hbs, hd⟩ := (hT.sm s2).get gi
      have hbb := hb b (List.mem_of_getElem? hbs)
      refine ⟨_, rfl, t, _, 1, .ref lb, rfl, rfl, SqT.of (s2 _ _ ht), rfl, _, rfl, lb, ws, _, _, rfl, rfl, SqT.of (s2 _ _ hlb), atI_nat gi, d, ed, ⟨_, SqT.of hd⟩, comp_tup (K := K) (xs := nats b) (fun j zs H3 => H3 = H2 ∧ zs = nats (ins pts (b.take j))) ⟨rfl, rfl⟩ (fun j zs H3 _ ⟨e, _⟩ => SqT.of (e ▸ hd)) ?_ ?_⟩
      · rintro j v zs H3 N hj ⟨rfl, rfl⟩ nx
        obtain ⟨x, hx, rfl⟩ := L2.nats_get hj
        have e := ins_snoc (pts := pts) hx
        refine ⟨Weak.set (by intro v z; cases z), ?_⟩
        refine ⟨_, rfl, _, rfl, a, nats pts, rfl, .inl (SqL.of (s2 _ _ ha)), rfl, flat_nats pts, _, rfl, ?_⟩
        have hlt : (ins pts (b.take j)).length < sizeLine := Nat.lt_of_le_of_lt (ins_le ..) (Nat.lt_of_le_of_lt (List.length_take_le' ..) (Nat.lt_of_le_of_lt hbb.len (Nat.lt_of_le_of_lt hm (by decide))))
        refine ite2 (fun h1 => ?_) (fun h1 => ?_)
        · have h1' : inV (V.int ((x : Nat) : Int)) (nats pts) = true := h1
          rw [inV_nats] at h1'
          rw [if_pos (of_decide_eq_true h1')] at e
          exact ⟨_, rfl, by rw [nats_len]; exact hlt, nx _ _ ⟨rfl, by rw [e, nats_snoc]⟩⟩
        · have h1' : ¬ x ∈ pts := fun z => h1 (show inV (V.int ((x : Nat) : Int)) (nats pts) = true by rw [inV_nats]; exact decide_eq_true z)
          rw [if_neg h1'] at e
          exact nx _ _ ⟨rfl, by rw [e]⟩
      · rintro zs H3 ⟨rfl, rfl⟩
        rw [take_natsS]
        refine ⟨by rw [nats_len]; exact Nat.le_trans (ins_le ..) (Nat.le_trans hbb.len (Nat.le_trans hm (by decide))), fun r hr' => ?_⟩
        have w1 := same_new (o := .lst (nats (ins pts b))) hr'
        refine ⟨r, _, rfl, .inl (SqL.of upd_same), _, _, rfl, rfl, _, rfl, ?_⟩
        rw [nats_len]
        refine ite2 (fun h1 => ?_) (fun h1 => ?_)
        · have h1 : arcB pts b := by
            have := of_decide_eq_true h1
            unfold arcB
            omega
          exact ⟨_, rfl, q _ _ (s2.trans w1) (.inl ⟨i, b, rfl, hbs, h1, hno⟩)⟩
        · have h1 : ¬ arcB pts b := fun z => h1 (decide_eq_true (by unfold arcB at z; omega))
          exact ⟨s2.trans w1, ⟨_, rfl⟩, first_step hno hbs h1⟩
    · rintro σ H2 ⟨s2, ⟨x2, rfl⟩, hno⟩
      refine q _ _ s2 (.inr ⟨rfl, fun b hbm => ?_⟩)
      obtain ⟨k, hk⟩ := List.getElem?_of_mem hbm
      exact hno k b (by rw [hT.len]; exact (List.getElem?_eq_some_iff.mp hk).1) hk
/-- two marked points beside a point in a block, the first such block, or none -/
def TwoV (H : Hp) (pts : List Nat) (bs : List (List Nat)) (p : Nat) (v : V) : Prop := (∃ (u : Addr) (k : Nat) (b : List Nat) (x y : Nat) (r : List Nat), v = .ref u ∧ H u = some (.tup (nats [p, k, x, y])) ∧ bs[k]? = some b ∧ p ∈ b ∧ ins pts b = x :: y :: r) ∨ (v = .non ∧ ∀ b ∈ bs, p ∈ b → (ins pts b).length ≤ 1)
def spTwo : Sp := fun vs H Q _ => ∃ (t l : Addr) (m p : Nat) (bs : List (List Nat)) (pts : List Nat), vs = [.ref t, .ref l, .int (p : Nat)] ∧ LayA H t m bs ∧ m ≤ 60 ∧ (∀ b ∈ bs, Blk m b) ∧ H l = some (.lst (mks m pts)) ∧ ∀ (v : V) (H' : Hp), Same H H' → TwoV H' pts bs p v → Q v H'
theorem two_of {L : List Nat} (h : 1 < L.length) : ∃ x y r, L = x :: y :: r := by
  match L, h with
  | x :: y :: r, _ => exact ⟨x, y, r, rfl⟩
theorem scTwoBeside : FnScope ["M", "marks", "point", "number", "block", "inside"] ["M", "marks", "point"] (defScope sTwoBeside) := ⟨rfl, rfl, rfl, by decide +kernel, rfl, by decide +kernel, by decide +kernel⟩
theorem ok_two {f : Addr} {fd : FuncData} (F : Fun K "two_beside" "two_beside" sTwoBeside f fd) (T : TxtB mg) (pMarkedOf : Pm P w K mg base CX0 1 "marked_of" ["points", "marks"] spMarkedOf) : FnOk P w K mg base CX0 2 f fd ["M", "marks", "point"] spTwo := by
  refine F.okQ scTwoBeside (fun vs H Q E h => ?_) (fun cdv A outer s H vs Q E hr h => ?_)
  · obtain ⟨t, l, m, p, bs, pts, rfl, _⟩ := h
    rfl
  · obtain ⟨t, l, m, p, bs, pts, rfl, ⟨lb, ws, ht, hlb, hT, hlen⟩, hm, hb, hl, q⟩ := h
    refine ⟨_, (qss_cons (qs_for PassesOwn.never rfl (qi_enumT rfl T.enu (qac (qe_ix ix_tup (qv 0) qe_int (fun _ _ => rfl)) qa_nil)) (qg_tup rfl (qgs_cons (qg_name (i := 3) scTwoBeside.nd rfl (Or.inl rfl)) (qgs_cons (qg_name (i := 4) scTwoBeside.nd rfl (Or.inl rfl)) qgs_nil)))
        (qss_one (qs_if (qt_cmpR op_in_seq (qv 2) (qv 4) rfl) (qss_cons (qs_set (i := 5) scTwoBeside.nd rfl (Or.inl rfl) (qe_callP pMarkedOf hr rfl pass0 (qac (qv 4) (qac (qv 1) qa_nil))))
          (qss_one (qs_if (qt_cmpR op_gt (qe_callB call_len_seq (by rfl) T.len PySem.boot_len (qac (qv 5) qa_nil)) qe_int (nomark _)) (qss_one (qs_ret (qe_tup (qac (qv 2) (qac (qv 3) (qac (qe_ix ix_list (qv 5) qe_int (fun _ _ => rfl)) (qac (qe_ix ix_list (qv 5) qe_int (fun _ _ => rfl)) qa_nil))))))) qss_nil))) qss_nil)))
      (qss_one (qs_ret qe_non))), ?_⟩
    refine ⟨_, rfl, t, _, 1, .ref lb, rfl, rfl, SqT.of ht, rfl, lb, rfl, ⟨_, SqT.of hlb⟩, for_enumT (K := K) (a := lb) (xs := ws) (fun i σ H2 => Same H H2 ∧ (∃ x3 x4 x5, σ = [some (.ref t), some (.ref l), some (.int (p : Nat)), x3, x4, x5]) ∧ ∀ (j : Nat) b', j < i → bs[j]? = some b' → ¬ (p ∈ b' ∧ 1 < (ins pts b').length)) ⟨Same.refl _, ⟨none, none, none, rfl⟩, fun j b' z => by omega⟩ (fun i σ H2 _ ⟨e, _⟩ => SqT.of (e _ _ hlb)) ?_ ?_⟩
    · rintro i v T1 σ H2 hi ⟨s2, ⟨x3, x4, x5, rfl⟩, hno⟩ hT1
      obtain ⟨d, b, rfl, hbs, hd⟩ := (hT.sm s2).get hi
      have hbb := hb b (List.mem_of_getElem? hbs)
      have w1 := same_new (o := .tup [V.int ((i : Nat) : Int), V.ref d]) hT1
      have s3 := s2.trans w1
      have hd3 := w1 _ _ hd
      refine ⟨T1, _, rfl, SqT.of upd_same, rfl, _, _, rfl, _, _, rfl, rfl, ?_⟩
      generalize upd H2 T1 (.tup [V.int ((i : Nat) : Int), V.ref d]) = H3 at s3 hd3 ⊢
      refine ⟨_, rfl, _, rfl, d, nats b, rfl, .inr (SqT.of hd3), rfl, flat_nats b, _, rfl, ?_⟩
      show if inV (V.int ((p : Nat) : Int)) (nats b) = true then _ else _
      rw [inV_nats]
      by_cases hpb : p ∈ b
      rotate_left
      · rw [decide_eq_false hpb]
        exact iteF ⟨s3, ⟨_, _, _, rfl⟩, first_step hno hbs fun z => hpb z.1⟩
      rw [decide_eq_true hpb]
      refine iteT ⟨_, rfl, _, rfl, d, l, m, b, pts, rfl, hd3, s3 _ _ hl, hm, hbb, fun r H4 hr0 s4 hr4 => ?_⟩
      refine ⟨_, rfl, r, _, rfl, .inl (SqL.of hr4), _, _, rfl, rfl, _, rfl, ?_⟩
      rw [nats_len]
      refine ite2 (fun h1 => ?_) (fun h1 => ?_)
      · have h1 : 1 < (ins pts b).length := by
          have := of_decide_eq_true h1
          omega
        obtain ⟨x, y, r', e⟩ := two_of h1
        refine ⟨_, rfl, _, rfl, _, rfl, r, _, 0, _, rfl, rfl, SqL.of hr4, atI_nat (nats_at (x := x) (by rw [e]; rfl)), _, rfl, r, _, 1, _, rfl, rfl, SqL.of hr4, atI_nat (nats_at (x := y) (by rw [e]; rfl)), by show 4 ≤ sizeLine; decide, fun u hu => ?_⟩
        exact q _ _ (s3.trans (s4.trans (same_new hu))) (.inl ⟨u, i, b, x, y, r', rfl, upd_same, hbs, hpb, e⟩)
      · have h1 : ¬ 1 < (ins pts b).length := fun z => h1 (decide_eq_true (by omega))
        exact ⟨s3.trans s4, ⟨_, _, _, rfl⟩, first_step hno hbs fun z => h1 z.2⟩
    · rintro σ H2 ⟨s2, ⟨x3, x4, x5, rfl⟩, hno⟩
      refine q _ _ s2 (.inr ⟨rfl, fun b hbm hpb => ?_⟩)
      obtain ⟨k, hk⟩ := List.getElem?_of_mem hbm
      have hkl := (List.getElem?_eq_some_iff.mp hk).1
      have := hno k b (by rw [hT.len]; exact hkl) hk
      exact Nat.le_of_not_lt fun z => this ⟨hpb, z⟩
theorem ins_more_le {q : List Nat} {i : Nat} : ∀ {b : List Nat}, b.Nodup → (ins (q ++ [i]) b).length ≤ (ins q b).length + (if i ∈ b then 1 else 0)
  | [], _ => by simp [ins]
  | x :: b, h => by
    rw [List.nodup_cons] at h
    have ih := ins_more_le (q := q) (i := i) h.2
    unfold ins at ih ⊢
    by_cases e : x = i
    · subst e
      rw [if_neg h.1] at ih
      rw [if_pos (by simp)]
      by_cases hq : x ∈ q
      · rw [List.filter_cons_of_pos (by simp [hq]), List.filter_cons_of_pos (by simp [hq])]
        simp only [List.length_cons]
        omega
      · rw [List.filter_cons_of_pos (by simp), List.filter_cons_of_neg (by simp [hq])]
        simp only [List.length_cons]
        omega
    · have em : (if i ∈ x :: b then 1 else 0) = if i ∈ b then 1 else 0 := by
        simp [Ne.symm e]
      rw [em]
      by_cases hq : x ∈ q
      · rw [List.filter_cons_of_pos (by simp [hq]), List.filter_cons_of_pos (by simp [hq])]
        simp only [List.length_cons]
        omega
      · rw [List.filter_cons_of_neg (by simp [hq, e]), List.filter_cons_of_neg (by simp [hq])]
        exact ih
theorem ins_more_ge {q : List Nat} {i : Nat} : ∀ (b : List Nat), (ins q b).length ≤ (ins (q ++ [i]) b).length
  | [] => by simp [ins]
  | x :: b => by
    have ih := ins_more_ge (q := q) (i := i) b
    unfold ins at ih ⊢
    by_cases hq : x ∈ q
    · rw [List.filter_cons_of_pos (by simp [hq]), List.filter_cons_of_pos (by simp [hq])]
      simp only [List.length_cons]
      omega
    · rw [List.filter_cons_of_neg (by simp [hq])]
      refine Nat.le_trans ih ?_
      by_cases e : x = i
      · rw [List.filter_cons_of_pos (by simp [e])]
        simp only [List.length_cons]
        omega
      · rw [List.filter_cons_of_neg (by simp [hq, e])]
        exact Nat.le_refl _
/-- what is told of an arc and its growth -/
structure Grown (H : Hp) (u : Addr) (m : Nat) (bs : List (List Nat)) (pts gr : List Nat) (gA sA : Addr) (rws : List V) (R : List (List Nat)) : Prop where
  tu : H u = some (.tup [.ref gA, .ref sA])
  tg : H gA = some (.lst (nats gr))
  ts : H sA = some (.lst rws)
  tp : TpAt H rws R
  gb : Bls m gr
  sub : ∀ x ∈ pts, x ∈ gr
  arc : ∀ b ∈ bs, ¬ arcB gr b
  fst : R.map (fun r => r.getD 0 0) = (List.range m).filter fun p => decide (p ∉ gr)
  ok : ∀ r ∈ R, ∃ p k x y b rest, r = [p, k, x, y] ∧ bs[k]? = some b ∧ p ∈ b ∧ ins gr b = x :: y :: rest
def spGrown (C : Addr) : Sp := fun vs H Q E => ∃ (t a : Addr) (m : Nat) (bs : List (List Nat)) (pts : List Nat), vs = [.ref t, .ref a] ∧ LayA H t m bs ∧ m ≤ 60 ∧ (∀ b ∈ bs, Blk m b) ∧ H a = some (.lst (nats pts)) ∧ Bls m pts ∧
  (∀ (k : Nat) b, bs[k]? = some b → arcB pts b → (∀ (j : Nat) b', j < k → bs[j]? = some b' → ¬ arcB pts b') → ∀ dx H', Same H H' → H' dx = some (.xd [("block", .int ((k : Nat) : Int))]) → E (.ref C) (some dx) H') ∧
  ((∀ b ∈ bs, ¬ arcB pts b) → ∀ u gr gA sA rws R H', H gA = none → H sA = none → gA ≠ sA → Same H H' → Grown H' u m bs pts gr gA sA rws R → Q (.ref u) H')
theorem word_ne : decide (V.str "arc" = V.str "three") = false := decide_eq_false fun z => by
  have : ("arc" : Str) = ("three" : Str) := V.str.inj z
  revert this
  decide +kernel
theorem out_snoc (i : Nat) (q : List Nat) : ((List.range (i + 1)).filter fun p => decide (p ∉ q)) = if i ∈ q then (List.range i).filter (fun p => decide (p ∉ q)) else (List.range i).filter (fun p => decide (p ∉ q)) ++ [i] := by
  rw [List.range_succ, List.filter_append]
  by_cases h : i ∈ q
  · simp [h]
  · simp [h]
theorem scGrownArc : FnScope ["M", "points", "told", "marks", "point", "shown"] ["M", "points"] (defScope sGrownArc) := ⟨rfl, rfl, rfl, by decide +kernel, rfl, by decide +kernel, by decide +kernel⟩
theorem ok_grown {f fI : Addr} {fd fdI : FuncData} (F : Fun K "grown_arc" "grown_arc" sGrownArc f fd) (T : TxtB mg) (O : OwnX K C fI "block") (FI : FnOk P w K mg base CX0 1 fI fdI ["self", "block"] (spXI K "block")) (hb : Binds K fdI ["self", "block"] []) (mC : mg "NoArc" = some (.ref C))
    (pTold : Pm P w K mg base CX0 2 "arc_told" ["M", "points"] (spToldS arcW)) (pMarksOf : Pm P w K mg base CX0 1 "marks_of" ["points", "block"] spMarks) (pTwo : Pm P w K mg base CX0 2 "two_beside" ["M", "marks", "point"] spTwo) (pAllM : Pm P w K mg base CX0 1 "all_marked" ["marks"] spAllM) : FnOk P w K mg base (CXD P w) 3 f fd ["M", "points"] (spGrown C) := by
  refine F.okXDQ scGrownArc (fun vs H Q E h => ?_) (fun cdv A outer s H vs Q E hr2 h => ?_)
  · obtain ⟨t, a, m, bs, pts, rfl, _⟩ := h
    rfl
  · obtain ⟨t, a, m, bs, pts, rfl, ⟨lb, ws, ht, hlb, hT, hlen⟩, hm, hbk, ha, hp, qE, qQ⟩ := h
    have hr1 := hr2.mono (show 1 ≤ 2 by decide)
    refine ⟨_, (qss_cons (qs_set (i := 2) scGrownArc.nd rfl (Or.inl rfl) (qe_callP pTold hr2 rfl pass0 (qac (qv 0) (qac (qv 1) qa_nil))))
      (qss_cons (qs_if (qt_cmpR op_eq (qe_ix ix_tup (qv 2) qe_int (fun _ _ => rfl)) qe_str (nomark _)) (qss_one (qs_raiseX O FI hr2 rfl mC hb .nil rfl rfl pass0 (qac (qe_ix ix_tup (qv 2) qe_int (fun _ _ => rfl)) qa_nil))) qss_nil)
      (QSs.nox (qss_cons (qs_set (i := 3) scGrownArc.nd rfl (Or.inr rfl) (qe_callP pMarksOf hr1 rfl pass0 (qac (qe_ix ix_tup (qv 0) qe_int (fun _ _ => rfl)) (qac (qv 1) qa_nil))))
      (qss_cons (qs_for PassesOwn.never rfl (qi_range1 rfl T.range (qac (qe_ix ix_tup (qv 0) qe_int (fun _ _ => rfl)) qa_nil)) (qg_name (i := 4) scGrownArc.nd rfl (Or.inl rfl))
        (qss_one (qs_if (QW.pt (qw_and (qt_not (qt_val (qe_ix ix_list (qv 3) (qv 4) (fun _ _ => rfl)))) (qw_and1 (qt_isN (qe_callP pTwo hr2 rfl pass0 (qac (qv 0) (qac (qv 3) (qac (qv 4) qa_nil)))))))) (qss_one (qs_asg qe_bl (qg_sub (qv 3) (qv 4) set_list))) qss_nil)))
      (qss_cons (qs_setComp (i := 5) (g := gName 0) (N := ["point", "M", "marks"]) (src := [none, some 0, some 3]) rfl (comp_scope (defScope sGrownArc) ["M", "points", "told", "marks", "point", "shown"] rfl rfl (by decide +kernel) rfl) (qi_range1 rfl T.range (qac (qe_ix ix_tup (qv 0) qe_int (fun _ _ => rfl)) qa_nil)) (fun _ _ _ _ _ => (qg_name (i := 0) (show (["point", "M", "marks"] : List Str).Nodup by decide +kernel) rfl (Or.inl rfl) (Or.inr rfl))) (fun _ _ _ _ _ => (qif_one (qt_not (qt_val (qe_ix (show IxR _ (rIxL K) from ix_list) (qv 2) (qv 0) (fun _ _ => rfl)))))) (fun _ _ _ _ _ => (qe_callP pTwo hr2 rfl pass0 (qac (qv 1) (qac (qv 2) (qac (qv 0) qa_nil))))) (qg_name (i := 5) scGrownArc.nd rfl (Or.inl rfl)))
      (qss_one (qs_ret (qe_tup (qac (qe_callP pAllM hr1 rfl pass0 (qac (qv 3) qa_nil)) (qac (qv 5) qa_nil))))))))))), ?_⟩
    refine ⟨_, rfl, _, rfl, t, a, m, bs, pts, rfl, ⟨lb, ws, ht, hlb, hT, hlen⟩, hm, hbk, ha, hp.lt, fun u x L H1 s1 hu hW => ?_⟩
    refine ⟨_, rfl, u, _, 0, .str x, rfl, rfl, SqT.of hu, atI_nat (j := 0) rfl, rfl, _, rfl, ?_⟩
    rcases hW with ⟨rfl, rfl, hno⟩ | ⟨k, b, rfl, rfl, hk, hmb, hf⟩
    rotate_left
    · rw [decide_eq_true rfl]
      refine iteT ⟨_, rfl, u, _, 1, .int ((k : Nat) : Int), rfl, rfl, SqT.of hu, atI_nat (j := 1) rfl, by show 1 ≤ sizeLine; decide, fun x hx => ?_⟩
      have hkl := (List.getElem?_eq_some_iff.mp hk).1
      refine ⟨x, C, fI, _, rfl, upd_same, O, .inl ⟨k, rfl, by omega⟩, fun dx hdx => ⟨rfl, dx, upd_same, qE k b hk hmb hf dx _ ?_ ?_⟩⟩
      · intro c o hc
        have hc1 := s1 _ _ hc
        have n1 : c ≠ x := fun z => by rw [z, hx] at hc1; cases hc1
        have n2 : c ≠ dx := fun z => by
          rw [← z, upd_ne n1, hc1] at hdx
          cases hdx
        rw [unt_ne n1, upd_ne n1, upd_ne n2, upd_ne n1, hc1]
      · have n1 : dx ≠ x := fun z => by
          rw [z, upd_same] at hdx
          cases hdx
        rw [unt_ne n1, upd_ne n1, upd_same]
    · rw [word_ne]
      refine iteF ?_
      have ht1 := s1 _ _ ht
      have ha1 := s1 _ _ ha
      refine ⟨_, rfl, t, _, 0, .int (m : Nat), rfl, rfl, SqT.of ht1, rfl, _, rfl, a, m, pts, rfl, .inl ha1, hm, hp.lt, fun l H2 hl0 s2 hl => ?_⟩
      have s12 := s1.trans s2
      have hlH : H l = none := none_of s1 hl0
      dsimp only
      refine seqVia (fun σ' H' => Same H H' ∧ (∃ x4, σ' = [some (.ref t), some (.ref a), some (.ref u), some (.ref l), x4, none]) ∧ ∃ q, H' l = some (.lst (mks m q)) ∧ (∀ x ∈ pts, x ∈ q) ∧ (∀ b ∈ bs, ¬ arcB q b) ∧ ∀ p, p < m → p ∉ q → ∃ b ∈ bs, p ∈ b ∧ 1 < (ins q b).length) ?_ (fun D' go => ?_)
      rotate_left
      · refine ⟨_, rfl, t, _, 0, .int (m : Nat), rfl, rfl, SqT.of (s12 _ _ ht), rfl, ((m : Nat) : Int), rfl, by omega, by omega, ?_⟩
        rw [Int.toNat_natCast]
        refine for_range (lo := 0) (n := m) (fun i σ H3 => Same H H3 ∧ (∃ x4, σ = [some (.ref t), some (.ref a), some (.ref u), some (.ref l), x4, none]) ∧ ∃ q, H3 l = some (.lst (mks m q)) ∧ (∀ x ∈ pts, x ∈ q) ∧ (∀ b ∈ bs, ¬ arcB q b) ∧ ∀ p, p < i → p ∉ q → ∃ b ∈ bs, p ∈ b ∧ 1 < (ins q b).length) ⟨s12, ⟨none, rfl⟩, pts, hl, fun _ z => z, hno, fun p z => absurd z (Nat.not_lt_zero p)⟩ ?_ ?_
        · rintro i σ H3 hi ⟨s3, ⟨x4, rfl⟩, q, hq, hsub, hmt, hal⟩
          rw [Int.zero_add]
          refine ⟨_, rfl, _, rfl, l, _, _, _, rfl, rfl, SqL.of hq, atI_nat (mks_get q hi), _, rfl, ?_⟩
          by_cases hiq : i ∈ q
          · rw [decide_eq_true hiq]
            refine iteF (iteF ⟨s3, ⟨_, rfl⟩, q, hq, hsub, hmt, fun p hpi hpq => ?_⟩)
            by_cases e : p = i
            · exact absurd (e ▸ hiq) hpq
            · exact hal p (by omega) hpq
          rw [decide_eq_false hiq]
          refine iteT ⟨_, rfl, _, rfl, _, rfl, t, l, m, i, bs, q, rfl, ⟨lb, ws, s3 _ _ ht, s3 _ _ hlb, hT.sm s3, hlen⟩, hm, hbk, hq, fun v H4 s4 hv => ?_⟩
          rcases hv with ⟨u', k, b, x, y, r, rfl, hu', hk, hpb, e⟩ | ⟨rfl, hv⟩
          · refine ⟨_, rfl, ?_⟩
            rw [decide_eq_false (show ¬ V.ref u' = V.non from fun z => by cases z)]
            refine iteF ⟨s3.trans s4, ⟨_, rfl⟩, q, s4 _ _ hq, hsub, hmt, fun p hpi hpq => ?_⟩
            by_cases ep : p = i
            · subst ep
              exact ⟨b, List.mem_of_getElem? hk, hpb, by rw [e]; simp⟩
            · exact hal p (by omega) hpq
          · refine ⟨_, rfl, ?_⟩
            rw [decide_eq_true rfl]
            refine iteT ⟨_, rfl, _, rfl, l, _, _, i, rfl, rfl, s4 _ _ hq, ?_, ?_⟩
            · rw [mks_len]
              exact ixN_nat hi
            · rw [mks_set]
              refine ⟨same_upd (s3.trans s4) hlH, ⟨_, rfl⟩, _, upd_same, fun x hx => List.mem_append_left _ (hsub x hx), fun b hb z => ?_, fun p hpi hpq => ?_⟩
              · have h1 := ins_more_le (q := q) (i := i) (hbk b hb).nd
                have h2 := hmt b hb
                unfold arcB at z h2
                by_cases hib : i ∈ b
                · have := hv b hb hib
                  rw [if_pos hib] at h1
                  omega
                · rw [if_neg hib] at h1
                  omega
              · have n1 : p ∉ q := fun z => hpq (List.mem_append_left _ z)
                have n2 : p ≠ i := fun z => hpq (List.mem_append_right _ (List.mem_singleton.mpr z))
                obtain ⟨b, hb, h1, h2⟩ := hal p (by omega) n1
                exact ⟨b, hb, h1, Nat.lt_of_lt_of_le h2 (ins_more_ge b)⟩
        · rintro σ H3 ⟨s3, ⟨x4, rfl⟩, q, hq, hsub, hmt, hal⟩
          exact go _ _ ⟨s3, ⟨_, rfl⟩, q, hq, hsub, hmt, hal⟩
      rintro σ' H3 ⟨s3, ⟨x4, rfl⟩, q, hq, hsub, hmt, hal⟩
      refine ⟨_, rfl, t, _, 0, .int (m : Nat), rfl, rfl, SqT.of (s3 _ _ ht), rfl, ((m : Nat) : Int), rfl, by omega, by omega, ?_⟩
      rw [Int.toNat_natCast]
      have fl : ∀ i, i ≤ m → ((List.range i).filter fun p => decide (p ∉ q)).length ≤ 60 := fun i hi => Nat.le_trans (List.length_filter_le ..) (by rw [List.length_range]; omega)
      refine comp_rng (lo := 0) (n := m) (fun i zs H5 => i ≤ m ∧ Same H3 H5 ∧ ∃ R : List (List Nat), TpAt H5 zs R ∧ R.map (fun r => r.getD 0 0) = (List.range i).filter (fun p => decide (p ∉ q)) ∧ ∀ r ∈ R, ∃ p k x y b rest, r = [p, k, x, y] ∧ bs[k]? = some b ∧ p ∈ b ∧ ins q b = x :: y :: rest) ⟨Nat.zero_le _, Same.refl _, [], trivial, rfl, fun r hr => by cases hr⟩ ?_ ?_
      · rintro i zs H5 N hi ⟨_, s5, R, hR, hf, hok⟩ nx
        rw [Int.zero_add]
        have s35 := s3.trans s5
        have hzl : zs.length < sizeLine := by
          have := congrArg List.length hf
          rw [List.length_map] at this
          rw [hR.len, this]
          exact Nat.lt_of_le_of_lt (fl i (Nat.le_of_lt hi)) (by decide)
        refine ⟨Weak.set (by intro v z; cases z), ?_⟩
        refine ⟨_, rfl, _, rfl, l, _, _, _, rfl, rfl, SqL.of (s5 _ _ hq), atI_nat (mks_get q hi), _, rfl, ?_⟩
        have es := out_snoc i q
        by_cases hiq : i ∈ q
        · rw [decide_eq_true hiq]
          rw [if_pos hiq] at es
          exact iteF (nx _ _ ⟨hi, s5, R, hR, by rw [es]; exact hf, hok⟩)
        rw [decide_eq_false hiq]
        rw [if_neg hiq] at es
        refine iteT ⟨_, rfl, _, rfl, _, rfl, t, l, m, i, bs, q, rfl, ⟨lb, ws, s35 _ _ ht, s35 _ _ hlb, hT.sm s35, hlen⟩, hm, hbk, s5 _ _ hq, fun v H6 s6 hv => ?_⟩
        rcases hv with ⟨u', k, b, x, y, r, rfl, hu', hk, hpb, e⟩ | ⟨rfl, hv⟩
        rotate_left
        · obtain ⟨b, hb, h1, h2⟩ := hal i hi hiq
          have := hv b hb h1
          omega
        refine ⟨hzl, nx _ _ ⟨hi, s5.trans s6, R ++ [[i, k, x, y]], (hR.sm s6).snoc hu', ?_, fun r' hr' => ?_⟩⟩
        · rw [List.map_append, hf, es]
          rfl
        · rcases List.mem_append.mp hr' with z | z
          · exact hok r' z
          · rw [List.mem_singleton.mp z]
            exact ⟨i, k, x, y, b, r, rfl, hk, hpb, e⟩
      · rintro zs H5 ⟨_, s5, R, hR, hf, hok⟩
        have hzl : zs.length ≤ sizeLine := by
          have := congrArg List.length hf
          rw [List.length_map] at this
          rw [hR.len, this]
          exact Nat.le_trans (fl m (Nat.le_refl m)) (by decide)
        refine ⟨hzl, fun sA hsA => ?_⟩
        have w5 := same_new (o := .lst zs) hsA
        have hsA5 : upd H5 sA (.lst zs) sA = some (.lst zs) := upd_same
        have hR5 := hR.sm w5
        have s6 := s5.trans w5
        have sAn : H sA = none := none_of (s3.trans s5) hsA
        generalize upd H5 sA (.lst zs) = H6 at hsA5 hR5 s6 ⊢
        refine ⟨_, rfl, l, m, q, rfl, s6 _ _ hq, hm, fun gA H7 hgA s7 hg7 => ⟨_, rfl, by show 2 ≤ sizeLine; decide, fun u' hu' => ?_⟩⟩
        have w7 := same_new (o := .tup [V.ref gA, V.ref sA]) hu'
        have s37 := s3.trans (s6.trans (s7.trans w7))
        have nks : gA ≠ sA := fun z => by
          rw [z, hsA5] at hgA
          cases hgA
        have ek : ∀ p, p < m → (p ∉ kept m q ↔ p ∉ q) := fun p hpm => by
          rw [kept_mem]
          exact ⟨fun z h => z ⟨hpm, h⟩, fun z h => z h.2⟩
        refine qQ hno u' (kept m q) gA sA zs R _ (none_of (s3.trans s6) hgA) sAn nks s37 ⟨upd_same, w7 _ _ hg7, (s7.trans w7) _ _ hsA5, hR5.sm (s7.trans w7), kept_bls m q, fun x hx => kept_mem.mpr ⟨hp.lt x hx, hsub x hx⟩, fun b hb => ?_, ?_, fun r hr => ?_⟩
        · unfold arcB
          rw [ins_kept (hbk b hb)]
          exact hmt b hb
        · rw [hf]
          refine List.filter_congr fun p hpm => ?_
          have := ek p (List.mem_range.mp hpm)
          simp only [this]
        · obtain ⟨p, k, x, y, b, rest, h1, h2, h3, h4⟩ := hok r hr
          exact ⟨p, k, x, y, b, rest, h1, h2, h3, by rw [ins_kept (hbk b (List.mem_of_getElem? h2))]; exact h4⟩
def spShown : Sp := fun vs H Q _ => ∃ (t a c : Addr) (m : Nat) (bs : List (List Nat)) (gr : List Nat) (p k x y : Nat) (b rest : List Nat), vs = [.ref t, .ref a, .ref c] ∧ LayA H t m bs ∧ m ≤ 60 ∧ (∀ b ∈ bs, Bls m b) ∧ H a = some (.lst (nats gr)) ∧ H c = some (.tup (nats [p, k, x, y])) ∧ bs[k]? = some b ∧ p ∈ b ∧ ins gr b = x :: y :: rest ∧ ∀ H' : Hp, Same H H' → Q (.bl true) H'
theorem scLShownRight : FnScope ["_law_layout_here", "_law_points", "_law_row_here", "_law_point", "_law_number", "_law_a", "_law_b"] ["_law_layout_here", "_law_points", "_law_row_here"] (defScope sLShownRight) := ⟨rfl, rfl, rfl, by decide +kernel, rfl, by decide +kernel, by decide +kernel⟩
theorem ok_shown {f : Addr} {fd : FuncData} (F : Fun K "_law_shown_right" "_law_shown_right" sLShownRight f fd) (T : TxtB mg) : FnOk P w K mg base CX0 1 f fd ["_law_layout_here", "_law_points", "_law_row_here"] spShown := by
  refine F.okQ scLShownRight (fun vs H Q E h => ?_) (fun cdv A outer s H vs Q E hr1 h => ?_)
  · obtain ⟨t, a, c, m, bs, gr, p, k, x, y, b, rest, rfl, _⟩ := h
    rfl
  · obtain ⟨t, a, c, m, bs, gr, p, k, x, y, b, rest, rfl, ⟨lb, ws, ht, hlb, hT, hlen⟩, hm, hbk, ha, hc, hkb, hpb, hib, q⟩ := h
    refine ⟨_, (qss_cons (qs_if (QW.pt (qw_or (qt_not (qt_val (qe_callB call_isinst (by rfl) T.isi PyProof.Rows.boot_isinstance (qac (qv 2) (qac (qe_bltn (v := .ty "tuple") rfl T.tup (by decide +kernel) rfl) qa_nil))))) (qw_or (qt_cmpR op_ne (qe_callB call_len_seq (by rfl) T.len PySem.boot_len (qac (qv 2) qa_nil)) qe_int (nomark _)) (qw_or1 (qt_val (qe_callB (call_any rfl) (by rfl) T.any (by decide +kernel) (qac (qe_comp (g := gName 0) (N := ["_law_part"]) (src := [none]) rfl (comp_scope (defScope sLShownRight) ["_law_layout_here", "_law_points", "_law_row_here", "_law_point", "_law_number", "_law_a", "_law_b"] rfl rfl (by decide +kernel) rfl) (qi_tup (qv 2)) (fun _ _ _ _ _ => (qg_name (i := 0) (show (["_law_part"] : List Str).Nodup by decide +kernel) rfl (Or.inl rfl) (Or.inr rfl))) (fun _ _ _ _ _ => qif_nil) (fun _ _ _ _ _ => (qe_callB (show CallR _ _ (rInstQ K) from call_isinst) (by rfl) T.isi PyProof.Rows.boot_isinstance (qac (qv 0) (qac (qe_bltn (v := .ty "bool") rfl T.bool (by decide +kernel) rfl) qa_nil))))) qa_nil))))))) (qss_one (qs_ret qe_bl)) qss_nil)
      (qss_cons (qs_asg (qv 2) (qg_tup rfl (qgs_cons (qg_name (i := 3) scLShownRight.nd rfl (Or.inl rfl)) (qgs_cons (qg_name (i := 4) scLShownRight.nd rfl (Or.inr rfl)) (qgs_cons (qg_name (i := 5) scLShownRight.nd rfl (Or.inl rfl)) (qgs_cons (qg_name (i := 6) scLShownRight.nd rfl (Or.inl rfl)) qgs_nil))))))
      (qss_cons (qs_if (QW.pt (qw_or (qt_cmpR op_notInRng (qv 4) (qe_callTy call_rng1 (by rfl) T.range (by decide +kernel) (qac (qe_callB call_len_seq (by rfl) T.len PySem.boot_len (qac (qe_ix ix_tup (qv 0) qe_int (fun _ _ => rfl)) qa_nil)) qa_nil)) rfl) (qw_or (qt_cmpR op_notIn_seq (qv 5) (qv 1) rfl) (qw_or (qt_cmpR op_notIn_seq (qv 6) (qv 1) rfl) (qw_or1 (qt_cmpR op_ge (qv 5) (qv 6) (nomark _))))))) (qss_one (qs_ret qe_bl)) qss_nil)
      (qss_one (qs_ret (qe_callB (call_all rfl) (by rfl) T.all (by decide +kernel) (qac (qe_comp (g := gName 0) (N := ["_law_one", "_law_layout_here", "_law_number"]) (src := [none, some 0, some 4]) rfl (comp_scope (defScope sLShownRight) ["_law_layout_here", "_law_points", "_law_row_here", "_law_point", "_law_number", "_law_a", "_law_b"] rfl rfl (by decide +kernel) rfl) (qi_list (qe_lst (qac (qv 3) (qac (qv 5) (qac (qv 6) qa_nil))))) (fun _ _ _ _ _ => (qg_name (i := 0) (show (["_law_one", "_law_layout_here", "_law_number"] : List Str).Nodup by decide +kernel) rfl (Or.inl rfl) (Or.inr rfl))) (fun _ _ _ _ _ => qif_nil) (fun _ _ _ _ _ => (qe_cmpR (show OpR _ _ (rIn K false) from op_in_seq) (qv 0) (qe_ix (show IxR _ (rIxT K) from ix_tup) (qe_ix (show IxR _ (rIxT K) from ix_tup) (qv 1) qe_int (fun _ _ => rfl)) (qv 2) (fun _ _ => rfl)) rfl))) qa_nil))))))), ?_⟩
    have hbb := hbk b (List.mem_of_getElem? hkb)
    have hkl := (List.getElem?_eq_some_iff.mp hkb).1
    have xy : x < y := by
      have : (ins gr b).Pairwise (· < ·) := hbb.so.sublist List.filter_sublist
      rw [hib, List.pairwise_cons] at this
      exact this.1 y (by simp)
    have hx := ins_mem.mp (show x ∈ ins gr b by rw [hib]; simp)
    have hy := ins_mem.mp (show y ∈ ins gr b by rw [hib]; simp)
    refine ⟨_, rfl, _, _, _, _, rfl, .tup hc, rel_ty (kit_tup_tup K), true, rfl, iteF ?_⟩
    refine ⟨_, rfl, c, _, rfl, .inr (SqT.of hc), rfl, _, rfl, iteF ?_⟩
    refine ⟨_, rfl, c, rfl, ⟨_, SqT.of hc⟩, comp_tup (K := K) (xs := nats [p, k, x, y]) (fun i zs H2 => H2 = H ∧ zs = (List.replicate i false).map V.bl) ⟨rfl, rfl⟩ (fun i zs H2 _ ⟨e, _⟩ => SqT.of (e ▸ hc)) ?_ ?_⟩
    · rintro i v zs H2 N hi ⟨rfl, rfl⟩ nx
      obtain ⟨z, hz, rfl⟩ := L2.nats_get hi
      have hil : i < 4 := (List.getElem?_eq_some_iff.mp hz).1
      have hl : ((List.replicate i false).map V.bl).length < sizeLine := by
        rw [rep_len]
        exact Nat.lt_of_lt_of_le hil (by decide)
      exact ⟨Weak.set (by intro v z; cases z), _, rfl, _, _, _, _, rfl, .int _, rel_ty (kit_int_bool K), hl, nx _ _ ⟨rfl, rep_snoc ..⟩⟩
    rintro zs H2 ⟨rfl, rfl⟩
    refine ⟨by rw [rep_len]; show 4 ≤ sizeLine; decide, fun r hr' => ⟨r, _, rfl, SqL.of upd_same, ?_⟩⟩
    rw [rep_any]
    have w1 := same_new (o := .lst ((List.replicate (nats [p, k, x, y]).length false).map V.bl)) hr'
    generalize upd H2 r (.lst ((List.replicate (nats [p, k, x, y]).length false).map V.bl)) = H1 at w1 ⊢
    refine ⟨_, rfl, iteF ?_⟩
    refine ⟨_, rfl, c, _, rfl, SqT.of (w1 _ _ hc), rfl, _, _, rfl, _, _, rfl, _, _, rfl, _, _, rfl, rfl, ?_⟩
    refine ⟨_, rfl, _, rfl, t, _, 1, .ref lb, rfl, rfl, SqT.of (w1 _ _ ht), rfl, lb, ws, rfl, .inr (SqT.of (w1 _ _ hlb)), ((ws.length : Nat) : Int), rfl, fun rg hrg => ?_⟩
    have w2 := same_new (o := .rng 0 ((ws.length : Nat) : Int)) hrg
    refine ⟨_, _, rg, rfl, rfl, upd_same, _, rfl, ?_⟩
    rw [decide_eq_true (show (0 : Int) ≤ ((k : Nat) : Int) ∧ ((k : Nat) : Int) < ((ws.length : Nat) : Int) by rw [hT.len]; omega)]
    refine iteF ?_
    have s2 := w1.trans w2
    generalize upd H1 rg (.rng 0 ((ws.length : Nat) : Int)) = H3 at s2 ⊢
    have ha3 := s2 _ _ ha
    refine ⟨_, rfl, _, rfl, a, nats gr, rfl, .inl (SqL.of ha3), rfl, flat_nats gr, _, rfl, ?_⟩
    show if (!inV (V.int ((x : Nat) : Int)) (nats gr)) = true then _ else _
    rw [inV_nats, decide_eq_true hx.2]
    refine iteF ⟨_, rfl, _, rfl, a, nats gr, rfl, .inl (SqL.of ha3), rfl, flat_nats gr, _, rfl, ?_⟩
    show if (!inV (V.int ((y : Nat) : Int)) (nats gr)) = true then _ else _
    rw [inV_nats, decide_eq_true hy.2]
    refine iteF ⟨_, rfl, _, rfl, _, _, rfl, rfl, _, rfl, ?_⟩
    rw [decide_eq_false (by omega)]
    refine iteF ⟨_, rfl, _, rfl, _, rfl, by show 3 ≤ sizeLine; decide, fun d hd => ?_⟩
    have w4 := same_new (o := .lst [V.int ((p : Nat) : Int), V.int ((x : Nat) : Int), V.int ((y : Nat) : Int)]) hd
    have hd4 : upd H3 d (.lst [V.int ((p : Nat) : Int), V.int ((x : Nat) : Int), V.int ((y : Nat) : Int)]) d = some (.lst (nats [p, x, y])) := upd_same
    have s4 := s2.trans w4
    generalize upd H3 d (.lst [V.int ((p : Nat) : Int), V.int ((x : Nat) : Int), V.int ((y : Nat) : Int)]) = H4 at hd4 s4 ⊢
    have gi : ws[k]? = some (ws[k]'(by rw [hT.len]; exact hkl)) := List.getElem?_eq_getElem _
    obtain ⟨db, b', ed, hbs, hdb⟩ := (hT.sm s4).get gi
    rw [hkb] at hbs
    cases hbs
    have all : ∀ z ∈ [p, x, y], z ∈ b := fun z hz => by
      simp only [List.mem_cons, List.not_mem_nil, or_false] at hz
      rcases hz with rfl | rfl | rfl
      · exact hpb
      · exact hx.1
      · exact hy.1
    refine ⟨d, rfl, ⟨_, SqL.of hd4⟩, comp_list (K := K) (a := d) (xs := nats [p, x, y]) (fun i zs H5 => H5 = H4 ∧ zs = (List.replicate i true).map V.bl) ⟨rfl, rfl⟩ (fun i zs H5 _ ⟨e, _⟩ => SqL.of (e ▸ hd4)) ?_ ?_⟩
    · rintro i v zs H5 N hi ⟨rfl, rfl⟩ nx
      obtain ⟨z, hz, rfl⟩ := L2.nats_get hi
      have hil : i < 3 := (List.getElem?_eq_some_iff.mp hz).1
      have hl : ((List.replicate i true).map V.bl).length < sizeLine := by
        rw [rep_len]
        exact Nat.lt_of_lt_of_le hil (by decide)
      refine ⟨Weak.set (by intro v z; cases z), ?_⟩
      refine ⟨_, rfl, _, rfl, t, _, 1, .ref lb, rfl, rfl, SqT.of (s4 _ _ ht), rfl, _, rfl, lb, ws, _, _, rfl, rfl, SqT.of (s4 _ _ hlb), atI_nat gi, db, nats b, ed, .inr (SqT.of hdb), rfl, flat_nats b, ?_⟩
      have e : inV (V.int ((z : Nat) : Int)) (nats b) = true := by
        rw [inV_nats]
        exact decide_eq_true (all z (List.mem_of_getElem? hz))
      refine ⟨hl, nx _ _ ⟨rfl, ?_⟩⟩
      show _ ++ [V.bl (inV (V.int ((z : Nat) : Int)) (nats b))] = _
      rw [e]
      exact rep_snoc ..
    rintro zs H5 ⟨rfl, rfl⟩
    refine ⟨by rw [rep_len]; show 3 ≤ sizeLine; decide, fun r5 hr5 => ⟨r5, _, rfl, SqL.of upd_same, ?_⟩⟩
    rw [rep_all]
    exact q _ (s4.trans (same_new hr5))
def spLRight : Sp := fun vs H Q _ => ∃ (t a u : Addr) (m : Nat) (bs : List (List Nat)) (pts gr : List Nat) (gA sA : Addr) (rws : List V) (R : List (List Nat)), vs = [.ref t, .ref a, .ref u] ∧ LayA H t m bs ∧ m ≤ 60 ∧ (∀ b ∈ bs, Bls m b) ∧ H a = some (.lst (nats pts)) ∧ Bls m pts ∧ Grown H u m bs pts gr gA sA rws R ∧ ∀ H' : Hp, Same H H' → Q (.bl true) H'
theorem sorted_ns {m : Nat} {gr : List Nat} {L ns : List Int} (hg : Bls m gr) (nd : L.Nodup) (mem : ∀ x, x ∈ L ↔ x ∈ gr.map fun p : Nat => (p : Int)) (p : ns.Perm L) (so : ns.Pairwise (· ≤ ·)) : ns = gr.map fun p : Nat => (p : Int) := by
  have ndn : ns.Nodup := p.nodup_iff.mpr nd
  have son : ns.Pairwise (· < ·) := (so.and (List.nodup_iff_pairwise_ne.mp ndn)).imp fun ⟨z1, z2⟩ => by omega
  have sog : (gr.map fun p : Nat => (p : Int)).Pairwise (· < ·) := by
    rw [List.pairwise_map]
    exact hg.so.imp fun z => by omega
  have ndg : (gr.map fun p : Nat => (p : Int)).Nodup := by
    rw [List.nodup_iff_pairwise_ne]
    exact sog.imp fun z => by omega
  exact List.Perm.eq_of_pairwise (le := (· < ·)) (fun _ _ _ _ h1 h2 => by omega) son sog ((List.perm_ext_iff_of_nodup ndn ndg).mpr fun x => (p.mem_iff.trans (mem x)))
theorem nats_ints (b : List Nat) : (b.map fun p : Nat => (p : Int)).map V.int = nats b := by
  unfold nats
  rw [List.map_map]
  rfl
theorem scLRight : FnScope ["_law_layout_here", "_law_points", "_law_found", "_law_grown", "_law_shown"] ["_law_layout_here", "_law_points", "_law_found"] (defScope sLRight) := ⟨rfl, rfl, rfl, by decide +kernel, rfl, by decide +kernel, by decide +kernel⟩
theorem ok_right {f : Addr} {fd : FuncData} (F : Fun K "_law_right" "_law_right" sLRight f fd) (T : TxtB mg) (pLThree : Pm P w K mg base CX0 1 "_law_three" ["_law_layout_here", "_law_points"] spThree) (pLShown : Pm P w K mg base CX0 1 "_law_shown_right" ["_law_layout_here", "_law_points", "_law_row_here"] spShown) : FnOk P w K mg base CX0 2 f fd ["_law_layout_here", "_law_points", "_law_found"] spLRight := by
  refine F.okQ scLRight (fun vs H Q E h => ?_) (fun cdv A outer s H vs Q E hr1 h => ?_)
  · obtain ⟨t, a, u, m, bs, pts, gr, gA, sA, rws, R, rfl, _⟩ := h
    rfl
  · obtain ⟨t, a, u, m, bs, pts, gr, gA, sA, rws, R, rfl, ⟨lb, ws, ht, hlb, hT, hlen⟩, hm, hbk, ha, hp, ⟨tu, tg, ts, hR, hgb, hsub, harc, hfst, hok⟩, q⟩ := h
    have hblk : ∀ b ∈ bs, Blk m b := fun b h => (hbk b h).blk
    refine ⟨_, (qss_cons (qs_if (QW.pt (qw_or (qt_not (qt_val (qe_callB call_isinst (by rfl) T.isi PyProof.Rows.boot_isinstance (qac (qv 2) (qac (qe_bltn (v := .ty "tuple") rfl T.tup (by decide +kernel) rfl) qa_nil))))) (qw_or (qt_cmpR op_ne (qe_callB call_len_seq (by rfl) T.len PySem.boot_len (qac (qv 2) qa_nil)) qe_int (nomark _)) (qw_or1 (qt_not (qt_val (qe_callB (call_all rfl) (by rfl) T.all (by decide +kernel) (qac (qe_comp (g := gName 0) (N := ["_law_part"]) (src := [none]) rfl (comp_scope (defScope sLRight) ["_law_layout_here", "_law_points", "_law_found", "_law_grown", "_law_shown"] rfl rfl (by decide +kernel) rfl) (qi_tup (qv 2)) (fun _ _ _ _ _ => (qg_name (i := 0) (show (["_law_part"] : List Str).Nodup by decide +kernel) rfl (Or.inl rfl) (Or.inr rfl))) (fun _ _ _ _ _ => qif_nil) (fun _ _ _ _ _ => (qe_callB (show CallR _ _ (rInstQ K) from call_isinst) (by rfl) T.isi PyProof.Rows.boot_isinstance (qac (qv 0) (qac (qe_bltn (v := .ty "list") rfl T.lst (by decide +kernel) rfl) qa_nil))))) qa_nil)))))))) (qss_one (qs_ret qe_bl)) qss_nil)
      (qss_cons (qs_asg (qv 2) (qg_tup rfl (qgs_cons (qg_name (i := 3) scLRight.nd rfl (Or.inr rfl)) (qgs_cons (qg_name (i := 4) scLRight.nd rfl (Or.inl rfl)) qgs_nil))))
      (qss_cons (qs_if (qt_val (qe_callB (call_any rfl) (by rfl) T.any (by decide +kernel) (qac (qe_comp (g := gName 0) (N := ["_law_point", "_law_layout_here"]) (src := [none, some 0]) rfl (comp_scope (defScope sLRight) ["_law_layout_here", "_law_points", "_law_found", "_law_grown", "_law_shown"] rfl rfl (by decide +kernel) rfl) (qi_list (qv 3)) (fun _ _ _ _ _ => (qg_name (i := 0) (show (["_law_point", "_law_layout_here"] : List Str).Nodup by decide +kernel) rfl (Or.inl rfl) (Or.inr rfl))) (fun _ _ _ _ _ => qif_nil) (fun _ _ _ _ _ => (qe_or (qe_callB (show CallR _ _ (rInstQ K) from call_isinst) (by rfl) T.isi PyProof.Rows.boot_isinstance (qac (qv 0) (qac (qe_bltn (v := .ty "bool") rfl T.bool (by decide +kernel) rfl) qa_nil))) (qe_one (qe_cmpR op_notInRng (qv 0) (qe_callTy call_rng1 (by rfl) T.range (by decide +kernel) (qac (qe_ix (show IxR _ (rIxT K) from ix_tup) (qv 1) qe_int (fun _ _ => rfl)) qa_nil)) rfl))))) qa_nil))) (qss_one (qs_ret qe_bl)) qss_nil)
      (qss_cons (qs_if (QW.pt (qw_or (qt_cmpR (op_neD hr1.units) (qv 3) (qe_callB (show CallR _ _ (rSortS P w) from call_sortS rfl) (by rfl) T.sor (by decide +kernel) (qac (qe_callTy (show CallR _ _ (rSetW P w K) from call_setW rfl) (by rfl) T.set (by decide +kernel) (qac (qv 3) qa_nil)) qa_nil)) (nomark _)) (qw_or1 (qt_not (qt_val (qe_callB (call_all rfl) (by rfl) T.all (by decide +kernel) (qac (qe_comp (g := gName 0) (N := ["_law_point", "_law_grown"]) (src := [none, some 3]) rfl (comp_scope (defScope sLRight) ["_law_layout_here", "_law_points", "_law_found", "_law_grown", "_law_shown"] rfl rfl (by decide +kernel) rfl) (qi_list (qv 1)) (fun _ _ _ _ _ => (qg_name (i := 0) (show (["_law_point", "_law_grown"] : List Str).Nodup by decide +kernel) rfl (Or.inl rfl) (Or.inr rfl))) (fun _ _ _ _ _ => qif_nil) (fun _ _ _ _ _ => (qe_cmpR (show OpR _ _ (rIn K false) from op_in_seq) (qv 0) (qv 1) rfl))) qa_nil))))))) (qss_one (qs_ret qe_bl)) qss_nil)
      (qss_cons (qs_if (qt_notN (qe_callP pLThree hr1 rfl pass0 (qac (qv 0) (qac (qv 3) qa_nil)))) (qss_one (qs_ret qe_bl)) qss_nil)
      (qss_cons (qs_if (qt_not (qt_val (qe_callB (call_all rfl) (by rfl) T.all (by decide +kernel) (qac (qe_comp (g := gName 0) (N := ["_law_row_here", "_law_layout_here", "_law_grown"]) (src := [none, some 0, some 3]) rfl (comp_scope (defScope sLRight) ["_law_layout_here", "_law_points", "_law_found", "_law_grown", "_law_shown"] rfl rfl (by decide +kernel) rfl) (qi_list (qv 4)) (fun _ _ _ _ _ => (qg_name (i := 0) (show (["_law_row_here", "_law_layout_here", "_law_grown"] : List Str).Nodup by decide +kernel) rfl (Or.inl rfl) (Or.inr rfl))) (fun _ _ _ _ _ => qif_nil) (fun _ _ _ _ _ => (qe_callP pLShown hr1 rfl pass0 (qac (qv 1) (qac (qv 2) (qac (qv 0) qa_nil)))))) qa_nil)))) (qss_one (qs_ret qe_bl)) qss_nil)
      (qss_one (qs_ret (qe_cmpR (op_eqD hr1.units) (qe_comp (g := gName 0) (N := ["_law_row_here"]) (src := [none]) rfl (comp_scope (defScope sLRight) ["_law_layout_here", "_law_points", "_law_found", "_law_grown", "_law_shown"] rfl rfl (by decide +kernel) rfl) (qi_list (qv 4)) (fun _ _ _ _ _ => (qg_name (i := 0) (show (["_law_row_here"] : List Str).Nodup by decide +kernel) rfl (Or.inl rfl) (Or.inr rfl))) (fun _ _ _ _ _ => qif_nil) (fun _ _ _ _ _ => (qe_ix (show IxR _ (rIxT K) from ix_tup) (qv 0) qe_int (fun _ _ => rfl)))) (qe_comp (g := gName 0) (N := ["_law_point", "_law_grown"]) (src := [none, some 3]) rfl (comp_scope (defScope sLRight) ["_law_layout_here", "_law_points", "_law_found", "_law_grown", "_law_shown"] rfl rfl (by decide +kernel) rfl) (qi_range1 rfl T.range (qac (qe_ix ix_tup (qv 0) qe_int (fun _ _ => rfl)) qa_nil)) (fun _ _ _ _ _ => (qg_name (i := 0) (show (["_law_point", "_law_grown"] : List Str).Nodup by decide +kernel) rfl (Or.inl rfl) (Or.inr rfl))) (fun _ _ _ _ _ => (qif_one (qt_cmpR (show OpR _ _ (rIn K true) from op_notIn_seq) (qv 0) (qv 1) rfl))) (fun _ _ _ _ _ => (qv 0))) (nomark _)))))))))), ?_⟩
    have gl : gr.length ≤ 60 := Nat.le_trans hgb.len hm
    have gz : gr.length < sizeLine := Nat.lt_of_le_of_lt gl (by decide)
    refine ⟨_, rfl, _, _, _, _, rfl, .tup tu, rel_ty (kit_tup_tup K), true, rfl, iteF ?_⟩
    refine ⟨_, rfl, u, _, rfl, .inr (SqT.of tu), rfl, _, rfl, iteF ?_⟩
    refine ⟨_, rfl, u, rfl, ⟨_, SqT.of tu⟩, comp_tup (K := K) (xs := [V.ref gA, V.ref sA]) (fun i zs H2 => H2 = H ∧ zs = (List.replicate i true).map V.bl) ⟨rfl, rfl⟩ (fun i zs H2 _ ⟨e, _⟩ => SqT.of (e ▸ tu)) ?_ ?_⟩
    · rintro i v zs H2 N hi ⟨rfl, rfl⟩ nx
      have hil : i < 2 := (List.getElem?_eq_some_iff.mp hi).1
      have hl : ((List.replicate i true).map V.bl).length < sizeLine := by
        rw [rep_len]
        exact Nat.lt_of_lt_of_le hil (by decide)
      refine ⟨Weak.set (by intro v z; cases z), ?_⟩
      match i, hi with
      | 0, hi => cases hi; exact ⟨_, rfl, _, _, _, _, rfl, .lst tg, rel_ty (kit_lst_lst K), hl, nx _ _ ⟨rfl, rep_snoc ..⟩⟩
      | 1, hi => cases hi; exact ⟨_, rfl, _, _, _, _, rfl, .lst ts, rel_ty (kit_lst_lst K), hl, nx _ _ ⟨rfl, rep_snoc ..⟩⟩
      | i + 2, _ => omega
    rintro zs H2 ⟨rfl, rfl⟩
    refine ⟨by rw [rep_len]; show 2 ≤ sizeLine; decide, fun r hr' => ⟨r, _, rfl, SqL.of upd_same, ?_⟩⟩
    rw [rep_all]
    have w1 := same_new (o := .lst ((List.replicate [V.ref gA, V.ref sA].length true).map V.bl)) hr'
    generalize upd H2 r (.lst ((List.replicate [V.ref gA, V.ref sA].length true).map V.bl)) = H1 at w1 ⊢
    refine ⟨_, rfl, iteF ?_⟩
    refine ⟨_, rfl, u, _, rfl, SqT.of (w1 _ _ tu), rfl, _, _, rfl, _, _, rfl, rfl, ?_⟩
    have tg1 := w1 _ _ tg
    refine ⟨_, rfl, gA, rfl, ⟨_, SqL.of tg1⟩, comp_list (K := K) (a := gA) (xs := nats gr) (fun i zs H3 => Same H1 H3 ∧ zs = (List.replicate i false).map V.bl) ⟨Same.refl _, rfl⟩ (fun i zs H3 _ ⟨e, _⟩ => SqL.of (e _ _ tg1)) ?_ ?_⟩
    · rintro i v zs H3 N hi ⟨s3, rfl⟩ nx
      obtain ⟨x, hx, rfl⟩ := L2.nats_get hi
      have hxm := hgb.lt x (List.mem_of_getElem? hx)
      have hl : ((List.replicate i false).map V.bl).length < sizeLine := by
        rw [rep_len]
        exact Nat.lt_of_lt_of_le (List.getElem?_eq_some_iff.mp hx).1 (Nat.le_of_lt gz)
      refine ⟨Weak.set (by intro v z; cases z), _, rfl, _, _, _, _, rfl, .int _, rel_ty (kit_int_bool K), _, rfl, iteF ?_⟩
      refine ⟨_, rfl, _, rfl, t, _, 0, .int (m : Nat), rfl, rfl, SqT.of ((w1.trans s3) _ _ ht), rfl, ((m : Nat) : Int), rfl, fun rg hrg => ⟨_, _, rg, rfl, rfl, upd_same, ?_⟩⟩
      rw [decide_eq_true (show (0 : Int) ≤ ((x : Nat) : Int) ∧ ((x : Nat) : Int) < ((m : Nat) : Int) by omega)]
      exact ⟨hl, nx _ _ ⟨s3.trans (same_new hrg), rep_snoc ..⟩⟩
    rintro zs H3 ⟨s3, rfl⟩
    rw [nats_len]
    refine ⟨by rw [rep_len]; exact Nat.le_of_lt gz, fun r3 hr3 => ⟨r3, _, rfl, SqL.of upd_same, ?_⟩⟩
    rw [rep_any]
    have s4 := (w1.trans s3).trans (same_new (o := .lst ((List.replicate gr.length false).map V.bl)) hr3)
    generalize upd H3 r3 (.lst ((List.replicate gr.length false).map V.bl)) = H4 at s4 ⊢
    refine ⟨_, rfl, iteF ?_⟩
    have tg4 := s4 _ _ tg
    refine ⟨_, rfl, _, rfl, gA, gr.map (fun p : Nat => (p : Int)), rfl, SqL.of (by rw [nats_ints]; exact tg4), by rw [List.length_map]; omega, fun sl L hsl nd mem => ?_⟩
    have w5 := same_new (o := LS P w sl L) hsl
    have L64 : L.length < 64 := by
      have ndg : (gr.map fun p : Nat => (p : Int)).Nodup := by
        rw [List.nodup_iff_pairwise_ne, List.pairwise_map]
        exact hgb.so.imp fun z => by omega
      have := ((List.perm_ext_iff_of_nodup nd ndg).mpr mem).length_eq
      rw [List.length_map] at this
      omega
    refine ⟨sl, L, rfl, upd_same, L64, fun so ns hso p5 so5 => ?_⟩
    rw [sorted_ns hgb nd mem p5 so5, nats_ints]
    have w6 := same_new (o := .lst (nats gr)) hso
    have s6 := s4.trans (w5.trans w6)
    refine ⟨dBlk gr, dBlk gr, isD_blkS (s6 _ _ tg), isD_blkS upd_same, shaped_blk _, shaped_blk _, _, rfl, ?_⟩
    show if (!PyData.eqv (dBlk gr) (dBlk gr)) = true then _ else _
    rw [eqv_blkS, decide_eq_true rfl]
    refine iteF ?_
    generalize upd (upd H4 sl (LS P w sl L)) so (.lst (nats gr)) = H6 at s6 ⊢
    have ha6 := s6 _ _ ha
    have tg6 := s6 _ _ tg
    refine ⟨_, rfl, a, rfl, ⟨_, SqL.of ha6⟩, comp_list (K := K) (a := a) (xs := nats pts) (fun i zs H7 => H7 = H6 ∧ zs = (List.replicate i true).map V.bl) ⟨rfl, rfl⟩ (fun i zs H7 _ ⟨e, _⟩ => SqL.of (e ▸ ha6)) ?_ ?_⟩
    · rintro i v zs H7 N hi ⟨rfl, rfl⟩ nx
      obtain ⟨x, hx, rfl⟩ := L2.nats_get hi
      have hl : ((List.replicate i true).map V.bl).length < sizeLine := by
        rw [rep_len]
        exact Nat.lt_of_lt_of_le (List.getElem?_eq_some_iff.mp hx).1 (Nat.le_trans hp.len (Nat.le_trans hm (by decide)))
      refine ⟨Weak.set (by intro v z; cases z), _, rfl, _, rfl, gA, nats gr, rfl, .inl (SqL.of tg6), rfl, flat_nats gr, hl, nx _ _ ⟨rfl, ?_⟩⟩
      show _ ++ [V.bl (inV (V.int ((x : Nat) : Int)) (nats gr))] = _
      rw [inV_nats, decide_eq_true (hsub x (List.mem_of_getElem? hx))]
      exact rep_snoc ..
    rintro zs H7 ⟨rfl, rfl⟩
    rw [nats_len]
    refine ⟨by rw [rep_len]; exact Nat.le_trans hp.len (Nat.le_trans hm (by decide)), fun r7 hr7 => ⟨r7, _, rfl, SqL.of upd_same, ?_⟩⟩
    rw [rep_all]
    have s8 := s6.trans (same_new (o := .lst ((List.replicate pts.length true).map V.bl)) hr7)
    generalize upd H7 r7 (.lst ((List.replicate pts.length true).map V.bl)) = H8 at s8 ⊢
    refine ⟨_, rfl, iteF ?_⟩
    refine ⟨_, rfl, _, rfl, t, gA, m, bs, gr, rfl, ⟨lb, ws, s8 _ _ ht, s8 _ _ hlb, hT.sm s8, hlen⟩, hm, hblk, s8 _ _ tg, fun v H9 s9 hv => ?_⟩
    have hv : v = .non := by
      rcases hv with ⟨k, b, _, h1, h2, _⟩ | ⟨h, _⟩
      · exact absurd h2 (harc b (List.mem_of_getElem? h1))
      · exact h
    subst hv
    have s09 := s8.trans s9
    refine ⟨_, rfl, ?_⟩
    rw [decide_eq_true rfl]
    refine iteF ?_
    have Rl : R.length ≤ 60 := by
      have := congrArg List.length hfst
      rw [List.length_map] at this
      rw [this]
      exact Nat.le_trans (List.length_filter_le ..) (by rw [List.length_range]; exact hm)
    have rl : rws.length < sizeLine := by
      rw [hR.len]
      exact Nat.lt_of_le_of_lt Rl (by decide)
    refine ⟨_, rfl, sA, rfl, ⟨_, SqL.of (s09 _ _ ts)⟩, comp_list (K := K) (a := sA) (xs := rws) (fun i zs H10 => Same H2 H10 ∧ zs = (List.replicate i true).map V.bl) ⟨s09, rfl⟩ (fun i zs H10 _ ⟨e, _⟩ => SqL.of (e _ _ ts)) ?_ ?_⟩
    · rintro i v zs H10 N hi ⟨s10, rfl⟩ nx
      have hl : ((List.replicate i true).map V.bl).length < sizeLine := by
        rw [rep_len]
        exact Nat.lt_of_lt_of_le (List.getElem?_eq_some_iff.mp hi).1 (Nat.le_of_lt rl)
      obtain ⟨c, r0, rfl, hr0, hc⟩ := (hR.sm s10).get hi
      obtain ⟨p, k, x, y, b, rest, rfl, h2, h3, h4⟩ := hok r0 (List.mem_of_getElem? hr0)
      refine ⟨Weak.set (by intro v z; cases z), _, rfl, _, rfl, _, rfl, t, gA, c, m, bs, gr, p, k, x, y, b, rest, rfl, ⟨lb, ws, s10 _ _ ht, s10 _ _ hlb, hT.sm s10, hlen⟩, hm, hbk, s10 _ _ tg, hc, h2, h3, h4, fun H11 s11 => ⟨hl, nx _ _ ⟨s10.trans s11, rep_snoc ..⟩⟩⟩
    rintro zs H10 ⟨s10, rfl⟩
    refine ⟨by rw [rep_len]; exact Nat.le_of_lt rl, fun r10 hr10 => ⟨r10, _, rfl, SqL.of upd_same, ?_⟩⟩
    rw [rep_all]
    have s11 := s10.trans (same_new (o := .lst ((List.replicate rws.length true).map V.bl)) hr10)
    generalize upd H10 r10 (.lst ((List.replicate rws.length true).map V.bl)) = H11 at s11 ⊢
    refine ⟨_, rfl, iteF ?_⟩
    refine ⟨_, rfl, sA, rfl, ⟨_, SqL.of (s11 _ _ ts)⟩, comp_list (K := K) (a := sA) (xs := rws) (fun i zs H12 => H12 = H11 ∧ zs = nats ((R.take i).map fun r => r.getD 0 0)) ⟨rfl, rfl⟩ (fun i zs H12 _ ⟨e, _⟩ => SqL.of (e ▸ s11 _ _ ts)) ?_ ?_⟩
    · rintro i v zs H12 N hi ⟨rfl, rfl⟩ nx
      obtain ⟨c, r0, rfl, hr0, hc⟩ := (hR.sm s11).get hi
      obtain ⟨p, k, x, y, b, rest, rfl, h2, h3, h4⟩ := hok r0 (List.mem_of_getElem? hr0)
      refine ⟨Weak.set (by intro v z; cases z), _, rfl, c, _, 0, .int ((p : Nat) : Int), rfl, rfl, SqT.of hc, rfl, ?_, nx _ _ ⟨rfl, ?_⟩⟩
      · rw [nats_len, List.length_map, List.length_take]
        exact Nat.lt_of_le_of_lt (Nat.le_trans (Nat.min_le_right ..) Rl) (by decide)
      · rw [take_snoc hr0, List.map_append]
        exact (nats_snoc _ p).symm
    rintro zs H12 ⟨rfl, rfl⟩
    rw [hR.len, List.take_length, hfst]
    generalize hout : ((List.range m).filter fun p => decide (p ∉ gr)) = out
    have ol : ∀ i, ((List.range i).filter fun p => decide (p ∉ gr)).length ≤ i := fun i => Nat.le_trans (List.length_filter_le ..) (by rw [List.length_range]; exact Nat.le_refl _)
    have ol' : out.length ≤ 60 := by
      rw [← hout]
      exact Nat.le_trans (ol m) hm
    refine ⟨by rw [nats_len]; exact Nat.le_trans ol' (by decide), fun r12 hr12 => ?_⟩
    have w12 := same_new (o := .lst (nats out)) hr12
    have hr12' : upd H12 r12 (.lst (nats out)) r12 = some (.lst (nats out)) := upd_same
    have s13 := s11.trans w12
    generalize upd H12 r12 (.lst (nats out)) = H13 at hr12' s13 ⊢
    refine ⟨_, rfl, t, _, 0, .int (m : Nat), rfl, rfl, SqT.of (s13 _ _ ht), rfl, ((m : Nat) : Int), rfl, by omega, by omega, ?_⟩
    rw [Int.toNat_natCast]
    refine comp_rng (lo := 0) (n := m) (fun i zs H14 => H14 = H13 ∧ zs = nats ((List.range i).filter fun p => decide (p ∉ gr))) ⟨rfl, rfl⟩ ?_ ?_
    · rintro i zs H14 N hi ⟨rfl, rfl⟩ nx
      rw [Int.zero_add]
      refine ⟨Weak.set (by intro v z; cases z), ?_⟩
      refine ⟨_, rfl, _, rfl, gA, nats gr, rfl, .inl (SqL.of (s13 _ _ tg)), rfl, flat_nats gr, _, rfl, ?_⟩
      show if (!inV (V.int ((i : Nat) : Int)) (nats gr)) = true then _ else _
      rw [inV_nats]
      have es := out_snoc i gr
      by_cases hig : i ∈ gr
      · rw [decide_eq_true hig]
        rw [if_pos hig] at es
        exact iteF (nx _ _ ⟨rfl, by rw [es]⟩)
      · rw [decide_eq_false hig]
        rw [if_neg hig] at es
        refine iteT ⟨_, rfl, ?_, nx _ _ ⟨rfl, by rw [es, nats_snoc]⟩⟩
        rw [nats_len]
        exact Nat.lt_of_le_of_lt (ol i) (Nat.lt_of_lt_of_le hi (Nat.le_trans hm (by decide)))
    rintro zs H14 ⟨rfl, rfl⟩
    rw [hout]
    refine ⟨by rw [nats_len]; exact Nat.le_trans ol' (by decide), fun r14 hr14 => ?_⟩
    have w14 := same_new (o := .lst (nats out)) hr14
    refine ⟨dBlk out, dBlk out, isD_blkS (w14 _ _ hr12'), isD_blkS upd_same, shaped_blk _, shaped_blk _, ?_⟩
    show Q (V.bl (PyData.eqv (dBlk out) (dBlk out))) _
    rw [eqv_blkS, decide_eq_true rfl]
    exact q _ (s13.trans w14)
def spLBlock : Sp := fun vs H Q _ => ∃ (t a : Addr) (m : Nat) (bs : List (List Nat)) (pts : List Nat) (k : Nat) (b : List Nat), vs = [.ref t, .ref a] ∧ LayA H t m bs ∧ m ≤ 60 ∧ (∀ b ∈ bs, Blk m b) ∧ H a = some (.lst (nats pts)) ∧ Bls m pts ∧ bs[k]? = some b ∧ arcB pts b ∧ (∀ (j : Nat) b', j < k → bs[j]? = some b' → ¬ arcB pts b') ∧ ∀ H' : Hp, Same H H' → Q (.int ((k : Nat) : Int)) H'
theorem scLBlock : FnScope ["_law_layout_here", "_law_points", "_law_block_here", "e", "_law_others"] ["_law_layout_here", "_law_points"] (defScope sLBlock) := ⟨rfl, rfl, rfl, by decide +kernel, rfl, by decide +kernel, by decide +kernel⟩
theorem ok_block {f fI o1 o2 o3 o4 o5 o6 : Addr} {fd fdI : FuncData} (F : Fun K "_law_block" "_law_block" sLBlock f fd) (T : TxtB mg) (D : MarksX K mg M C fI o1 o2 o3 o4 o5 o6 fdI) (pGrown : Pm P w K mg base (CXD P w) 3 "grown_arc" ["M", "points"] (spGrown C)) : FnOk P w K mg base CX0 4 f fd ["_law_layout_here", "_law_points"] spLBlock := by
  refine F.okQ scLBlock (fun vs H Q E h => ?_) (fun cdv A outer s H vs Q E hr3 h => ?_)
  · obtain ⟨t, a, m, bs, pts, k, b, rfl, _⟩ := h
    rfl
  · obtain ⟨t, a, m, bs, pts, k, b, rfl, hL, hm, hbk, ha, hp, hkb, hmb, hf, q⟩ := h
    refine ⟨_, (qss_cons (qs_set (i := 2) scLBlock.nd rfl (Or.inl rfl) qe_non)
      (qss_cons (qs_tryD rfl rfl rfl (fun pn E => qss_one (qs_expr (qe_callP pGrown hr3 rfl (passTD rfl) (qac (qv 0) (qac (qv 1) qa_nil))))) rfl D.mM D.R.eM scLBlock.nd (i := 3) rfl rfl (fun a =>
        (qss_cons (qs_set (i := 4) scLBlock.nd rfl (Or.inl rfl) (qe_callB (show CallR _ _ (rIsDT K) from call_isinstDT D.R.cl) (by rfl) T.isi PyProof.Rows.boot_isinstance (qac (qv 3) (qac (qe_tup (qac (qe_glob (v := .ref o1) rfl D.m1 rfl) (qac (qe_glob (v := .ref o2) rfl D.m2 rfl) (qac (qe_glob (v := .ref o3) rfl D.m3 rfl) (qac (qe_glob (v := .ref o4) rfl D.m4 rfl) (qac (qe_glob (v := .ref o5) rfl D.m5 rfl) (qac (qe_glob (v := .ref o6) rfl D.m6 rfl) qa_nil))))))) qa_nil))))
        (qss_one (qs_if (QW.pt (qw_and (qt_val (qe_callB (show CallR _ _ (rIsD K) from call_isinstD D.R.cl) (by rfl) T.isi PyProof.Rows.boot_isinstance (qac (qv 3) (qac (qe_glob (v := .ref C) rfl D.mC rfl) qa_nil)))) (qw_and (qt_val (qe_callB (show CallR _ _ (rIsD K) from call_isinstD D.R.cl) (by rfl) T.isi PyProof.Rows.boot_isinstance (qac (qv 3) (qac (qe_bltn (v := .ty "ValueError") rfl D.mV (by decide +kernel) rfl) qa_nil)))) (qw_and (qt_not (qt_val (qv 4))) (qw_and1 (qt_not (qt_val (qe_callB (show CallR _ _ (rInstQ K) from call_isinst) (by rfl) T.isi PyProof.Rows.boot_isinstance (qac (show QE _ _ (tXFld K _ _) from qe_xfld (qv 3)) (qac (qe_bltn (v := .ty "bool") rfl T.bool (by decide +kernel) rfl) qa_nil))))))))))
          (qss_one (qs_set (i := 2) scLBlock.nd rfl (Or.inl rfl) (show QE _ _ (tXFld K _ _) from qe_xfld (qv 3)))) qss_nil)))))
      (qss_one (qs_ret (qv 2))))), ?_⟩
    refine ⟨_, rfl, _, rfl, t, a, m, bs, pts, rfl, hL, hm, hbk, ha, hp, fun k' b' hk' hb' hf' dx H1 s1 hdx => ?_, fun hno => absurd hmb (hno b (List.mem_of_getElem? hkb))⟩
    cases first_uniq hkb hmb hf hk' hb' hf'
    refine ⟨C, rfl, D.R.sub, fun x hx => ?_⟩
    have w1 := same_new (o := XD x C (some dx)) hx
    have hdx1 := w1 _ _ hdx
    have hx1 : (upd H1 x (XD x C (some dx))) x = some (XD x C (some dx)) := upd_same
    have s2 := s1.trans w1
    generalize upd H1 x (XD x C (some dx)) = H2 at hdx1 hx1 s2 ⊢
    refine ⟨_, rfl, by show 6 ≤ sizeLine; decide, fun tp htp => ?_⟩
    have w2 := same_new (o := .tup [V.ref o1, V.ref o2, V.ref o3, V.ref o4, V.ref o5, V.ref o6]) htp
    have ht2 : (upd H2 tp (.tup [V.ref o1, V.ref o2, V.ref o3, V.ref o4, V.ref o5, V.ref o6])) tp = some (.tup [V.ref o1, V.ref o2, V.ref o3, V.ref o4, V.ref o5, V.ref o6]) := upd_same
    have s3 := s2.trans w2
    have hx3 := w2 _ _ hx1
    have hdx3 := w2 _ _ hdx1
    generalize upd H2 tp (.tup [V.ref o1, V.ref o2, V.ref o3, V.ref o4, V.ref o5, V.ref o6]) = H3 at ht2 s3 hx3 hdx3 ⊢
    refine ⟨x, C, _, tp, _, false, rfl, hx3, D.R.eC, ht2, kit_nones (cs := [o1, o2, o3, o4, o5, o6]) (fun c hc => ?_), ?_⟩
    · simp only [List.mem_cons, List.not_mem_nil, or_false] at hc
      rcases hc with rfl | rfl | rfl | rfl | rfl | rfl
      · exact D.R.q1
      · exact D.R.q2
      · exact D.R.q3
      · exact D.R.q4
      · exact D.R.q5
      · exact D.R.q6
    refine ⟨_, rfl, x, C, _, _, true, rfl, hx3, D.R.eC, rel_ref D.R.kC, _, rfl, iteT ?_⟩
    refine ⟨_, rfl, x, C, _, _, true, rfl, hx3, D.R.eC, rel_ty D.R.kV, _, rfl, iteT ?_⟩
    refine ⟨_, rfl, _, rfl, iteT ?_⟩
    refine ⟨_, rfl, x, C, fI, dx, _, .int ((k : Nat) : Int), rfl, hx3, hdx3, D.R.O, by rfl, .inl ⟨_, rfl⟩, ?_⟩
    refine ⟨_, _, _, _, rfl, .int _, rel_ty (kit_int_bool K), _, rfl, iteT ?_⟩
    refine ⟨_, rfl, x, C, fI, dx, _, .int ((k : Nat) : Int), rfl, hx3, hdx3, D.R.O, by rfl, .inl ⟨_, rfl⟩, ?_⟩
    exact ⟨_, rfl, q _ s3⟩
theorem cut_len {ns : List Int} (lo hi : Option Int) : ∃ nc : List Int, cutV (ns.map V.int) lo hi = nc.map V.int ∧ nc.length ≤ ns.length := by
  unfold cutV
  refine ⟨(ns.drop (HT.sIx (ns.map V.int).length 0 lo)).take (HT.sIx (ns.map V.int).length (ns.map V.int).length hi - HT.sIx (ns.map V.int).length 0 lo), by rw [List.map_take, List.map_drop], ?_⟩
  rw [List.length_take, List.length_drop]
  omega
theorem ints_blk {m : Nat} {L : List Int} (nd : L.Nodup) (lim : ∀ x ∈ L, 0 ≤ x ∧ x < ((m : Nat) : Int)) : ∃ b : List Nat, L = b.map (fun p : Nat => (p : Int)) ∧ Blk m b := by
  have e : L = (L.map Int.toNat).map (fun p : Nat => (p : Int)) := by
    rw [List.map_map]
    conv => lhs; rw [← List.map_id L]
    refine List.map_congr_left fun x hx => ?_
    have := lim x hx
    show x = ((x.toNat : Nat) : Int)
    omega
  refine ⟨L.map Int.toNat, e, ?_, fun y hy => ?_⟩
  · rw [List.nodup_iff_pairwise_ne, List.pairwise_map]
    refine (List.Pairwise.and_mem.mp (List.nodup_iff_pairwise_ne.mp nd)).imp fun ⟨ha, hb, z⟩ => ?_
    have h1 := lim _ ha
    have h2 := lim _ hb
    omega
  · obtain ⟨x, hx, rfl⟩ := List.mem_map.mp hy
    have := lim x hx
    omega
theorem tp_upd {H : Hp} {c : Addr} {xs ys ws : List V} {bs : List (List Nat)} (hc : H c = some (.lst xs)) (h : TpAt H ws bs) : TpAt (upd H c (.lst ys)) ws bs := h.same fun u zs hu => by
  rw [upd_ne (fun z => by rw [z, hc] at hu; cases hu)]
  exact hu
/-- rows and a None at their end, as data -/
def dRow (r : List Nat) : PyData := .tuple (r.map fun p => PyData.int ((p : Nat) : Int))
def dRws (R : List (List Nat)) : List PyData := R.map dRow ++ [.none]
theorem rws_isD {K : PySem.W.Frag} {H : Hp} : ∀ {vs : List V} {R : List (List Nat)}, TpAt H vs R → IsDs K H (dRws R) (vs ++ [.non])
  | [], [], _ => by
    simp only [dRws, List.map_nil, List.nil_append, IsDs, IsD]
    exact ⟨_, _, rfl, rfl, rfl⟩
  | v :: vs, r :: R, ⟨⟨c, e, h⟩, t⟩ => by
    have ih := rws_isD (K := K) t
    simp only [dRws, List.map_cons, List.cons_append, IsDs]
    refine ⟨v, _, rfl, ?_, ih⟩
    simp only [dRow, IsD]
    exact ⟨c, _, e, SqT.of h, ints_isD' r⟩
theorem lay_rws : ∀ R : List (List Nat), PyData.canLayAll0 (dRws R) = true
  | [] => by simp [dRws, PyData.canLayAll0, PyData.canLay0]
  | r :: R => by
    have ih := lay_rws R
    have h1 := lay_ints' r
    simp only [dRws] at ih
    simp only [dRws, List.map_cons, List.cons_append, PyData.canLayAll0, PyData.canLay0, dRow, h1, ih, Bool.and_self]
theorem depth_rws : ∀ R : List (List Nat), PyData.depthAll (dRws R) ≤ 2
  | [] => by simp [dRws, PyData.depthAll, PyData.depth]
  | r :: R => by
    have ih := depth_rws R
    have h1 := depth_ints' r
    simp only [dRws] at ih
    simp only [dRws, List.map_cons, List.cons_append, PyData.depthAll, PyData.depth, dRow]
    omega
theorem eqv_rws : ∀ R : List (List Nat), PyData.eqvAll (dRws R) (dRws R) = true
  | [] => by simp [dRws, PyData.eqvAll, PyData.eqv]
  | r :: R => by
    have ih := eqv_rws R
    have h1 := eqv_ints' r
    simp only [dRws] at ih
    simp only [dRws, List.map_cons, List.cons_append, PyData.eqvAll, PyData.eqv, dRow, h1, ih, Bool.and_self]
def dFound (kp : List Nat) (R : List (List Nat)) : PyData := .list [dBlk kp, .list (dRws R)]
theorem found_isD {K : PySem.W.Frag} {H : Hp} {a k s : Addr} {kp : List Nat} {vs : List V} {R : List (List Nat)} (ha : H a = some (.lst [.ref k, .ref s])) (hk : H k = some (.lst (nats kp))) (hs : H s = some (.lst (vs ++ [.non]))) (hR : TpAt H vs R) : IsD K H (dFound kp R) (.ref a) := by
  have h1 := isD_blkS (K := K) hk
  simp only [dFound, IsD, IsDs]
  exact ⟨a, _, rfl, SqL.of ha, _, _, rfl, h1, _, _, rfl, ⟨s, _, rfl, SqL.of hs, rws_isD hR⟩, rfl⟩
theorem found_shaped (kp : List Nat) (R : List (List Nat)) : PySem.SeqAt.shaped (dFound kp R) = true := by
  unfold PySem.SeqAt.shaped dFound
  rw [Bool.and_eq_true]
  have h1 := lay_ints' kp
  have h2 := lay_rws R
  have h3 := depth_ints' kp
  have h4 := depth_rws R
  refine ⟨by simp only [PyData.canLay0, PyData.canLayAll0, dBlk, h1, h2, Bool.and_self], decide_eq_true ?_⟩
  simp only [PyData.depth, PyData.depthAll, dBlk]
  omega
theorem found_eqv (kp : List Nat) (R : List (List Nat)) : PyData.eqv (dFound kp R) (dFound kp R) = true := by
  have h1 := eqv_ints' kp
  have h2 := eqv_rws R
  simp only [dFound, dBlk, PyData.eqv, PyData.eqvAll, h1, h2, Bool.and_self]
theorem scLaw : FnScope ["_law_script", "_law_layout_here", "_law_k", "_law_xs", "_law_points", "_law_handed", "_law_due", "_law_found", "_law_kept"] ["_law_script"] (defScope sLaw) := ⟨rfl, rfl, rfl, by decide +kernel, rfl, by decide +kernel, by decide +kernel⟩
theorem ok_law {f : Addr} {fd : FuncData} (F : Fun K "law" "law" sLaw f fd) (T : TxtB mg) (pCell : Pm P w K mg base CX0 1 "_law_cell" ["_law_script", "_law_k"] (spCell2 K)) (pLNumbers : Pm P w K mg base CX0 1 "_law_numbers" ["_law_cell_here", "_law_many"] spNums) (pLLayout : Pm P w K mg base CX0 4 "_law_layout" ["_law_script", "_law_at"] (spLLayout K)) 
    (pGrown : Pm P w K mg base (CXD P w) 3 "grown_arc" ["M", "points"] (spGrown C)) (pLThree : Pm P w K mg base CX0 1 "_law_three" ["_law_layout_here", "_law_points"] spThree) (pLRight : Pm P w K mg base CX0 2 "_law_right" ["_law_layout_here", "_law_points", "_law_found"] spLRight) (pLBlock : Pm P w K mg base CX0 4 "_law_block" ["_law_layout_here", "_law_points"] spLBlock) : FnOk P w K mg base CX0 12 f fd ["_law_script"] (spLaw K) := by
  refine F.okQ scLaw (fun vs H Q E h => ?_) (fun cdv A outer s H vs Q E hr h => ?_)
  · obtain ⟨a, ns, rfl, _⟩ := h
    rfl
  · obtain ⟨a, ns, rfl, hS, hns, k⟩ := h
    have hr1 := hr.mono (show 1 ≤ 11 by decide)
    have hr2 := hr.mono (show 2 ≤ 11 by decide)
    have hr3 := hr.mono (show 3 ≤ 11 by decide)
    have hr4 := hr.mono (show 4 ≤ 11 by decide)
    refine ⟨_, (qss_cons (qs_set (i := 1) scLaw.nd rfl (Or.inr rfl) (qe_callP pLLayout hr4 rfl pass0 (qac (qv 0) (qac qe_int qa_nil))))
      (qss_cons (qs_for PassesOwn.never rfl (qi_range2 rfl T.range (qac qe_int (qac (qe_callB (call_max2 rfl) (by rfl) T.max PyProof.Rows.boot_max (qac qe_int (qac (qe_callB (call_min2 rfl) (by rfl) T.min PyProof.Rows.boot_min (qac (qe_callB call_len_seq (by rfl) T.len PySem.boot_len (qac (qv 0) qa_nil)) (qac qe_int qa_nil))) qa_nil))) qa_nil))) (qg_name (i := 2) scLaw.nd rfl (Or.inl rfl))
        (qss_cons (qs_set (i := 3) scLaw.nd rfl (Or.inl rfl) (qe_callP pLNumbers hr1 rfl pass0 (qac (qe_callP pCell hr1 rfl pass0 (qac (qv 0) (qac (qv 2) qa_nil))) (qac qe_int qa_nil))))
        (qss_cons (qs_set (i := 4) scLaw.nd rfl (Or.inl rfl) (qe_callB (show CallR _ _ (rSortS P w) from call_sortS rfl) (by rfl) T.sor (by decide +kernel) (qac (qe_callTy (show CallR _ _ (rSetW P w K) from call_setW rfl) (by rfl) T.set (by decide +kernel) (qac (qe_comp (g := gName 0) (N := ["_law_x", "_law_layout_here"]) (src := [none, some 1]) rfl (comp_scope (defScope sLaw) ["_law_script", "_law_layout_here", "_law_k", "_law_xs", "_law_points", "_law_handed", "_law_due", "_law_found", "_law_kept"] rfl rfl (by decide +kernel) rfl) (qi_list (qe_slice sl_list (qv 3) (qo_some qe_int) (qo_some (qe_op op_add qe_int (qe_op op_mod (qe_ix ix_list (qv 3) qe_int (fun _ _ => rfl)) qe_int))))) (fun _ _ _ _ _ => (qg_name (i := 0) (show (["_law_x", "_law_layout_here"] : List Str).Nodup by decide +kernel) rfl (Or.inl rfl) (Or.inr rfl))) (fun _ _ _ _ _ => qif_nil) (fun _ _ _ _ _ => (qe_op op_mod (qv 0) (qe_ix (show IxR _ (rIxT K) from ix_tup) (qv 1) qe_int (fun _ _ => rfl))))) qa_nil)) qa_nil)))
        (qss_cons (qs_set (i := 5) scLaw.nd rfl (Or.inl rfl) (qe_callTy call_list_of (by rfl) T.lst (by decide +kernel) (qac (qv 4) qa_nil)))
        (qss_cons (qs_set (i := 6) scLaw.nd rfl (Or.inl rfl) (qe_callP pLThree hr1 rfl pass0 (qac (qv 1) (qac (qv 4) qa_nil))))
        (qss_cons (qs_if (qt_notN (qv 6)) (qss_one (qs_if (qt_cmpR op_ne (qe_callP pLBlock hr4 rfl pass0 (qac (qv 1) (qac (qv 5) qa_nil))) (qv 6) (nomark _)) (qss_one (qs_ret qe_bl)) qss_nil)) (qss_cons (qs_set (i := 7) scLaw.nd rfl (Or.inl rfl) (qe_callP pGrown hr3 rfl passND (qac (qv 1) (qac (qv 5) qa_nil))))
          (qss_cons (qs_if (qt_not (qt_val (qe_callP pLRight hr2 rfl pass0 (qac (qv 1) (qac (qv 4) (qac (qv 7) qa_nil)))))) (qss_one (qs_ret qe_bl)) qss_nil)
          (qss_cons (qs_expr (qe_bm PySem.F.plainAttrs_list PySem.F.slot_list_append PySem.F.type_list_append mt_append (qe_ix ix_tup (qv 7) qe_int (fun _ _ => rfl)) (qac qe_int qa_nil)))
          (qss_cons (qs_expr (qe_bm PySem.F.plainAttrs_list PySem.F.slot_list_append PySem.F.type_list_append mt_append (qe_ix ix_tup (qv 7) qe_int (fun _ _ => rfl)) (qac qe_non qa_nil)))
          (qss_cons (qs_set (i := 8) scLaw.nd rfl (Or.inl rfl) (qe_lst (qac (qe_callTy call_list_of (by rfl) T.lst (by decide +kernel) (qac (qe_ix ix_tup (qv 7) qe_int (fun _ _ => rfl)) qa_nil)) (qac (qe_callTy call_list_of (by rfl) T.lst (by decide +kernel) (qac (qe_ix ix_tup (qv 7) qe_int (fun _ _ => rfl)) qa_nil)) qa_nil))))
          (qss_one (qs_if (QW.pt (qw_or (qt_not (qt_val (qe_callP pLRight hr2 rfl pass0 (qac (qv 1) (qac (qv 4) (qac (qe_callP pGrown hr3 rfl passND (qac (qv 1) (qac (qv 5) qa_nil))) qa_nil)))))) (qw_or1 (qt_cmpR (op_neD hr.units) (qe_callTy call_list_of (by rfl) T.lst (by decide +kernel) (qac (qv 7) qa_nil)) (qv 8) (nomark _))))) (qss_one (qs_ret qe_bl)) qss_nil))))))))
        (qss_one (qs_if (qt_cmpR (op_neD hr.units) (qv 5) (qv 4) (nomark _)) (qss_one (qs_ret qe_bl)) qss_nil))))))))
      (qss_one (qs_ret qe_bl)))), ?_⟩
    refine ⟨_, rfl, a, ns, 0, rfl, hS, by decide, fun t l m ws bs H1 ht0 s1 ht hl hT hm1 hm9 hn hb => ?_⟩
    obtain ⟨hi, ehi, h4, h8⟩ := hi_ok (ns.map V.int).length
    refine ⟨_, rfl, a, _, rfl, .inl (s1.seq hS), _, _, rfl, _, _, rfl, 2, (hi : Int), ?_, ⟨by omega, by omega, by omega, by omega⟩, ?_⟩
    · rw [← ehi]
    refine for_range (lo := 2) (n := ((hi : Int) - 2).toNat) (fun i σ H2 => Same H H2 ∧ Same H1 H2 ∧ ∃ x2 x3 x4 x5 x6 x7 x8, σ = [some (.ref a), some (.ref t), x2, x3, x4, x5, x6, x7, x8]) ⟨s1, Same.refl _, none, none, none, none, none, none, none, rfl⟩ ?_ ?_
    rotate_left
    · rintro σ H2 ⟨s2, _, x2, x3, x4, x5, x6, x7, x8, rfl⟩
      exact k _
    rintro i σ H2 hi2 ⟨s02, s2, x2, x3, x4, x5, x6, x7, x8, rfl⟩
    rw [show ((2 : Int) + ((i : Nat) : Int)) = ((2 + i : Nat) : Int) by omega]
    have hblk : ∀ b ∈ bs, Blk m b := fun b h => (hb b h).blk
    refine ⟨_, rfl, _, rfl, a, ns, 2 + i, rfl, s02.seq hS, by omega, fun c H3 s3 => ⟨c, 5, rfl, by decide, fun lx ms H4 hlx s4 hx4 hml hms => ?_⟩⟩
    obtain ⟨x0, ex0, hxm0⟩ := at_ok (ns := ms) (i := 0) (by omega)
    have s14 := s2.trans (s3.trans s4)
    have ht4 := s14 _ _ ht
    obtain ⟨nc, ecut, ncl⟩ := cut_len (ns := ms) (some 1) (some (1 + x0 % 5))
    refine ⟨_, rfl, _, rfl, _, rfl, lx, _, 0, .int x0, rfl, rfl, SqL.of hx4, ex0, _, _, rfl, rfl, (by decide : (0 : Int) < 5), _, _, rfl, rfl, _, rfl, lx, _, rfl, SqL.of hx4, fun dc hdc => ?_⟩
    rw [ecut]
    have wc := same_new (o := .lst (nc.map V.int)) hdc
    have hdc5 : upd H4 dc (.lst (nc.map V.int)) dc = some (.lst (nc.map V.int)) := upd_same
    have s15 := s14.trans wc
    generalize upd H4 dc (.lst (nc.map V.int)) = H4' at hdc5 s15 ⊢
    have hm0 : (0 : Int) < ((m : Nat) : Int) := by omega
    refine ⟨dc, rfl, ⟨_, SqL.of hdc5⟩, comp_list (K := K) (a := dc) (xs := nc.map V.int) (fun i zs H5 => H5 = H4' ∧ zs = ((nc.take i).map fun z => z % ((m : Nat) : Int)).map V.int) ⟨rfl, rfl⟩ (fun i zs H5 _ ⟨e, _⟩ => SqL.of (e ▸ hdc5)) ?_ ?_⟩
    · rintro i v zs H5 N hi' ⟨rfl, rfl⟩ nx
      rw [List.getElem?_map] at hi'
      cases hz : nc[i]? with
      | none => rw [hz] at hi'; cases hi'
      | some z =>
        rw [hz] at hi'
        cases hi'
        refine ⟨Weak.set (by intro v z; cases z), _, rfl, _, rfl, t, _, 0, .int (m : Nat), rfl, rfl, SqT.of (s15 _ _ ht), rfl, _, _, rfl, rfl, hm0, ?_, nx _ _ ⟨rfl, ?_⟩⟩
        · rw [List.length_map, List.length_map, List.length_take]
          exact Nat.lt_of_le_of_lt (show _ ≤ 5 by omega) (by decide)
        · rw [take_snoc hz, List.map_append, List.map_append]
          rfl
    rintro zs H5 ⟨rfl, rfl⟩
    rw [show nc.take (nc.map V.int).length = nc by rw [List.length_map, List.take_length]]
    refine ⟨by rw [List.length_map, List.length_map]; exact Nat.le_trans (show nc.length ≤ 5 by omega) (by decide), fun rs hrs => ?_⟩
    refine ⟨rs, nc.map fun z => z % ((m : Nat) : Int), rfl, SqL.of upd_same, by rw [List.length_map]; omega, fun sl L hsl nd mem => ?_⟩
    have lim : ∀ x ∈ L, 0 ≤ x ∧ x < ((m : Nat) : Int) := fun x hx => by
      obtain ⟨z, _, rfl⟩ := List.mem_map.mp ((mem x).mp hx)
      exact ⟨Int.emod_nonneg _ (by omega), Int.emod_lt_of_pos _ hm0⟩
    obtain ⟨bL, eL, bLb⟩ := ints_blk nd lim
    refine ⟨sl, L, rfl, upd_same, by rw [eL, List.length_map]; have := bLb.len; omega, fun u ns' hu p5 so5 => ?_⟩
    obtain ⟨b, eb, hbb0⟩ := ints_blk (p5.nodup_iff.mpr nd) (fun x hx => lim x (p5.mem_iff.mp hx))
    have hbb : Bls m b := blk_sorted hbb0 (by
      rw [eb, List.pairwise_map] at so5
      exact so5.imp fun z => by omega)
    rw [eb, nats_ints]
    have wr := same_new (o := .lst ((nc.map fun z => z % ((m : Nat) : Int)).map V.int)) hrs
    have wl := same_new (o := LS P w sl L) hsl
    have s5' := s15.trans (wr.trans wl)
    generalize upd (upd H5 rs (.lst ((nc.map fun z => z % ((m : Nat) : Int)).map V.int))) sl (LS P w sl L) = H5' at s5' hu ⊢
    refine ⟨_, rfl, u, _, rfl, .inl (SqL.of upd_same), fun u2 hu2 => ?_⟩
    have v5 := same_new (o := .lst (nats b)) hu
    have v6 := same_new (o := .lst (nats b)) hu2
    have hu6 : upd (upd H5' u (.lst (nats b))) u2 (.lst (nats b)) u = some (.lst (nats b)) := v6 _ _ upd_same
    have hu26 : upd (upd H5' u (.lst (nats b))) u2 (.lst (nats b)) u2 = some (.lst (nats b)) := upd_same
    have s6 : Same H1 (upd (upd H5' u (.lst (nats b))) u2 (.lst (nats b))) := s5'.trans (v5.trans v6)
    generalize upd (upd H5' u (.lst (nats b))) u2 (.lst (nats b)) = H6 at hu6 hu26 s6 ⊢
    have hL6 : LayA H6 t m bs := ⟨l, ws, s6 _ _ ht, s6 _ _ hl, hT.sm s6, by omega⟩
    have hm60 : m ≤ 60 := by omega
    refine ⟨_, rfl, _, rfl, t, u, m, bs, b, rfl, hL6, hm60, hblk, hu6, fun v H7 s7 hv => ?_⟩
    dsimp only
    refine seqVia (fun σ' H' => Same H6 H' ∧ ∃ x2 x3 x6 x7 x8, σ' = [some (.ref a), some (.ref t), x2, x3, some (.ref u), some (.ref u2), x6, x7, x8]) ?_ (fun D' go => ?_)
    · rintro σ' H8 ⟨s8, y2, y3, y6, y7, y8, rfl⟩
      refine ⟨_, rfl, _, rfl, dBlk b, dBlk b, isD_blkS (s8 _ _ hu26), isD_blkS (s8 _ _ hu6), shaped_blk b, shaped_blk b, _, rfl, ?_⟩
      show if (!PyData.eqv (dBlk b) (dBlk b)) = true then _ else _
      rw [eqv_blkS, decide_eq_true rfl]
      refine iteF ?_
      exact ⟨s1.trans (s6.trans s8), s6.trans s8, _, _, _, _, _, _, _, rfl⟩
    have hL7 := hL6.sm s7
    have hu7 := s7 _ _ hu6
    have hu27 := s7 _ _ hu26
    rcases hv with ⟨k', b', rfl, hk', hb', hf'⟩ | ⟨rfl, hno⟩
    · refine ⟨_, rfl, _, rfl, ?_⟩
      rw [decide_eq_false (show ¬ V.int ((k' : Nat) : Int) = V.non from fun z => by cases z)]
      refine iteT ⟨_, rfl, _, rfl, t, u2, m, bs, b, k', b', rfl, hL7, hm60, hblk, hu27, hbb, hk', hb', hf', fun H8 s8 => ?_⟩
      refine ⟨_, rfl, rfl, _, rfl, ?_⟩
      rw [decide_eq_true rfl]
      exact iteF (go _ _ ⟨s7.trans s8, _, _, _, _, _, rfl⟩)
    refine ⟨_, rfl, _, rfl, ?_⟩
    rw [decide_eq_true rfl]
    refine iteF ⟨_, rfl, _, rfl, t, u2, m, bs, b, rfl, hL7, hm60, hblk, hu27, hbb, fun k' b' hk' hb' => absurd hb' (hno b' (List.mem_of_getElem? hk')), fun _ g kp kA sA rws R H8 hkA hsA hks s8 hG => ?_⟩
    refine ⟨_, rfl, _, rfl, _, rfl, t, u, g, m, bs, b, kp, kA, sA, rws, R, rfl, hL7.sm s8, hm60, hb, s8 _ _ hu7, hbb, hG, fun H9 s9 => ⟨_, rfl, iteF ?_⟩⟩
    obtain ⟨gu, gk, gs, gR, gb, gsub, garc, gf, gok⟩ := hG
    have s79 := s8.trans s9
    have gu9 := s9 _ _ gu
    have gk9 := s9 _ _ gk
    have gs9 := s9 _ _ gs
    have gR9 := gR.sm s9
    have kl : kp.length ≤ 60 := Nat.le_trans gb.len hm60
    have kl' : (nats kp).length < sizeLine := by rw [nats_len]; exact Nat.lt_of_le_of_lt kl (by decide)
    have rl' : rws.length < sizeLine := by
      have e := congrArg List.length gf
      rw [List.length_map] at e
      rw [gR.len, e]
      exact Nat.lt_of_le_of_lt (Nat.le_trans (List.length_filter_le ..) (by rw [List.length_range]; exact hm60)) (by decide)
    refine ⟨_, rfl, g, _, 0, .ref kA, rfl, rfl, SqT.of gu9, rfl, .inl ⟨rfl, _, SqL.of gk9⟩, kA, _, _, rfl, rfl, gk9, kl', ?_⟩
    have e99 : nats kp ++ [V.int 99] = nats (kp ++ [99]) := (nats_snoc kp 99).symm
    rw [e99]
    have ngk : g ≠ kA := fun z => by rw [z, gk9] at gu9; cases gu9
    have ngs : g ≠ sA := fun z => by rw [z, gs9] at gu9; cases gu9
    have gu10 : upd H9 kA (.lst (nats (kp ++ [99]))) g = some (.tup [.ref kA, .ref sA]) := by rw [upd_ne ngk]; exact gu9
    have gs10 : upd H9 kA (.lst (nats (kp ++ [99]))) sA = some (.lst rws) := by rw [upd_ne (Ne.symm hks)]; exact gs9
    have gk10 : upd H9 kA (.lst (nats (kp ++ [99]))) kA = some (.lst (nats (kp ++ [99]))) := upd_same
    have gR10 : TpAt (upd H9 kA (.lst (nats (kp ++ [99])))) rws R := tp_upd gk9 gR9
    have s10 : Same H7 (upd H9 kA (.lst (nats (kp ++ [99])))) := same_upd s79 hkA
    generalize upd H9 kA (.lst (nats (kp ++ [99]))) = H10 at gu10 gs10 gk10 gR10 s10 ⊢
    refine ⟨_, rfl, g, _, 1, .ref sA, rfl, rfl, SqT.of gu10, rfl, .inl ⟨rfl, _, SqL.of gs10⟩, sA, _, _, rfl, rfl, gs10, rl', ?_⟩
    have gu11 : upd H10 sA (.lst (rws ++ [.non])) g = some (.tup [.ref kA, .ref sA]) := by rw [upd_ne ngs]; exact gu10
    have gk11 : upd H10 sA (.lst (rws ++ [.non])) kA = some (.lst (nats (kp ++ [99]))) := by rw [upd_ne hks]; exact gk10
    have gs11 : upd H10 sA (.lst (rws ++ [.non])) sA = some (.lst (rws ++ [.non])) := upd_same
    have gR11 : TpAt (upd H10 sA (.lst (rws ++ [.non]))) rws R := tp_upd gs10 gR10
    have s11 : Same H7 (upd H10 sA (.lst (rws ++ [.non]))) := same_upd s10 hsA
    generalize upd H10 sA (.lst (rws ++ [.non])) = H11 at gu11 gs11 gk11 gR11 s11 ⊢
    refine ⟨_, rfl, g, _, 0, .ref kA, rfl, rfl, SqT.of gu11, rfl, kA, _, rfl, .inl (SqL.of gk11), fun c1 hc1 => ?_⟩
    have w1 := same_new (o := .lst (nats (kp ++ [99]))) hc1
    refine ⟨_, rfl, g, _, 1, .ref sA, rfl, rfl, SqT.of (w1 _ _ gu11), rfl, sA, _, rfl, .inl (SqL.of (w1 _ _ gs11)), fun c2 hc2 => ⟨by show 2 ≤ sizeLine; decide, fun c3 hc3 => ?_⟩⟩
    have w2 := same_new (o := .lst (rws ++ [.non])) hc2
    have w3 := same_new (o := .lst [V.ref c1, V.ref c2]) hc3
    have w123 := w1.trans (w2.trans w3)
    have q1 : upd (upd (upd H11 c1 (.lst (nats (kp ++ [99])))) c2 (.lst (rws ++ [.non]))) c3 (.lst [V.ref c1, V.ref c2]) c1 = some (.lst (nats (kp ++ [99]))) := (w2.trans w3) _ _ upd_same
    have q2 : upd (upd (upd H11 c1 (.lst (nats (kp ++ [99])))) c2 (.lst (rws ++ [.non]))) c3 (.lst [V.ref c1, V.ref c2]) c2 = some (.lst (rws ++ [.non])) := w3 _ _ upd_same
    have q3 : upd (upd (upd H11 c1 (.lst (nats (kp ++ [99])))) c2 (.lst (rws ++ [.non]))) c3 (.lst [V.ref c1, V.ref c2]) c3 = some (.lst [V.ref c1, V.ref c2]) := upd_same
    have s12 := s11.trans w123
    have gu12 := w123 _ _ gu11
    have gk12 := w123 _ _ gk11
    have gs12 := w123 _ _ gs11
    have gR12 := gR11.sm w123
    generalize upd (upd (upd H11 c1 (.lst (nats (kp ++ [99])))) c2 (.lst (rws ++ [.non]))) c3 (.lst [V.ref c1, V.ref c2]) = H12 at q1 q2 q3 s12 gu12 gk12 gs12 gR12 ⊢
    refine ⟨_, rfl, _, rfl, _, rfl, _, rfl, t, u2, m, bs, b, rfl, hL7.sm s12, hm60, hblk, s12 _ _ hu27, hbb, fun k' b' hk' hb' => absurd hb' (hno b' (List.mem_of_getElem? hk')), fun _ g' kp' kA' sA' rws' R' H13 hkA' hsA' hks' s13 hG' => ?_⟩
    refine ⟨t, u, g', m, bs, b, kp', kA', sA', rws', R', rfl, (hL7.sm s12).sm s13, hm60, hb, s13 _ _ (s12 _ _ hu7), hbb, hG', fun H14 s14' => ⟨_, rfl, iteF ?_⟩⟩
    have s24 := s13.trans s14'
    refine ⟨_, rfl, g, _, rfl, .inr (SqT.of (s24 _ _ gu12)), fun c4 hc4 => ⟨_, rfl, ?_⟩⟩
    have w4 := same_new (o := .lst [V.ref kA, V.ref sA]) hc4
    have s25 := s24.trans w4
    refine ⟨dFound (kp ++ [99]) R, dFound (kp ++ [99]) R, found_isD upd_same (s25 _ _ gk12) (s25 _ _ gs12) (gR12.sm s25), found_isD (s25 _ _ q3) (s25 _ _ q1) (s25 _ _ q2) (gR12.sm s25), found_shaped _ _, found_shaped _ _, _, rfl, ?_⟩
    show if (!PyData.eqv (dFound (kp ++ [99]) R) (dFound (kp ++ [99]) R)) = true then _ else _
    rw [found_eqv]
    exact iteF (go _ _ ⟨s7.trans (s12.trans s25), _, _, _, _, _, rfl⟩)
end
end E1
namespace E1
open PySem L2
theorem all_mk {l : PySem.W.OpenLaw} {w : World} {K : PySem.W.Frag} {h : Heap} {mg : Str → Option Value} {fa : Addr} (X : K.In h) (G : h.Ns mainGlobals mg) (hfa : mg "law" = some (.ref fa))
    (N : PySem.W.nsIn K mainGlobals "isinstance" = some none ∧ PySem.W.nsIn K mainGlobals "int" = some none ∧ PySem.W.nsIn K mainGlobals "bool" = some none ∧ PySem.W.nsIn K mainGlobals "abs" = some none ∧ PySem.W.nsIn K mainGlobals "len" = some none ∧ PySem.W.nsIn K mainGlobals "range" = some none ∧ PySem.W.nsIn K mainGlobals "tuple" = some none ∧ PySem.W.nsIn K mainGlobals "list" = some none ∧ PySem.W.nsIn K mainGlobals "sorted" = some none ∧ PySem.W.nsIn K mainGlobals "all" = some none ∧ PySem.W.nsIn K mainGlobals "set" = some none ∧ PySem.W.nsIn K mainGlobals "zip" = some none ∧ PySem.W.nsIn K mainGlobals "enumerate" = some none ∧ PySem.W.nsIn K mainGlobals "any" = some none ∧ PySem.W.nsIn K mainGlobals "max" = some none ∧ PySem.W.nsIn K mainGlobals "min" = some none ∧ PySem.W.nsIn K mainGlobals "str" = some none ∧ PySem.W.nsIn K mainGlobals "sum" = some none)
    (R : ∃ (M C fI o1 o2 o3 o4 o5 o6 : Addr) (fd : FuncData), RefsX K M C fI o1 o2 o3 o4 o5 o6 fd)
    (AMarksOf : At K "marks_of" sMarksOf) (AArcTold : At K "arc_told" sArcTold) (AGrownArc : At K "grown_arc" sGrownArc) (ATwoBeside : At K "two_beside" sTwoBeside) (AMarkedOf : At K "marked_of" sMarkedOf) (AAllMarked : At K "all_marked" sAllMarked) (ACell : At K "_law_cell" sCell) (ALNumbers : At K "_law_numbers" sLNumbers) (ALRow : At K "_law_row" sLRow) (ALMask : At K "_law_mask" sLMask) (ALOfSize : At K "_law_of_size" sLOfSize) (ALAllSets : At K "_law_all_sets" sLAllSets) (ALTurnedBase : At K "_law_turned_base" sLTurnedBase) (ALEvenBlocks : At K "_law_even_blocks" sLEvenBlocks) (ALLayout : At K "_law_layout" sLLayout) (ALThree : At K "_law_three" sLThree) (ALShownRight : At K "_law_shown_right" sLShownRight) (ALRight : At K "_law_right" sLRight) (ALBlock : At K "_law_block" sLBlock) (ALaw : At K "law" sLaw) :
    ∃ fd : FuncData, (∀ (s : Shared) (v : Value), BindsTo s fd ⟨[v], []⟩ [("_law_script", v)]) ∧ ∀ base : Heap, K.In base → base.Ns mainGlobals mg → FnOk l.prog w K mg base CX0 12 fa fd ["_law_script"] (spLaw K) := by
  obtain ⟨n0, n1, n2, n3, n4, n5, n6, n7, n8, n9, n10, n11, n12, n13, n14, n15, n16, n17⟩ := N
  have T : TxtB mg := ⟨PySem.W.mg_none_of X G n0, PySem.W.mg_none_of X G n1, PySem.W.mg_none_of X G n2, PySem.W.mg_none_of X G n3, PySem.W.mg_none_of X G n4, PySem.W.mg_none_of X G n5, PySem.W.mg_none_of X G n6, PySem.W.mg_none_of X G n7, PySem.W.mg_none_of X G n8, PySem.W.mg_none_of X G n9, PySem.W.mg_none_of X G n10, PySem.W.mg_none_of X G n11, PySem.W.mg_none_of X G n12, PySem.W.mg_none_of X G n13, PySem.W.mg_none_of X G n14, PySem.W.mg_none_of X G n15, PySem.W.mg_none_of X G n16, PySem.W.mg_none_of X G n17⟩
  obtain ⟨M, C, fI, o1, o2, o3, o4, o5, o6, fdI, R⟩ := R
  have D := marksX_of X G R
  obtain ⟨fMarksOf, fdMarksOf, aMarksOf, FMarksOf⟩ := AMarksOf
  obtain ⟨fArcTold, fdArcTold, aArcTold, FArcTold⟩ := AArcTold
  obtain ⟨fGrownArc, fdGrownArc, aGrownArc, FGrownArc⟩ := AGrownArc
  obtain ⟨fTwoBeside, fdTwoBeside, aTwoBeside, FTwoBeside⟩ := ATwoBeside
  obtain ⟨fMarkedOf, fdMarkedOf, aMarkedOf, FMarkedOf⟩ := AMarkedOf
  obtain ⟨fAllMarked, fdAllMarked, aAllMarked, FAllMarked⟩ := AAllMarked
  obtain ⟨fCell, fdCell, aCell, FCell⟩ := ACell
  obtain ⟨fLNumbers, fdLNumbers, aLNumbers, FLNumbers⟩ := ALNumbers
  obtain ⟨fLRow, fdLRow, aLRow, FLRow⟩ := ALRow
  obtain ⟨fLMask, fdLMask, aLMask, FLMask⟩ := ALMask
  obtain ⟨fLOfSize, fdLOfSize, aLOfSize, FLOfSize⟩ := ALOfSize
  obtain ⟨fLAllSets, fdLAllSets, aLAllSets, FLAllSets⟩ := ALAllSets
  obtain ⟨fLTurnedBase, fdLTurnedBase, aLTurnedBase, FLTurnedBase⟩ := ALTurnedBase
  obtain ⟨fLEvenBlocks, fdLEvenBlocks, aLEvenBlocks, FLEvenBlocks⟩ := ALEvenBlocks
  obtain ⟨fLLayout, fdLLayout, aLLayout, FLLayout⟩ := ALLayout
  obtain ⟨fLThree, fdLThree, aLThree, FLThree⟩ := ALThree
  obtain ⟨fLShownRight, fdLShownRight, aLShownRight, FLShownRight⟩ := ALShownRight
  obtain ⟨fLRight, fdLRight, aLRight, FLRight⟩ := ALRight
  obtain ⟨fLBlock, fdLBlock, aLBlock, FLBlock⟩ := ALBlock
  obtain ⟨fLaw, fdLaw, aLaw, FLaw⟩ := ALaw
  have e := hfa.symm.trans (PySem.W.mg_of X G aLaw)
  cases e
  have bMarksOf := FMarksOf.binds (ps := ["points", "block"]) fun _ _ _ _ _ _ us hl => match us, hl with | [_, _], _ => rfl
  have mMarksOf := PySem.W.mg_of X G aMarksOf
  have bArcTold := FArcTold.binds (ps := ["M", "points"]) fun _ _ _ _ _ _ us hl => match us, hl with | [_, _], _ => rfl
  have mArcTold := PySem.W.mg_of X G aArcTold
  have bGrownArc := FGrownArc.binds (ps := ["M", "points"]) fun _ _ _ _ _ _ us hl => match us, hl with | [_, _], _ => rfl
  have mGrownArc := PySem.W.mg_of X G aGrownArc
  have bTwoBeside := FTwoBeside.binds (ps := ["M", "marks", "point"]) fun _ _ _ _ _ _ us hl => match us, hl with | [_, _, _], _ => rfl
  have mTwoBeside := PySem.W.mg_of X G aTwoBeside
  have bMarkedOf := FMarkedOf.binds (ps := ["points", "marks"]) fun _ _ _ _ _ _ us hl => match us, hl with | [_, _], _ => rfl
  have mMarkedOf := PySem.W.mg_of X G aMarkedOf
  have bAllMarked := FAllMarked.binds (ps := ["marks"]) fun _ _ _ _ _ _ us hl => match us, hl with | [_], _ => rfl
  have mAllMarked := PySem.W.mg_of X G aAllMarked
  have bCell := FCell.binds (ps := ["_law_script", "_law_k"]) fun _ _ _ _ _ _ us hl => match us, hl with | [_, _], _ => rfl
  have mCell := PySem.W.mg_of X G aCell
  have bLNumbers := FLNumbers.binds (ps := ["_law_cell_here", "_law_many"]) fun _ _ _ _ _ _ us hl => match us, hl with | [_, _], _ => rfl
  have mLNumbers := PySem.W.mg_of X G aLNumbers
  have bLRow := FLRow.binds (ps := ["_law_xs", "_law_many"]) fun _ _ _ _ _ _ us hl => match us, hl with | [_, _], _ => rfl
  have mLRow := PySem.W.mg_of X G aLRow
  have bLMask := FLMask.binds (ps := ["_law_x", "_law_many"]) fun _ _ _ _ _ _ us hl => match us, hl with | [_, _], _ => rfl
  have mLMask := PySem.W.mg_of X G aLMask
  have bLOfSize := FLOfSize.binds (ps := ["_law_x", "_law_many", "_law_size"]) fun _ _ _ _ _ _ us hl => match us, hl with | [_, _, _], _ => rfl
  have mLOfSize := PySem.W.mg_of X G aLOfSize
  have bLAllSets := FLAllSets.binds (ps := ["_law_many", "_law_size"]) fun _ _ _ _ _ _ us hl => match us, hl with | [_, _], _ => rfl
  have mLAllSets := PySem.W.mg_of X G aLAllSets
  have bLTurnedBase := FLTurnedBase.binds (ps := ["_law_base", "_law_many"]) fun _ _ _ _ _ _ us hl => match us, hl with | [_, _], _ => rfl
  have mLTurnedBase := PySem.W.mg_of X G aLTurnedBase
  have bLEvenBlocks := FLEvenBlocks.binds (ps := ["_law_x", "_law_y"]) fun _ _ _ _ _ _ us hl => match us, hl with | [_, _], _ => rfl
  have mLEvenBlocks := PySem.W.mg_of X G aLEvenBlocks
  have bLLayout := FLLayout.binds (ps := ["_law_script", "_law_at"]) fun _ _ _ _ _ _ us hl => match us, hl with | [_, _], _ => rfl
  have mLLayout := PySem.W.mg_of X G aLLayout
  have bLThree := FLThree.binds (ps := ["_law_layout_here", "_law_points"]) fun _ _ _ _ _ _ us hl => match us, hl with | [_, _], _ => rfl
  have mLThree := PySem.W.mg_of X G aLThree
  have bLShownRight := FLShownRight.binds (ps := ["_law_layout_here", "_law_points", "_law_row_here"]) fun _ _ _ _ _ _ us hl => match us, hl with | [_, _, _], _ => rfl
  have mLShownRight := PySem.W.mg_of X G aLShownRight
  have bLRight := FLRight.binds (ps := ["_law_layout_here", "_law_points", "_law_found"]) fun _ _ _ _ _ _ us hl => match us, hl with | [_, _, _], _ => rfl
  have mLRight := PySem.W.mg_of X G aLRight
  have bLBlock := FLBlock.binds (ps := ["_law_layout_here", "_law_points"]) fun _ _ _ _ _ _ us hl => match us, hl with | [_, _], _ => rfl
  have mLBlock := PySem.W.mg_of X G aLBlock
  refine ⟨fdLaw, ?_, fun base _ _ => ?_⟩
  · obtain ⟨oc, od, kV, doc, pm, an, cdv, ct, osl, rfl, lk, hcd⟩ := FLaw.ex
    exact fun s v => .of_eq rfl
  · have pN : Pm l.prog w K mg base CX0 1 "_law_numbers" ["_law_cell_here", "_law_many"] spNums := ⟨fLNumbers, fdLNumbers, mLNumbers, FLNumbers.kp, bLNumbers, ok_numbers FLNumbers T⟩
    have pC : Pm l.prog w K mg base CX0 1 "_law_cell" ["_law_script", "_law_k"] (spCell2 K) := ⟨fCell, fdCell, mCell, FCell.kp, bCell, ok_cell2 FCell T⟩
    have pM : Pm l.prog w K mg base CX0 1 "_law_mask" ["_law_x", "_law_many"] spMask := ⟨fLMask, fdLMask, mLMask, FLMask.kp, bLMask, ok_mask FLMask T⟩
    have pR : Pm l.prog w K mg base CX0 1 "_law_row" ["_law_xs", "_law_many"] (spRow K) := ⟨fLRow, fdLRow, mLRow, FLRow.kp, bLRow, ok_row FLRow T⟩
    have pS : Pm l.prog w K mg base CX0 1 "_law_of_size" ["_law_x", "_law_many", "_law_size"] spOfSize := ⟨fLOfSize, fdLOfSize, mLOfSize, FLOfSize.kp, bLOfSize, ok_ofsize FLOfSize T⟩
    have pA : Pm l.prog w K mg base CX0 2 "_law_all_sets" ["_law_many", "_law_size"] spAllSets := ⟨fLAllSets, fdLAllSets, mLAllSets, FLAllSets.kp, bLAllSets, ok_allsets FLAllSets T pM⟩
    have pT : Pm l.prog w K mg base CX0 1 "_law_turned_base" ["_law_base", "_law_many"] (spTBase K) := ⟨fLTurnedBase, fdLTurnedBase, mLTurnedBase, FLTurnedBase.kp, bLTurnedBase, ok_tbase FLTurnedBase T⟩
    have pE : Pm l.prog w K mg base CX0 3 "_law_even_blocks" ["_law_x", "_law_y"] spEven := ⟨fLEvenBlocks, fdLEvenBlocks, mLEvenBlocks, FLEvenBlocks.kp, bLEvenBlocks, ok_even FLEvenBlocks T pM pT pA⟩
    have pL : Pm l.prog w K mg base CX0 4 "_law_layout" ["_law_script", "_law_at"] (spLLayout K) := ⟨fLLayout, fdLLayout, mLLayout, FLLayout.kp, bLLayout, ok_llayout FLLayout T pC pN pM pS pR pE⟩
    have pX : Pm l.prog w K mg base CX0 1 "marks_of" ["points", "block"] spMarks := ⟨fMarksOf, fdMarksOf, mMarksOf, FMarksOf.kp, bMarksOf, ok_marks FMarksOf T⟩
    have pY : Pm l.prog w K mg base CX0 1 "marked_of" ["points", "marks"] spMarkedOf := ⟨fMarkedOf, fdMarkedOf, mMarkedOf, FMarkedOf.kp, bMarkedOf, ok_markedOf FMarkedOf T⟩
    have pA2 : Pm l.prog w K mg base CX0 2 "arc_told" ["M", "points"] (spToldS arcW) := ⟨fArcTold, fdArcTold, mArcTold, FArcTold.kp, bArcTold, ok_arcTold FArcTold T pX pY⟩
    have pB : Pm l.prog w K mg base CX0 2 "two_beside" ["M", "marks", "point"] spTwo := ⟨fTwoBeside, fdTwoBeside, mTwoBeside, FTwoBeside.kp, bTwoBeside, ok_two FTwoBeside T pY⟩
    have pK : Pm l.prog w K mg base CX0 1 "all_marked" ["marks"] spAllM := ⟨fAllMarked, fdAllMarked, mAllMarked, FAllMarked.kp, bAllMarked, ok_allM FAllMarked T⟩
    have pH : Pm l.prog w K mg base (CXD l.prog w) 3 "grown_arc" ["M", "points"] (spGrown C) := ⟨fGrownArc, fdGrownArc, mGrownArc, FGrownArc.kp, bGrownArc, ok_grown FGrownArc T D.R.O (ok_xinit D.R.F D.R.B D.mM) (bindsXI D.R.F) D.mC pA2 pX pB pK⟩
    have pD : Pm l.prog w K mg base CX0 1 "_law_three" ["_law_layout_here", "_law_points"] spThree := ⟨fLThree, fdLThree, mLThree, FLThree.kp, bLThree, ok_three FLThree T⟩
    have pJ : Pm l.prog w K mg base CX0 1 "_law_shown_right" ["_law_layout_here", "_law_points", "_law_row_here"] spShown := ⟨fLShownRight, fdLShownRight, mLShownRight, FLShownRight.kp, bLShownRight, ok_shown FLShownRight T⟩
    have pG : Pm l.prog w K mg base CX0 2 "_law_right" ["_law_layout_here", "_law_points", "_law_found"] spLRight := ⟨fLRight, fdLRight, mLRight, FLRight.kp, bLRight, ok_right FLRight T pD pJ⟩
    have pZ : Pm l.prog w K mg base CX0 4 "_law_block" ["_law_layout_here", "_law_points"] spLBlock := ⟨fLBlock, fdLBlock, mLBlock, FLBlock.kp, bLBlock, ok_block FLBlock T D pH⟩
    exact ok_law FLaw T pC pN pL pH pD pG pZ
end E1
open PySem PySem.W PyProof.Rows
set_option maxRecDepth 100000 in
set_option maxHeartbeats 0 in
theorem PySem.Challenge.cw_evenmeet_k42_whole_grown_arcs_holds : PySem.Challenge.rw_evenmeet_k42_whole_grown_arcs.Holds := by
  w_on; o_law; k_head; (case hw => w_witness2)
  k_fill
  refine E1.walk (l := PySem.Challenge.rw_evenmeet_k42_whole_grown_arcs) (k := 12) ⟨rfl, by decide, by decide⟩ rfl rfl (fun w h Y => PySem.W.kIn_of Y) ?F
  case F =>
    intro w mg fa h KX G hmg
    have N : PySem.W.nsIn (L2.KOf KX) mainGlobals "isinstance" = some none ∧ PySem.W.nsIn (L2.KOf KX) mainGlobals "int" = some none ∧ PySem.W.nsIn (L2.KOf KX) mainGlobals "bool" = some none ∧ PySem.W.nsIn (L2.KOf KX) mainGlobals "abs" = some none ∧ PySem.W.nsIn (L2.KOf KX) mainGlobals "len" = some none ∧ PySem.W.nsIn (L2.KOf KX) mainGlobals "range" = some none ∧ PySem.W.nsIn (L2.KOf KX) mainGlobals "tuple" = some none ∧ PySem.W.nsIn (L2.KOf KX) mainGlobals "list" = some none ∧ PySem.W.nsIn (L2.KOf KX) mainGlobals "sorted" = some none ∧ PySem.W.nsIn (L2.KOf KX) mainGlobals "all" = some none ∧ PySem.W.nsIn (L2.KOf KX) mainGlobals "set" = some none ∧ PySem.W.nsIn (L2.KOf KX) mainGlobals "zip" = some none ∧ PySem.W.nsIn (L2.KOf KX) mainGlobals "enumerate" = some none ∧ PySem.W.nsIn (L2.KOf KX) mainGlobals "any" = some none ∧ PySem.W.nsIn (L2.KOf KX) mainGlobals "max" = some none ∧ PySem.W.nsIn (L2.KOf KX) mainGlobals "min" = some none ∧ PySem.W.nsIn (L2.KOf KX) mainGlobals "str" = some none ∧ PySem.W.nsIn (L2.KOf KX) mainGlobals "sum" = some none := by
      dsimp only [L2.KOf]
      refine' ⟨?z0, ?z1, ?z2, ?z3, ?z4, ?z5, ?z6, ?z7, ?z8, ?z9, ?z10, ?z11, ?z12, ?z13, ?z14, ?z15, ?z16, ?z17⟩
      (case z0 => k_is)
      (case z1 => k_is)
      (case z2 => k_is)
      (case z3 => k_is)
      (case z4 => k_is)
      (case z5 => k_is)
      (case z6 => k_is)
      (case z7 => k_is)
      (case z8 => k_is)
      (case z9 => k_is)
      (case z10 => k_is)
      (case z11 => k_is)
      (case z12 => k_is)
      (case z13 => k_is)
      (case z14 => k_is)
      (case z15 => k_is)
      (case z16 => k_is)
      (case z17 => k_is)
    have AMarksOf : E1.At (L2.KOf KX) "marks_of" E1.sMarksOf := by
      dsimp only [L2.KOf]
      refine' E1.fn_mk ?a ?l ?c ?k
      (case a => k_is); (case l => k_is); (case c => k_is); (case k => k_is)
    have AArcTold : E1.At (L2.KOf KX) "arc_told" E1.sArcTold := by
      dsimp only [L2.KOf]
      refine' E1.fn_mk ?a ?l ?c ?k
      (case a => k_is); (case l => k_is); (case c => k_is); (case k => k_is)
    have AGrownArc : E1.At (L2.KOf KX) "grown_arc" E1.sGrownArc := by
      dsimp only [L2.KOf]
      refine' E1.fn_mk ?a ?l ?c ?k
      (case a => k_is); (case l => k_is); (case c => k_is); (case k => k_is)
    have ATwoBeside : E1.At (L2.KOf KX) "two_beside" E1.sTwoBeside := by
      dsimp only [L2.KOf]
      refine' E1.fn_mk ?a ?l ?c ?k
      (case a => k_is); (case l => k_is); (case c => k_is); (case k => k_is)
    have AMarkedOf : E1.At (L2.KOf KX) "marked_of" E1.sMarkedOf := by
      dsimp only [L2.KOf]
      refine' E1.fn_mk ?a ?l ?c ?k
      (case a => k_is); (case l => k_is); (case c => k_is); (case k => k_is)
    have AAllMarked : E1.At (L2.KOf KX) "all_marked" E1.sAllMarked := by
      dsimp only [L2.KOf]
      refine' E1.fn_mk ?a ?l ?c ?k
      (case a => k_is); (case l => k_is); (case c => k_is); (case k => k_is)
    have ACell : E1.At (L2.KOf KX) "_law_cell" E1.sCell := by
      dsimp only [L2.KOf]
      refine' E1.fn_mk ?a ?l ?c ?k
      (case a => k_is); (case l => k_is); (case c => k_is); (case k => k_is)
    have ALNumbers : E1.At (L2.KOf KX) "_law_numbers" E1.sLNumbers := by
      dsimp only [L2.KOf]
      refine' E1.fn_mk ?a ?l ?c ?k
      (case a => k_is); (case l => k_is); (case c => k_is); (case k => k_is)
    have ALRow : E1.At (L2.KOf KX) "_law_row" E1.sLRow := by
      dsimp only [L2.KOf]
      refine' E1.fn_mk ?a ?l ?c ?k
      (case a => k_is); (case l => k_is); (case c => k_is); (case k => k_is)
    have ALMask : E1.At (L2.KOf KX) "_law_mask" E1.sLMask := by
      dsimp only [L2.KOf]
      refine' E1.fn_mk ?a ?l ?c ?k
      (case a => k_is); (case l => k_is); (case c => k_is); (case k => k_is)
    have ALOfSize : E1.At (L2.KOf KX) "_law_of_size" E1.sLOfSize := by
      dsimp only [L2.KOf]
      refine' E1.fn_mk ?a ?l ?c ?k
      (case a => k_is); (case l => k_is); (case c => k_is); (case k => k_is)
    have ALAllSets : E1.At (L2.KOf KX) "_law_all_sets" E1.sLAllSets := by
      dsimp only [L2.KOf]
      refine' E1.fn_mk ?a ?l ?c ?k
      (case a => k_is); (case l => k_is); (case c => k_is); (case k => k_is)
    have ALTurnedBase : E1.At (L2.KOf KX) "_law_turned_base" E1.sLTurnedBase := by
      dsimp only [L2.KOf]
      refine' E1.fn_mk ?a ?l ?c ?k
      (case a => k_is); (case l => k_is); (case c => k_is); (case k => k_is)
    have ALEvenBlocks : E1.At (L2.KOf KX) "_law_even_blocks" E1.sLEvenBlocks := by
      dsimp only [L2.KOf]
      refine' E1.fn_mk ?a ?l ?c ?k
      (case a => k_is); (case l => k_is); (case c => k_is); (case k => k_is)
    have ALLayout : E1.At (L2.KOf KX) "_law_layout" E1.sLLayout := by
      dsimp only [L2.KOf]
      refine' E1.fn_mk ?a ?l ?c ?k
      (case a => k_is); (case l => k_is); (case c => k_is); (case k => k_is)
    have ALThree : E1.At (L2.KOf KX) "_law_three" E1.sLThree := by
      dsimp only [L2.KOf]
      refine' E1.fn_mk ?a ?l ?c ?k
      (case a => k_is); (case l => k_is); (case c => k_is); (case k => k_is)
    have ALShownRight : E1.At (L2.KOf KX) "_law_shown_right" E1.sLShownRight := by
      dsimp only [L2.KOf]
      refine' E1.fn_mk ?a ?l ?c ?k
      (case a => k_is); (case l => k_is); (case c => k_is); (case k => k_is)
    have ALRight : E1.At (L2.KOf KX) "_law_right" E1.sLRight := by
      dsimp only [L2.KOf]
      refine' E1.fn_mk ?a ?l ?c ?k
      (case a => k_is); (case l => k_is); (case c => k_is); (case k => k_is)
    have ALBlock : E1.At (L2.KOf KX) "_law_block" E1.sLBlock := by
      dsimp only [L2.KOf]
      refine' E1.fn_mk ?a ?l ?c ?k
      (case a => k_is); (case l => k_is); (case c => k_is); (case k => k_is)
    have ALaw : E1.At (L2.KOf KX) "law" E1.sLaw := by
      dsimp only [L2.KOf]
      refine' E1.fn_mk ?a ?l ?c ?k
      (case a => k_is); (case l => k_is); (case c => k_is); (case k => k_is)
    have R : ∃ (M C fI o1 o2 o3 o4 o5 o6 : Addr) (fd : FuncData), E1.RefsX (L2.KOf KX) M C fI o1 o2 o3 o4 o5 o6 fd := by
      dsimp only [L2.KOf]
      refine' E1.refsX_mk ?nM ?nC ?nV ?n1 ?n2 ?n3 ?n4 ?n5 ?n6 ?lk ?tl ?nk ?ik ?fn ?cls ?ok ?obj ?bex ?dct ?sa ?fdl ?kp ?sp ?rdM ?fcM ?lf ?lT ?cf ?exM ?gaM ?noM ?clM ?obM ?beM ?gaC ?noC ?clC ?obC ?beC ?gt ?tk ?sub ?kC ?kV ?q1 ?q2 ?q3 ?q4 ?q5 ?q6
      (case nM => k_is)
      (case nC => k_is)
      (case nV => k_is)
      (case n1 => k_is)
      (case n2 => k_is)
      (case n3 => k_is)
      (case n4 => k_is)
      (case n5 => k_is)
      (case n6 => k_is)
      (case lk => k_is)
      (case tl => kernel_rfl)
      (case nk => kernel_rfl)
      (case ik => k_is)
      (case fn => k_is)
      (case cls => k_is)
      (case ok => kernel_rfl)
      (case obj => kernel_rfl)
      (case bex => kernel_rfl)
      (case dct => kernel_rfl)
      (case sa => k_is)
      (case fdl => k_is)
      (case kp => k_is)
      (case sp => k_is)
      (case rdM => k_is)
      (case fcM => k_is)
      (case lf => k_is)
      (case lT => k_is)
      (case cf => k_is)
      (case exM => k_exc)
      (case gaM => k_is)
      (case noM => k_is)
      (case clM => k_is)
      (case obM => k_is)
      (case beM => k_is)
      (case gaC => k_is)
      (case noC => k_is)
      (case clC => k_is)
      (case obC => k_is)
      (case beC => k_is)
      (case gt => k_is)
      (case tk => k_is)
      (case sub => k_is)
      (case kC => kit_is)
      (case kV => kit_is)
      (case q1 => kit_is)
      (case q2 => kit_is)
      (case q3 => kit_is)
      (case q4 => kit_is)
      (case q5 => kit_is)
      (case q6 => kit_is)
    exact E1.all_mk KX G hmg N  R AMarksOf AArcTold AGrownArc ATwoBeside AMarkedOf AAllMarked ACell ALNumbers ALRow ALMask ALOfSize ALAllSets ALTurnedBase ALEvenBlocks ALLayout ALThree ALShownRight ALRight ALBlock ALaw


