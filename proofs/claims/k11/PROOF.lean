import PyProof.Rows.All
import Wide.All
import OpenK.AllK
import Wide.FinOn
import Lean
import PyProof.EqAt
import PyProof.EqKinds
import PyProof.TupleCall
import PySem.Challenge.RW_evenmeet_k11_layouts_renamed
set_option Elab.async false
set_option linter.all false
set_option maxRecDepth 100000
/-! THE HAND LAYER, for ints, bools, texts, own classes, LISTS and tuples (index, slices, in, append, pop ..), calls, loops. Paste it whole ahead of your own text; what your proof does not reach may be deleted. -/
namespace L2
open PySem PySem.Spec PyProof.Rows

/-- a key: an int or a str -/
abbrev Key := Sum Int Str
def keyIs : Key → Value → Bool
  | .inl k, v => Value.isInt k v
  | .inr x, v => Value.isStrOf x v
def keyH (w : World) : Key → Int
  | .inl k => hashInt k
  | .inr x => hashStr w x
theorem keyIs_shape : ∀ {k : Key} {v : Value}, keyIs k v = true → (∃ i t, k = Sum.inl i ∧ v = Value.int i t) ∨ (∃ x t, k = Sum.inr x ∧ v = Value.str x t)
  | .inl i, v, h => by
    obtain ⟨t, e⟩ := Value.isInt_shape (k := i) (v := v) h
    exact .inl ⟨i, t, rfl, e⟩
  | .inr x, v, h => by
    obtain ⟨t, e⟩ := Value.isStrOf_shape (x := x) (v := v) h
    exact .inr ⟨x, t, rfl, e⟩
theorem key_ll (a b : Int) : decide ((Sum.inl a : Key) = Sum.inl b) = (a == b) := by
  by_cases e : a = b
  · subst e; simp
  · have h : ¬ (Sum.inl a : Key) = Sum.inl b := fun q => e (Sum.inl.inj q)
    rw [decide_eq_false h]
    exact (beq_eq_false_iff_ne.mpr e).symm
theorem key_rr (a b : Str) : decide ((Sum.inr a : Key) = Sum.inr b) = decide (a = b) := by
  by_cases e : a = b
  · subst e; simp
  · have h : ¬ (Sum.inr a : Key) = Sum.inr b := fun q => e (Sum.inr.inj q)
    rw [decide_eq_false h, decide_eq_false e]
theorem key_lr (a : Int) (b : Str) : decide ((Sum.inl a : Key) = Sum.inr b) = false := decide_eq_false (fun q => nomatch q)
theorem key_rl (a : Str) (b : Int) : decide ((Sum.inr a : Key) = Sum.inl b) = false := decide_eq_false (fun q => nomatch q)

def mixKind (prog : Program) (w : World) : PySem.KeyKind prog w Key where
  is := keyIs
  hash := keyH w
  inj := fun v a b ha hb => by
    rcases keyIs_shape ha with ⟨i, t, rfl, rfl⟩ | ⟨x, t, rfl, rfl⟩
    · rcases keyIs_shape hb with ⟨j, u, rfl, e⟩ | ⟨y, u, rfl, e⟩
      · injection e with e1 _; rw [e1]
      · exact nomatch e
    · rcases keyIs_shape hb with ⟨j, u, rfl, e⟩ | ⟨y, u, rfl, e⟩
      · exact nomatch e
      · injection e with e1 _; rw [e1]
  byValue := fun k v h => by
    rcases keyIs_shape h with ⟨i, t, rfl, rfl⟩ | ⟨x, t, rfl, rfl⟩ <;> rfl
  pyHash := fun hv h => by
    rcases keyIs_shape hv with ⟨i, t, rfl, rfl⟩ | ⟨x, t, rfl, rfl⟩
    · exact wpAny_pyHash_int h
    · exact wpAny_pyHash_str h
  eqBool := fun hu hv h => by
    rcases keyIs_shape hu with ⟨i, t, rfl, rfl⟩ | ⟨x, t, rfl, rfl⟩
    · rcases keyIs_shape hv with ⟨j, u, rfl, rfl⟩ | ⟨y, u, rfl, rfl⟩
      · rw [key_ll] at h; exact wpAny_eqBool_int h
      · rw [key_lr] at h; exact SeqAt.EqAt.int_str i t y u _ _ _ _ h
    · rcases keyIs_shape hv with ⟨j, u, rfl, rfl⟩ | ⟨y, u, rfl, rfl⟩
      · rw [key_rl] at h; exact SeqAt.EqAt.str_int x t j u _ _ _ _ h
      · rw [key_rr] at h; exact wpAny_eqBool_str h
  «strs» := fun k x t v h => by
    rcases keyIs_shape h with ⟨i, u, rfl, e⟩ | ⟨y, u, rfl, e⟩
    · exact nomatch e
    · injection e with e1 _
      subst e1
      cases v <;> rfl

end L2

namespace L2
open PySem PySem.Spec PyProof.Rows

/-- a value, without the heap -/
inductive V where
  | non | bl (b : Bool) | int (i : Int) | str (x : Str) | byt (b : Array UInt8) | flt (b : UInt64) | ref (a : Addr) | ty (n : String)
  deriving DecidableEq

def RelV : V → Value → Prop
  | .non, u => u = Value.none
  | .bl b, u => u = Value.bool b
  | .int i, u => ∃ t, u = Value.int i t
  | .str x, u => ∃ t, u = Value.str x t
  | .byt b, u => ∃ t, u = Value.bytes b t
  | .flt b, u => ∃ t, u = Value.float b t
  | .ref a, u => u = Value.ref a
  | .ty n, u => u = Value.type n

abbrev Vals : List V → List Value → Prop := Paired RelV
theorem Vals.length {xs : List V} {us : List Value} (r : Vals xs us) : xs.length = us.length := Paired.length r
theorem Vals.get : ∀ {xs : List V} {us : List Value} {i : Nat} {x : V}, Vals xs us → xs[i]? = some x → ∃ u, us[i]? = some u ∧ RelV x u
  | _, _, _, _, .nil, e => by simp at e
  | _, _, 0, _, .cons r _, e => by simp at e; subst e; exact ⟨_, rfl, r⟩
  | _, _, i + 1, x, .cons _ t, e => by
    obtain ⟨u, h1, h2⟩ := Vals.get (i := i) (x := x) t (by simpa using e)
    exact ⟨u, by simpa using h1, h2⟩
theorem Vals.append : ∀ {xs ys : List V} {us ws : List Value}, Vals xs us → Vals ys ws → Vals (xs ++ ys) (us ++ ws)
  | _, _, _, _, .nil, s => s
  | _, _, _, _, .cons r t, s => .cons r (Vals.append t s)
theorem Vals.take : ∀ {xs : List V} {us : List Value} (n : Nat), Vals xs us → Vals (xs.take n) (us.take n)
  | _, _, 0, _ => .nil
  | _, _, _ + 1, .nil => .nil
  | _, _, n + 1, .cons r t => .cons r (Vals.take n t)
theorem Vals.drop : ∀ {xs : List V} {us : List Value} (n : Nat), Vals xs us → Vals (xs.drop n) (us.drop n)
  | _, _, 0, r => r
  | _, _, _ + 1, .nil => .nil
  | _, _, n + 1, .cons _ t => Vals.drop n t
def RelO : Option V → Option Value → Prop
  | some v, some u => RelV v u
  | none, none => True
  | _, _ => False
def KV {κ : Type} : List (κ × V) → List (κ × Value) → Prop := Paired fun (p : κ × V) (q : κ × Value) => p.1 = q.1 ∧ RelV p.2 q.2

/-- a key of a dict (00_mix): an int or a text -/
def kV : Key → V
  | .inl i => .int i
  | .inr x => .str x

/-- what stands at a tracked address -/
inductive HO where
  /-- a list -/
  | lst (xs : List V)
  /-- a tuple (never changes) -/
  | tup (xs : List V)
  /-- a dict whose keys are ints and texts; one whose keys are tuples of ints and texts (the empty one is both) -/
  | dK (kvs : List (Key × V)) | dT (kvs : List (List Key × V))
  /-- a set of ints: its members, its size -/
  | set (S : Int → Bool) (n : Nat)
  /-- an instance of the class at C, its dict at dx, its attributes -/
  | ins (C dx : Addr) (fs : List (Str × V))
  /-- the dict of the instance at x -/
  | own (x : Addr)
  /-- the dict of an exception -/
  | xd (fs : List (Str × V))
  /-- a bound method, f of x -/
  | met (f x : Addr)
  /-- a range object lo, lo + 1, .. below hi -/
  | rng (lo hi : Int)
  /-- a thing that is known to the object (the script; a dict while a loop walks it): read, never written while it is so -/
  | frz (o : Obj) (u : HO)
  /-- a code object's table -/
  | tbl (ps : Array Value)
  /-- any other thing, by what is true of its one object (a def of one's own: SetO a S n := HO.ext fun h => ..) -/
  | ext (φ : Heap → Prop)

abbrev Hp := Addr → Option HO
def upd (H : Hp) (a : Addr) (o : HO) : Hp := fun b => if b = a then some o else H b
theorem upd_same {H : Hp} {a : Addr} {o : HO} : upd H a o a = some o := by unfold upd; rw [if_pos rfl]
theorem upd_ne {H : Hp} {a b : Addr} {o : HO} (h : b ≠ a) : upd H a o b = H b := by unfold upd; rw [if_neg h]
theorem ne_of_none {H : Hp} {a b : Addr} {o : HO} (h : H a = some o) (h' : H b = none) : a ≠ b := by
  intro e; subst e; rw [h] at h'; cases h'

section
variable (P : Program) (w : World)
def ObjOk (H : Hp) (h : Heap) (a : Addr) : HO → Prop
  | .lst xs => xs.length ≤ sizeLine ∧ ∃ (its : List Value) (n : Nat), Vals xs its ∧ h.get? a = some { cls := .type "list", data := .seq its.toArray n }
  | .tup xs => xs.length ≤ sizeLine ∧ ∃ its : List Value, Vals xs its ∧ IsTup h a its.toArray
  | .dK kvs => kvs.length ≤ sizeLine ∧ (a == sysModules) = false ∧ ∃ vs, KV kvs vs ∧ h.DictOf (mixKind P w) a vs
  | .dT kvs => kvs.length ≤ sizeLine ∧ (a == sysModules) = false ∧ ∃ xs : List (List Key × Addr × Value),
      Paired (fun (p : List Key × V) (q : List Key × Addr × Value) => p.1 = q.1 ∧ H q.2.1 = some (.tup (p.1.map kV)) ∧ RelV p.2 q.2.2) kvs xs ∧
      ∃ o es ep, h.get? a = some o ∧ o.ExactDict ∧ o.data = .dict es ep ∧ es.toList = xs.map (entryOfKey (tupleKind (mixKind P w))) ∧ (xs.map (·.1)).Nodup
  | .set S n => h.SetOf (intKind P w) a S n
  | .ins C dx fs => H dx = some (.own a) ∧ fs.length ≤ 1000 ∧ dx ≠ a ∧ h.get? a = some (PySem.W.instObj C dx) ∧
      ∃ mA, h.Ns1 dx mA ∧ (∀ f, RelO (fs.lookup f) (mA f)) ∧ PySem.Within mA (fs.map (·.1))
  | .own _ => ∃ o, h.get? a = some o
  | .xd fs => ∃ mA, h.Ns1 a mA ∧ ∀ f, RelO (fs.lookup f) (mA f)
  | .rng lo hi => ∃ t u v, h.get? a = some { cls := .type "range", data := .fields #[.int lo t, .int hi u, .int 1 v] }
  | .frz o u => h.get? a = some o ∧ ObjOk H h a u
  | .tbl ps => h.get? a = some { cls := .none, data := .fields ps }
  | .met f x => h.get? a = some (PySem.W.methodObj (.ref f) (.ref x))
  | .ext φ => φ h ∧ (∃ o, h.get? a = some o) ∧ ∀ h1 h2 : Heap, φ h1 → (∀ o, h1.get? a = some o → h2.get? a = some o) → φ h2
/-- the abstract heap is held -/
def HOk (H : Hp) (h : Heap) : Prop := ∀ a o, H a = some o → ObjOk P w H h a o
end

section
variable {P : Program} {w : World} {H H' : Hp} {h h' : Heap} {a : Addr} {o : HO}
theorem ObjOk.lt (x : ObjOk P w H h a o) : a < h.objs.size := by
  cases o with
  | lst xs => obtain ⟨_, _, _, _, e⟩ := x; exact Heap.lt_size e
  | tup xs => obtain ⟨_, _, _, p⟩ := x; exact p.lt
  | dK kvs => obtain ⟨_, _, _, _, o, _, _, e, _⟩ := x; exact Heap.lt_size e
  | dT kvs => obtain ⟨_, _, _, _, o, _, _, e, _⟩ := x; exact Heap.lt_size e
  | set S n => obtain ⟨o, _, _, _, e, _⟩ := x; exact Heap.lt_size e
  | ins C dx fs => obtain ⟨_, _, _, e, _⟩ := x; exact Heap.lt_size e
  | own y => obtain ⟨_, e⟩ := x; exact Heap.lt_size e
  | xd fs => obtain ⟨_, ⟨_, _, _, e, _⟩, _⟩ := x; exact Heap.lt_size e
  | rng lo hi => obtain ⟨_, _, _, e⟩ := x; exact Heap.lt_size e
  | frz ob u => obtain ⟨e, _⟩ := x; exact Heap.lt_size e
  | tbl ps => exact Heap.lt_size (show h.get? a = some _ from x)
  | met f y => exact Heap.lt_size (show h.get? a = some _ from x)
  | ext φ => obtain ⟨_, ⟨_, e⟩, _⟩ := x; exact Heap.lt_size e
theorem Paired.mapP {α β : Type} {F G : α → β → Prop} : ∀ {l₁ : List α} {l₂ : List β}, Paired F l₁ l₂ → (∀ a b, F a b → G a b) → Paired G l₁ l₂
  | _, _, .nil, _ => .nil
  | _, _, .cons r t, f => .cons (f _ _ r) (Paired.mapP t f)
/-- what an object's description leans on: its own object, its own dict, the tuples -/
theorem ObjOk.stay (x : ObjOk P w H h a o) (k : ∀ b u, (b = a ∨ H b = some (.own a)) → h.get? b = some u → h'.get? b = some u)
    (ho : ∀ b, H b = some (.own a) → H' b = some (.own a)) (ht : ∀ b xs, H b = some (.tup xs) → H' b = some (.tup xs)) : ObjOk P w H' h' a o := by
  induction o with
  | lst xs => obtain ⟨z, its, n, r, e⟩ := x; exact ⟨z, its, n, r, k _ _ (.inl rfl) e⟩
  | tup xs => obtain ⟨z, its, r, ob, e, c⟩ := x; exact ⟨z, its, r, ob, k _ _ (.inl rfl) e, c⟩
  | dK kvs => obtain ⟨z, y, vs, r, ob, es, ep, e, c⟩ := x; exact ⟨z, y, vs, r, ob, es, ep, k _ _ (.inl rfl) e, c⟩
  | dT kvs =>
    obtain ⟨z, y, xs, r, ob, es, ep, e, c⟩ := x
    exact ⟨z, y, xs, Paired.mapP r fun p q z => ⟨z.1, ht _ _ z.2.1, z.2.2⟩, ob, es, ep, k _ _ (.inl rfl) e, c⟩
  | set S n => obtain ⟨ob, es, ep, t, e, c⟩ := x; exact ⟨ob, es, ep, t, k _ _ (.inl rfl) e, c⟩
  | ins C dx fs =>
    obtain ⟨d, z, ne, e, mA, ⟨od, es, ep, e2, c⟩, r⟩ := x
    exact ⟨ho _ d, z, ne, k _ _ (.inl rfl) e, mA, ⟨od, es, ep, k _ _ (.inr d) e2, c⟩, r⟩
  | own y => obtain ⟨ob, e⟩ := x; exact ⟨ob, k _ _ (.inl rfl) e⟩
  | xd fs => obtain ⟨mA, ⟨od, es, ep, e, c⟩, r⟩ := x; exact ⟨mA, ⟨od, es, ep, k _ _ (.inl rfl) e, c⟩, r⟩
  | rng lo hi => obtain ⟨t, u, v, e⟩ := x; exact ⟨t, u, v, k _ _ (.inl rfl) e⟩
  | frz ob u ih => obtain ⟨e, q⟩ := x; exact ⟨k _ _ (.inl rfl) e, ih q⟩
  | tbl ps =>
    have e : h.get? a = some { cls := .none, data := .fields ps } := x
    show h'.get? a = some { cls := .none, data := .fields ps }
    exact k a _ (.inl rfl) e
  | met f y =>
    have e : h.get? a = some (PySem.W.methodObj (.ref f) (.ref y)) := x
    show h'.get? a = some (PySem.W.methodObj (.ref f) (.ref y))
    exact k a _ (.inl rfl) e
  | ext φ => obtain ⟨p, ⟨o, e⟩, st⟩ := x; exact ⟨st _ _ p fun o q => k _ _ (.inl rfl) q, ⟨o, k _ _ (.inl rfl) e⟩, st⟩
theorem HOk.lt (x : HOk P w H h) (e : H a = some o) : a < h.objs.size := (x a o e).lt
theorem HOk.fresh (x : HOk P w H h) (e : h.objs.size ≤ a) : H a = none := by
  cases q : H a with
  | none => rfl
  | some u => exact absurd (Nat.lt_of_lt_of_le (x.lt q) e) (Nat.lt_irrefl _)
/-- every object of the heap is kept -/
theorem HOk.kept (x : HOk P w H h) (k : ∀ b u, h.get? b = some u → h'.get? b = some u) : HOk P w H h' := fun a o e =>
  (x a o e).stay (fun b u _ q => k b u q) (fun _ q => q) fun _ _ q => q
/-- a new object is laid and tracked -/
theorem HOk.laid (x : HOk P w H h) (k : ∀ b u, h.get? b = some u → h'.get? b = some u) (hp : h.objs.size ≤ a) (new : ObjOk P w (upd H a o) h' a o) : HOk P w (upd H a o) h' := fun b u e => by
  have hn := x.fresh hp
  by_cases hb : b = a
  · subst hb; rw [upd_same] at e; cases e; exact new
  · rw [upd_ne hb] at e
    exact (x b u e).stay (fun c v _ q => k c v q) (fun c q => by rw [upd_ne (ne_of_none q hn)]; exact q) fun c xs q => by rw [upd_ne (ne_of_none q hn)]; exact q
end

/-- what may be read as u: it is u, or a known u -/
def Rd (H : Hp) (a : Addr) (u : HO) : Prop := H a = some u ∨ ∃ o, H a = some (.frz o u)
theorem Rd.ok {P : Program} {w : World} {H : Hp} {h : Heap} {a : Addr} {u : HO} (r : Rd H a u) (x : HOk P w H h) : ObjOk P w H h a u := by
  rcases r with r | ⟨o, r⟩
  · exact x a u r
  · obtain ⟨_, q⟩ := x a _ r
    exact q
/-- what may be written -/
def Mut : Option HO → Prop
  | some (.lst _) => True
  | some (.dK _) => True
  | some (.dT _) => True
  | some (.set _ _) => True
  | some (.ins _ _ _) => True
  | some (.ext _) => True
  | _ => False
section
variable {P : Program} {w : World} {H : Hp} {h h' : Heap} {x e : Addr} {o' : HO}
/-- the object at e is changed: x itself, or the dict of the instance x -/
theorem HOk.write (ok : HOk P w H h) (mu : Mut (H x)) (he : e = x ∨ H e = some (.own x)) (k : ∀ b u, b ≠ e → h.get? b = some u → h'.get? b = some u) (heo : ∃ u, h'.get? e = some u)
    (new : ObjOk P w (upd H x o') h' x o') : HOk P w (upd H x o') h' := fun b u q => by
  have nown : ∀ c y, H c = some (.own y) → c ≠ x := fun c y r z => by subst z; rw [r] at mu; exact mu
  have ntup : ∀ c xs, H c = some (.tup xs) → c ≠ x := fun c xs r z => by subst z; rw [r] at mu; exact mu
  by_cases hb : b = x
  · subst hb; rw [upd_same] at q; cases q; exact new
  · rw [upd_ne hb] at q
    by_cases hbe : b = e
    · have q' : H b = some (.own x) := by
        rcases he with z | z
        · exact absurd (hbe.trans z) hb
        · rw [hbe]; exact z
      rw [q] at q'; cases q'
      obtain ⟨v, hv⟩ := heo
      exact ⟨v, by rw [hbe]; exact hv⟩
    · refine (ok b u q).stay (fun c v hc r => k c v ?_ r) (fun c r => by rw [upd_ne (nown c b r)]; exact r) fun c xs r => by rw [upd_ne (ntup c xs r)]; exact r
      rcases hc with rfl | hc
      · exact hbe
      · rintro rfl
        rcases he with z | z
        · exact nown c b hc z
        · rw [hc] at z; cases z; exact hb rfl
end

/-! ### kept unless tracked; of the frames at fs (the callers') the slots may change (an exception that passes writes there); of the records at ex (iterators) nothing is said -/
structure Un (fs ex : List Addr) (H H' : Hp) (h h' : Heap) : Prop where
  keep : ∀ b o, h.get? b = some o → H b = none → b ∉ fs → b ∉ ex → h'.get? b = some o
  slot : ∀ b o, h.get? b = some o → H b = none → b ∈ fs → b ∉ ex → ∃ sl, h'.get? b = some { o with slots := sl }
  free : ∀ b o, h.get? b = some o → H b = none → b ∉ ex → H' b = none
  there : ∀ b o, h.get? b = some o → b ∉ ex → ∃ o', h'.get? b = some o'
  tups : ∀ b xs, H b = some (.tup xs) → H' b = some (.tup xs)
  frzs : ∀ b o u, H b = some (.frz o u) → H' b = some (.frz o u)
  tbls : ∀ b ps, H b = some (.tbl ps) → ∃ more, H' b = some (.tbl (ps ++ more))
section
variable {fs fs' ex ex' : List Addr} {H H1 H2 : Hp} {h h1 h2 h' : Heap} {a x e : Addr} {o : HO}
theorem Un.any (u : Un fs ex H H1 h h1) {b : Addr} {ob : Obj} (q : h.get? b = some ob) (n : H b = none) (hx : b ∉ ex) : ∃ sl, h1.get? b = some { ob with slots := sl } := by
  by_cases hb : b ∈ fs
  · exact u.slot b ob q n hb hx
  · exact ⟨ob.slots, u.keep b ob q n hb hx⟩
theorem Un.kept (k : ∀ b u, h.get? b = some u → h'.get? b = some u) : Un fs ex H H h h' :=
  ⟨fun b ob q _ _ _ => k b ob q, fun b ob q _ _ _ => ⟨ob.slots, k b ob q⟩, fun _ _ _ n _ => n, fun b ob q _ => ⟨ob, k b ob q⟩, fun _ _ q => q, fun _ _ _ q => q, fun _ ps q => ⟨#[], by rw [q]; simp⟩⟩
theorem Un.refl : Un fs ex H H h h := Un.kept fun _ _ q => q
theorem Un.laid (k : ∀ b u, h.get? b = some u → h'.get? b = some u) (hp : h.objs.size ≤ a) (hn : H a = none) : Un fs ex H (upd H a o) h h' where
  keep := fun b u q _ _ _ => k b u q
  slot := fun b u q _ _ _ => ⟨u.slots, k b u q⟩
  free := fun b u q n _ => by rw [upd_ne (Nat.ne_of_lt (Nat.lt_of_lt_of_le (Heap.lt_size q) hp))]; exact n
  there := fun b u q _ => ⟨u, k b u q⟩
  tups := fun b xs q => by rw [upd_ne (ne_of_none q hn)]; exact q
  frzs := fun b u xs q => by rw [upd_ne (ne_of_none q hn)]; exact q
  tbls := fun b ps q => ⟨#[], by rw [upd_ne (ne_of_none q hn), q]; simp⟩
theorem Un.write (mu : Mut (H x)) (he : e = x ∨ H e = some (.own x)) (k : ∀ b u, b ≠ e → h.get? b = some u → h'.get? b = some u) (heo : ∃ u, h'.get? e = some u) : Un fs ex H (upd H x o) h h' := by
  have hx : ∀ b, H b = none → b ≠ x := fun b n z => by subst z; rw [n] at mu; exact mu
  have hb : ∀ b, H b = none → b ≠ e := fun b n z => by
    subst z
    rcases he with r | r
    · exact hx b n r
    · rw [n] at r; cases r
  have hm : ∀ b u, H b = some u → ¬ Mut (some u) → b ≠ x := fun b u q nm z => by subst z; rw [q] at mu; exact nm mu
  refine ⟨fun b u q n _ _ => k b u (hb b n) q, fun b u q n _ _ => ⟨u.slots, k b u (hb b n) q⟩, fun b u q n _ => by rw [upd_ne (hx b n)]; exact n, fun b u q _ => ?_,
    fun b xs q => by rw [upd_ne (hm b _ q fun z => z)]; exact q, fun b u xs q => by rw [upd_ne (hm b _ q fun z => z)]; exact q, fun b ps q => ⟨#[], by rw [upd_ne (hm b _ q fun z => z), q]; simp⟩⟩
  by_cases hbe : b = e
  · subst hbe; exact heo
  · exact ⟨u, k b u hbe q⟩
end

/-! ### the heap without what is tracked -/
def trk (h : Heap) (H : Hp) : List Addr := (List.range h.objs.size).filter fun a => (H a).isSome
def hidT (h : Heap) (H : Hp) : Heap := PySem.W.hideAll h (trk h H)
theorem hidT_size (h : Heap) (H : Hp) : (hidT h H).objs.size = h.objs.size := PySem.W.hideAll_size _ _
theorem hidT_get {h : Heap} {H : Hp} {b : Addr} {o : Obj} (e : h.get? b = some o) (n : H b = none) : (hidT h H).get? b = some o :=
  PySem.W.hideAll_get _ e fun hm => by
    have q : (H b).isSome = true := (List.mem_filter.mp hm).2
    rw [n] at q; simp at q
theorem of_hidT {h : Heap} {H : Hp} {b : Addr} {o : Obj} (e : (hidT h H).get? b = some o) : h.get? b = some o ∧ H b = none := by
  have e' : h.get? b = some o := PySem.W.of_hideAll (trk h H) e
  refine ⟨e', ?_⟩
  cases q : H b with
  | none => rfl
  | some x =>
    have hm : b ∈ trk h H := List.mem_filter.mpr ⟨List.mem_range.mpr (Heap.lt_size e'), by simp [q]⟩
    have z : (hidT h H).get? b = none := PySem.W.hideAll_none (trk h H) hm
    rw [z] at e; cases e

/-! ### OpenK's ledger, filled with every new object but one -/
end L2

namespace L2
open PySem PySem.Spec PyProof.Rows

/-- the module's facts, over the base: the heap at the law's entry without what is tracked there -/
structure Mod (K : PySem.W.Frag) (mg : Str → Option Value) (base : Heap) : Prop where
  kin : K.In base
  glob : base.Ns mainGlobals mg
  blt : ∃ mb, base.Ns builtinsNs mb ∧ ∀ x : Str, x ≠ "__name__" → mb x = bootBuiltins x
  nolimit : base.NoLimit

/-- the context: a def's body (or a comprehension's block) running. base: fixed through the whole law; s₀, H₀: the entry; outer: the frames whose slots others may change (a def's callers); stack: all frames that run;
   ex: iterators that were made ahead of the entry and are walked here (a comprehension's); fn: the names whose cells were made at the entry (a def: all; a comprehension's block: its own); calm: not within an except suite; pn: pins that every state bears; xe: what is wanted of an exception that leaves the code -/
structure Cx where
  prog : Program
  w : World
  K : PySem.W.Frag
  mg : Str → Option Value
  base : Heap
  A : Around
  N : List Str
  s₀ : Shared
  H₀ : Hp
  env : Env
  outer : List Env
  stack : List Env
  ex : List Addr
  fn : Str → Bool
  calm : Bool
  pn : List (Addr × Obj)
  xe : Value → Shared → Prop
/-- the callers' frames -/
def frs (l : List Env) : List Addr := l.filterMap (·.frame)
abbrev Cx.fs (X : Cx) : List Addr := frs X.outer

def Vis (sc : Scope) (x : Str) : Prop := sc.names.lookup x = some .local ∨ sc.names.lookup x = some .cell ∨ sc.names.lookup x = some .free
def Loc (sc : Scope) (x : Str) : Prop := sc.names.lookup x = some .local ∨ sc.names.lookup x = some .cell
def Look (env : Env) (h : Heap) (m : Str → Option Value) (x : Str) (u : Value) : Prop :=
  (env.kindOf x = some .local ∧ m x = some u) ∨ ((env.kindOf x = some .cell ∨ env.kindOf x = some .free) ∧ ∃ c, env.cells.lookup x = some c ∧ h.IsCell c (some u))

structure Cx.Ok (X : Cx) : Prop where
  mod : Mod X.K X.mg X.base
  kind : X.env.scope.kind = .function
  glob : X.env.globals = mainGlobals
  blt : X.env.builtins = builtinsNs
  above : X.s₀.heap.objs.size ≤ X.env.locals
  inj : ∀ x y c, X.env.cells.lookup x = some c → X.env.cells.lookup y = some c → x = y
  has : ∀ x, (X.env.kindOf x = some .cell ∨ X.env.kindOf x = some .free) → ∃ c, X.env.cells.lookup x = some c
  cab : ∀ x c, X.fn x = true → X.env.cells.lookup x = some c → X.s₀.heap.objs.size ≤ c
  hd : X.calm = true → X.A.handled = none
  frames : X.A.frames = some X.stack
  stk : X.stack = X.outer ∨ (X.stack = X.env :: X.outer ∧ X.env.frame = some X.env.locals)
  exf : ∀ b ∈ X.ex, b ≠ X.env.locals ∧ ∀ x c, X.env.cells.lookup x = some c → c ≠ b
  bs : ∀ b o, X.base.get? b = some o → X.s₀.heap.get? b = some o ∧ X.H₀ b = none
  bsz : X.base.objs.size ≤ X.s₀.heap.objs.size
  noex : ∀ b o, X.base.get? b = some o → b ∉ X.ex
  exfs : ∀ b ∈ X.ex, b ∉ X.fs
  funs : X.s₀.heap.FunFrames X.base X.outer
  frf : ∀ b ∈ X.fs, X.H₀ b = none

structure Inv (X : Cx) (pins : List (Addr × Obj)) (σ : List (Option V)) (H : Hp) (s : Shared) : Prop where
  ok : X.Ok
  os : s.os = X.s₀.os
  bare : AllBare s.gens
  base : Un X.fs X.ex X.H₀ H X.s₀.heap s.heap
  loc : ∃ m, s.heap.Ns X.env.locals m ∧ ∀ (i : Nat) (x : Str) (v : V), X.N[i]? = some x → σ[i]? = some (some v) → Vis X.env.scope x → ∃ u, RelV v u ∧ Look X.env s.heap m x u
  cell : ∀ x c, X.env.cells.lookup x = some c → ∃ v, s.heap.IsCell c v
  free : H X.env.locals = none
  freeC : ∀ x c, X.env.cells.lookup x = some c → H c = none
  pin : ∀ p ∈ X.pn ++ pins, s.heap.get? p.1 = some p.2 ∧ H p.1 = none ∧ p.1 ≠ X.env.locals ∧ p.1 ∉ X.fs ∧ ∀ v, p.2.data ≠ .cell v
  hok : HOk X.prog X.w H s.heap
  len : σ.length = X.N.length

section
variable {X : Cx} {pins : List (Addr × Obj)} {σ : List (Option V)} {H H' : Hp} {s : Shared} {h' : Heap}

theorem Cx.Ok.nofr (ok : X.Ok) {b : Addr} {o : Obj} (e : X.base.get? b = some o) : b ∉ X.fs := fun hb => by
  have := (ok.funs.mem hb).1
  rw [e] at this; cases this
theorem Inv.bs (I : Inv X pins σ H s) : ∀ b o, X.base.get? b = some o → s.heap.get? b = some o ∧ H b = none := fun b o e =>
  ⟨I.base.keep b o (I.ok.bs b o e).1 (I.ok.bs b o e).2 (I.ok.nofr e) (I.ok.noex b o e), I.base.free b o (I.ok.bs b o e).1 (I.ok.bs b o e).2 (I.ok.noex b o e)⟩
theorem Inv.bk (I : Inv X pins σ H s) : ∀ b o, X.base.get? b = some o → s.heap.get? b = some o := fun b o e => (I.bs b o e).1
theorem Inv.mod (I : Inv X pins σ H s) : Mod X.K X.mg X.base := I.ok.mod
theorem Inv.kIn (I : Inv X pins σ H s) : X.K.In s.heap := I.ok.mod.kin.keeps I.bk
theorem Inv.lt (I : Inv X pins σ H s) : X.env.locals < s.heap.objs.size := let ⟨_, hn, _⟩ := I.loc; hn.lt
theorem Inv.sz (I : Inv X pins σ H s) : X.s₀.heap.objs.size ≤ s.heap.objs.size := Nat.le_trans I.ok.above (Nat.le_of_lt I.lt)
theorem Inv.nofs (I : Inv X pins σ H s) {a : Addr} (h : s.heap.objs.size ≤ a) : a ∉ X.fs := fun hb => by
  obtain ⟨_, o, ho, _⟩ := I.ok.funs.mem hb
  exact absurd (Nat.lt_of_lt_of_le (Heap.lt_size ho) (Nat.le_trans I.sz h)) (Nat.lt_irrefl _)
theorem Inv.cne (I : Inv X pins σ H s) : ∀ x c, X.env.cells.lookup x = some c → c ≠ X.env.locals := fun x c e z => by
  obtain ⟨v, o, ho, hd⟩ := I.cell x c e
  obtain ⟨m, ⟨o', es, ep, ho', hd', _⟩, _⟩ := I.loc
  rw [z, ho'] at ho; cases ho; rw [hd'] at hd; cases hd
theorem Inv.funs (I : Inv X pins σ H s) : s.heap.FunFrames X.base X.outer := by
  have all : ∀ (l : List Env), (∀ b ∈ frs l, b ∈ X.fs) → X.s₀.heap.FunFrames X.base l → s.heap.FunFrames X.base l := by
    intro l
    induction l with
    | nil => intro _ _; trivial
    | cons env r ih =>
      intro hs hl
      obtain ⟨hk, ⟨L, o, hf, hn, ho, hd⟩, hr⟩ := hl
      have hL : L ∈ X.fs := hs L (by unfold frs; rw [List.filterMap_cons, hf]; exact List.mem_cons_self)
      obtain ⟨sl, e⟩ := I.base.slot L o ho (I.ok.frf L hL) hL fun z => I.ok.exfs L z hL
      exact ⟨hk, ⟨L, _, hf, hn, e, hd⟩, ih (fun b hb => hs b (by unfold frs; rw [List.filterMap_cons, hf]; exact List.mem_cons_of_mem _ hb)) hr⟩
  exact all X.outer (fun _ hb => hb) I.ok.funs

/-- the frames that run, for a call -/
theorem Inv.stack (I : Inv X pins σ H s) : s.heap.FunFrames X.base X.stack := by
  rcases I.ok.stk with e | ⟨e, hf⟩
  · rw [e]; exact I.funs
  · rw [e]
    obtain ⟨m, hn, _⟩ := I.loc
    refine .cons (by rw [I.ok.kind]; decide) hf hn ?_ I.funs
    exact Heap.get?_none_of_le (Nat.le_trans I.ok.bsz I.ok.above)
theorem Inv.stkSub (I : Inv X pins σ H s) : ∀ b ∈ frs X.stack, b ∈ X.env.locals :: X.fs := fun b hb => by
  rcases I.ok.stk with e | ⟨e, hf⟩
  · rw [e] at hb; exact List.mem_cons_of_mem _ hb
  · rw [e] at hb
    unfold frs at hb
    rw [List.filterMap_cons, hf] at hb
    exact hb
theorem Inv.stkFree (I : Inv X pins σ H s) : ∀ b ∈ frs X.stack, H b = none := fun b hb => by
  rcases List.mem_cons.mp (I.stkSub b hb) with e | hb
  · rw [e]; exact I.free
  · obtain ⟨_, o, ho, _⟩ := I.ok.funs.mem hb
    exact I.base.free b o ho (I.ok.frf b hb) fun z => I.ok.exfs b z hb

/-- THE STEP: the untracked objects but the frame and the records at ch are kept (the callers' frames up to slots), the frame's map is kept, the new abstract heap is held -/
theorem Inv.step {g' : Array GenState} {t' : Nat} {d' : Drawn} {ch : List Addr} (I : Inv X pins σ H s)
    (hch : ∀ b ∈ ch, (b ∈ X.ex ∨ X.s₀.heap.objs.size ≤ b) ∧ b ≠ X.env.locals ∧ (∀ x c, X.env.cells.lookup x = some c → c ≠ b) ∧ ∀ p ∈ X.pn ++ pins, p.1 ≠ b)
    (keep : ∀ b o, b ≠ X.env.locals → b ∉ X.fs → b ∉ ch → s.heap.get? b = some o → H b = none → h'.get? b = some o)
    (slot : ∀ b o, b ≠ X.env.locals → b ∈ X.fs → b ∉ ch → s.heap.get? b = some o → H b = none → ∃ sl, h'.get? b = some { o with slots := sl }) (free : ∀ b o, b ∉ ch → s.heap.get? b = some o → H b = none → H' b = none)
    (there : ∀ b o, b ∉ ch → s.heap.get? b = some o → ∃ o', h'.get? b = some o')
    (tups : ∀ b xs, H b = some (.tup xs) → H' b = some (.tup xs)) (frzs : ∀ b o u, H b = some (.frz o u) → H' b = some (.frz o u)) (tbls : ∀ b ps, H b = some (.tbl ps) → ∃ more, H' b = some (.tbl (ps ++ more)))
    (ns : ∀ m, s.heap.Ns X.env.locals m → h'.Ns X.env.locals m) (hok : HOk X.prog X.w H' h') (hg : AllBare g') :
    Inv X pins σ H' { s with heap := h', gens := g', drawn := d', toks := t' } := by
  have neL : ∀ b o, X.s₀.heap.get? b = some o → b ≠ X.env.locals := fun b o e => Nat.ne_of_lt (Nat.lt_of_lt_of_le (Heap.lt_size e) I.ok.above)
  have neC : ∀ b o, X.s₀.heap.get? b = some o → b ∉ X.ex → b ∉ ch := fun b o e hx hb => by
    rcases (hch b hb).1 with z | z
    · exact hx z
    · exact absurd (Nat.lt_of_lt_of_le (Heap.lt_size e) z) (Nat.lt_irrefl _)
  have cellK : ∀ x c, X.env.cells.lookup x = some c → ∀ v, s.heap.IsCell c v → h'.IsCell c v := fun x c e v ⟨o, ho, hd⟩ => by
    have nch : c ∉ ch := fun z => (hch c z).2.2.1 x c e rfl
    by_cases hc : c ∈ X.fs
    · obtain ⟨sl, q⟩ := slot c o (I.cne x c e) hc nch ho (I.freeC x c e)
      exact ⟨_, q, hd⟩
    · exact ⟨o, keep c o (I.cne x c e) hc nch ho (I.freeC x c e), hd⟩
  refine ⟨I.ok, I.os, hg, ⟨fun b o e n hb hx => ?_, fun b o e n hb hx => ?_, fun b o e n hx => ?_, fun b o e hx => ?_, fun b xs e => tups b xs (I.base.tups b xs e), fun b o xs e => frzs b o xs (I.base.frzs b o xs e), fun b ps e => ?_⟩, ?_, fun x c e => ?_, ?_, fun x c e => ?_, fun p hp => ?_, hok, I.len⟩
  · exact keep b o (neL b o e) hb (neC b o e hx) (I.base.keep b o e n hb hx) (I.base.free b o e n hx)
  · obtain ⟨sl, e1⟩ := I.base.slot b o e n hb hx
    obtain ⟨sl', e2⟩ := slot b _ (neL b o e) hb (neC b o e hx) e1 (I.base.free b o e n hx)
    exact ⟨sl', e2⟩
  · obtain ⟨o', e1⟩ := I.base.there b o e hx
    exact free b o' (neC b o e hx) e1 (I.base.free b o e n hx)
  · obtain ⟨o', e1⟩ := I.base.there b o e hx
    exact there b o' (neC b o e hx) e1
  · obtain ⟨m1, e1⟩ := I.base.tbls b ps e
    obtain ⟨m2, e2⟩ := tbls b _ e1
    exact ⟨m1 ++ m2, by rw [e2, Array.append_assoc]⟩
  · obtain ⟨m, hn, hl⟩ := I.loc
    refine ⟨m, ns m hn, fun i x v e1 e2 e3 => ?_⟩
    obtain ⟨u, r, l⟩ := hl i x v e1 e2 e3
    refine ⟨u, r, ?_⟩
    rcases l with l | ⟨k, c, e, z⟩
    · exact .inl l
    · exact .inr ⟨k, c, e, cellK x c e _ z⟩
  · obtain ⟨v, z⟩ := I.cell x c e
    exact ⟨v, cellK x c e v z⟩
  · obtain ⟨m, ⟨o, _, _, ho, _⟩, _⟩ := I.loc
    exact free _ o (fun z => (hch _ z).2.1 rfl) ho I.free
  · obtain ⟨v, o, ho, hd⟩ := I.cell x c e
    exact free c o (fun z => (hch c z).2.2.1 x c e rfl) ho (I.freeC x c e)
  · obtain ⟨e, n, ne, nf, d⟩ := I.pin p hp
    have nch : p.1 ∉ ch := fun z => (hch p.1 z).2.2.2 p hp rfl
    exact ⟨keep p.1 p.2 ne nf nch e n, free p.1 p.2 nch e n, ne, nf, d⟩
/-- .. where the frame's own object is kept too -/
theorem Inv.un {t' : Nat} (I : Inv X pins σ H s) (u : Un X.fs [] H H' s.heap h') (hok : HOk X.prog X.w H' h') : Inv X pins σ H' { s with heap := h', toks := t' } := by
  obtain ⟨m, ⟨o, es, ep, ho, r⟩, _⟩ := id I.loc
  obtain ⟨sl, hL⟩ := u.any ho I.free (by simp)
  exact I.step (g' := s.gens) (d' := s.drawn) (ch := []) (fun _ z => nomatch z) (fun b o _ hb _ e n => u.keep b o e n hb (by simp)) (fun b o _ hb _ e n => u.slot b o e n hb (by simp)) (fun b o _ e n => u.free b o e n (by simp)) (fun b o _ e => u.there b o e (by simp)) u.tups u.frzs u.tbls (fun m' hm => by
    obtain ⟨o', es', ep', ho', r'⟩ := hm
    rw [ho] at ho'; cases ho'
    exact ⟨_, es', ep', hL, r'⟩) hok I.bare
/-- behind a call (or a comprehension's block): the slots of this frame may have changed too, the records at ch may have turned -/
theorem Inv.call {g' : Array GenState} {t' : Nat} {d' : Drawn} {ch : List Addr} (I : Inv X pins σ H s) (u : Un (frs X.stack) ch H H' s.heap h') (hok : HOk X.prog X.w H' h') (hg : AllBare g')
    (hch : ∀ b ∈ ch, (b ∈ X.ex ∨ X.s₀.heap.objs.size ≤ b) ∧ b ≠ X.env.locals ∧ (∀ x c, X.env.cells.lookup x = some c → c ≠ b) ∧ ∀ p ∈ X.pn ++ pins, p.1 ≠ b) :
    Inv X pins σ H' { s with heap := h', gens := g', drawn := d', toks := t' } := by
  obtain ⟨m, ⟨o, es, ep, ho, r⟩, _⟩ := id I.loc
  obtain ⟨sl, hL⟩ := u.any ho I.free fun z => (hch _ z).2.1 rfl
  exact I.step (ch := ch) hch (fun b o hL hb hc e n => u.keep b o e n (fun z => (List.mem_cons.mp (I.stkSub b z)).elim hL hb) hc) (fun b o _ _ hc e n => u.any e n hc) (fun b o hc e n => u.free b o e n hc) (fun b o hc e => u.there b o e hc) u.tups u.frzs u.tbls (fun m' hm => by
    obtain ⟨o', es', ep', ho', r'⟩ := hm
    rw [ho] at ho'; cases ho'
    exact ⟨_, es', ep', hL, r'⟩) hok hg
/-- an untracked record of ours (an iterator) has turned -/
theorem Inv.turned {t' : Nat} {it : Addr} (I : Inv X pins σ H s) (k : ∀ b o, b ≠ it → s.heap.get? b = some o → h'.get? b = some o) (hn : H it = none) (hL : it ≠ X.env.locals)
    (h1 : it ∈ X.ex ∨ X.s₀.heap.objs.size ≤ it) (h2 : ∀ x c, X.env.cells.lookup x = some c → c ≠ it) (h3 : ∀ p ∈ X.pn ++ pins, p.1 ≠ it) : Inv X pins σ H { s with heap := h', toks := t' } := by
  have nit : ∀ b u, H b = some u → b ≠ it := fun b u e z => by rw [z, hn] at e; cases e
  refine I.step (g' := s.gens) (d' := s.drawn) (ch := [it]) (fun b hb => ?_) (fun b o _ _ hc e _ => k b o (fun z => hc (by simp [z])) e) (fun b o _ _ hc e _ => ⟨o.slots, k b o (fun z => hc (by simp [z])) e⟩) (fun _ _ _ _ n => n)
    (fun b o hc e => ⟨o, k b o (fun z => hc (by simp [z])) e⟩) (fun _ _ e => e) (fun _ _ _ e => e) (fun b ps e => ⟨#[], by rw [e]; simp⟩) (fun m hm => ?_) (fun b u e => ?_) I.bare
  · have e : b = it := by simpa using hb
    subst e
    exact ⟨h1, hL, h2, h3⟩
  · obtain ⟨o, es, ep, ho, r⟩ := hm
    exact ⟨o, es, ep, k _ o (Ne.symm hL) ho, r⟩
  · refine (I.hok b u e).stay (fun c v hc q => k c v ?_ q) (fun _ q => q) fun _ _ q => q
    rcases hc with z | z
    · rw [z]; exact nit b u e
    · exact nit c _ z
theorem Inv.tok (I : Inv X pins σ H s) (t : Nat) : Inv X pins σ H { s with toks := t } := I.un (h' := s.heap) (t' := t) Un.refl I.hok
/-- all objects kept -/
theorem Inv.kept {t' : Nat} (I : Inv X pins σ H s) (k : ∀ b u, s.heap.get? b = some u → h'.get? b = some u) : Inv X pins σ H { s with heap := h', toks := t' } := I.un (Un.kept k) (I.hok.kept k)
/-- a new object laid and tracked -/
theorem Inv.laid {a : Addr} {o : HO} {t' : Nat} (I : Inv X pins σ H s) (k : ∀ b u, s.heap.get? b = some u → h'.get? b = some u) (hp : s.heap.objs.size ≤ a) (new : ObjOk X.prog X.w (upd H a o) h' a o) :
    Inv X pins σ (upd H a o) { s with heap := h', toks := t' } := I.un (Un.laid k hp (I.hok.fresh hp)) (I.hok.laid k hp new)
/-- an object written -/
theorem Inv.write {x e : Addr} {o : HO} {t' : Nat} (I : Inv X pins σ H s) (mu : Mut (H x)) (he : e = x ∨ H e = some (.own x)) (k : ∀ b u, b ≠ e → s.heap.get? b = some u → h'.get? b = some u) (heo : ∃ u, h'.get? e = some u)
    (new : ObjOk X.prog X.w (upd H x o) h' x o) : Inv X pins σ (upd H x o) { s with heap := h', toks := t' } := I.un (Un.write mu he k heo) (I.hok.write mu he k heo new)
/-- forgetting slots, pins -/
theorem Inv.weak {σ' : List (Option V)} (I : Inv X pins σ H s) (hl : σ'.length = σ.length) (w : ∀ (i : Nat) v, σ'[i]? = some (some v) → σ[i]? = some (some v)) : Inv X pins σ' H s :=
  ⟨I.ok, I.os, I.bare, I.base, let ⟨m, hn, hl'⟩ := I.loc; ⟨m, hn, fun i x v e1 e2 e3 => hl' i x v e1 (w i v e2) e3⟩, I.cell, I.free, I.freeC, I.pin, I.hok, hl.trans I.len⟩
theorem Inv.pins_of {pins' : List (Addr × Obj)} (I : Inv X pins σ H s) (h : ∀ p ∈ pins', s.heap.get? p.1 = some p.2 ∧ H p.1 = none ∧ p.1 ≠ X.env.locals ∧ p.1 ∉ X.fs ∧ ∀ v, p.2.data ≠ .cell v) : Inv X pins' σ H s :=
  ⟨I.ok, I.os, I.bare, I.base, I.loc, I.cell, I.free, I.freeC, fun p hp => (List.mem_append.mp hp).elim (fun z => I.pin p (List.mem_append_left _ z)) (h p), I.hok, I.len⟩

theorem nodup_ix {N : List Str} (hN : N.Nodup) {i j : Nat} {x : Str} (a : N[i]? = some x) (b : N[j]? = some x) : i = j := by
  obtain ⟨h1, e1⟩ := List.getElem?_eq_some_iff.mp a
  obtain ⟨h2, e2⟩ := List.getElem?_eq_some_iff.mp b
  exact (List.getElem_inj hN).mp (e1.trans e2.symm)

/-- a name is stored; what changed -/
theorem store_ok2 {M : Model} {A : Around} {E : Value → Shared → Prop} {i : Nat} {x : Str} {v : V} {u : Value} {Q : Unit → Shared → Prop} (I : Inv X pins σ H s) (hN : X.N.Nodup) (hi : X.N[i]? = some x) (hx : Loc X.env.scope x) (r : RelV v u)
    (h : ∀ s', Inv X pins (σ.set i (some v)) H s' → (∃ a, Heap.SameBut a s.heap s'.heap ∧ (a = X.env.locals ∨ X.env.cells.lookup x = some a)) → Q () s') (hf : X.fn x = true ∨ X.env.scope.names.lookup x = some .local := by first | exact .inl rfl | exact .inr rfl | assumption) : wpAny M A (storeName X.env x u) Q E s := by
  obtain ⟨m, hn, hl⟩ := id I.loc
  have hcls : (X.env.scope.kind == .class || (X.env.scope.kind == .module && X.env.locals != X.env.globals)) = false := by rw [I.ok.kind]; rfl
  have hiσ : i < σ.length := by rw [I.len]; exact (List.getElem?_eq_some_iff.mp hi).1
  have cne := I.cne
  have tracked : ∀ {a : Addr} {h' : Heap}, (∃ o, s.heap.get? a = some o ∧ H a = none) → Heap.SameBut a s.heap h' → HOk X.prog X.w H h' := fun {a h'} ha hs b ob e => by
    obtain ⟨_, _, hfree⟩ := ha
    refine (I.hok b ob e).stay (fun c w' hc q => (hs.2 c ?_).trans q) (fun _ q => q) fun _ _ q => q
    rintro rfl
    rcases hc with rfl | hc
    · rw [hfree] at e; cases e
    · rw [hfree] at hc; cases hc
  rcases hx with hk | hk
  · refine wpAny_storeName_local hk hn (fun h' hn' hs => ?_) hcls
    obtain ⟨oL, _, _, hoL, _⟩ := id hn
    refine h _ ⟨I.ok, I.os, I.bare, ⟨fun b o e n hb hx => ?_, fun b o e n hb hx => ?_, I.base.free, fun b o e hx => ?_, I.base.tups, I.base.frzs, I.base.tbls⟩, ⟨_, hn', fun j y v' e1 e2 e3 => ?_⟩, fun y c e => ?_, I.free, I.freeC, fun p hp => ?_, tracked ⟨oL, hoL, I.free⟩ hs, by simpa using I.len⟩ ⟨_, hs, .inl rfl⟩
    · exact (hs.2 b (Nat.ne_of_lt (Nat.lt_of_lt_of_le (Heap.lt_size e) I.ok.above))).trans (I.base.keep b o e n hb hx)
    · obtain ⟨sl, e1⟩ := I.base.slot b o e n hb hx
      exact ⟨sl, (hs.2 b (Nat.ne_of_lt (Nat.lt_of_lt_of_le (Heap.lt_size e) I.ok.above))).trans e1⟩
    · obtain ⟨o', e1⟩ := I.base.there b o e hx
      exact ⟨o', (hs.2 b (Nat.ne_of_lt (Nat.lt_of_lt_of_le (Heap.lt_size e) I.ok.above))).trans e1⟩
    · by_cases hj : j = i
      · subst hj
        rw [hi] at e1; cases e1
        rw [List.getElem?_set_self hiσ] at e2
        cases e2
        exact ⟨u, r, .inl ⟨hk, by simp⟩⟩
      · rw [List.getElem?_set_ne (Ne.symm hj)] at e2
        obtain ⟨u', r', q⟩ := hl j y v' e1 e2 e3
        refine ⟨u', r', ?_⟩
        rcases q with ⟨k, e⟩ | ⟨k, c, e, z⟩
        · refine .inl ⟨k, ?_⟩
          have : y ≠ x := fun e => hj (nodup_ix hN e1 (e ▸ hi))
          simp [this, e]
        · exact .inr ⟨k, c, e, z.sameBut hs (cne y c e)⟩
    · obtain ⟨w', z⟩ := I.cell y c e
      exact ⟨w', z.sameBut hs (cne y c e)⟩
    · obtain ⟨e, n, ne, nf, d⟩ := I.pin p hp
      exact ⟨(hs.2 p.1 ne).trans e, n, ne, nf, d⟩
  · have hfn : X.fn x = true := by
      rcases hf with z | z
      · exact z
      · rw [z] at hk; cases hk
    obtain ⟨c, hc⟩ := I.ok.has x (.inl hk)
    obtain ⟨w', z⟩ := I.cell x c hc
    refine wpAny_storeName_cell I.ok.kind hk hc z (fun h' hc' hs => ?_)
    obtain ⟨oc, hoc, hocd⟩ := id z
    refine h { s with heap := h' } ⟨I.ok, I.os, I.bare, ⟨fun b o e n hb hx => ?_, fun b o e n hb hx => ?_, I.base.free, fun b o e hx => ?_, I.base.tups, I.base.frzs, I.base.tbls⟩, ⟨m, hn.sameBut hs (Ne.symm (cne x c hc)), fun j y v' e1 e2 e3 => ?_⟩, fun y c' e => ?_, I.free, I.freeC, fun p hp => ?_, tracked ⟨oc, hoc, I.freeC x c hc⟩ hs, by simpa using I.len⟩ ⟨c, hs, .inr hc⟩
    · exact (hs.2 b (Nat.ne_of_lt (Nat.lt_of_lt_of_le (Heap.lt_size e) (I.ok.cab x c hfn hc)))).trans (I.base.keep b o e n hb hx)
    · obtain ⟨sl, e1⟩ := I.base.slot b o e n hb hx
      exact ⟨sl, (hs.2 b (Nat.ne_of_lt (Nat.lt_of_lt_of_le (Heap.lt_size e) (I.ok.cab x c hfn hc)))).trans e1⟩
    · obtain ⟨o', e1⟩ := I.base.there b o e hx
      exact ⟨o', (hs.2 b (Nat.ne_of_lt (Nat.lt_of_lt_of_le (Heap.lt_size e) (I.ok.cab x c hfn hc)))).trans e1⟩
    · by_cases hj : j = i
      · subst hj
        rw [hi] at e1; cases e1
        rw [List.getElem?_set_self hiσ] at e2
        cases e2
        exact ⟨u, r, .inr ⟨.inl hk, c, hc, hc'⟩⟩
      · rw [List.getElem?_set_ne (Ne.symm hj)] at e2
        obtain ⟨u', r', q⟩ := hl j y v' e1 e2 e3
        refine ⟨u', r', ?_⟩
        rcases q with q | ⟨k, c', e, z'⟩
        · exact .inl q
        · refine .inr ⟨k, c', e, z'.sameBut hs ?_⟩
          rintro rfl
          exact hj (nodup_ix hN e1 (I.ok.inj _ _ _ e hc ▸ hi))
    · by_cases hcc : c' = c
      · subst hcc; exact ⟨_, hc'⟩
      · obtain ⟨w2, z2⟩ := I.cell y c' e
        exact ⟨w2, z2.sameBut hs hcc⟩
    · obtain ⟨e, n, ne, nf, d⟩ := I.pin p hp
      refine ⟨(hs.2 p.1 ?_).trans e, n, ne, nf, d⟩
      intro q
      rw [q, hoc] at e
      have q' : oc = p.2 := Option.some.inj e
      exact d w' (by rw [← q']; exact hocd)
theorem store_ok {M : Model} {A : Around} {E : Value → Shared → Prop} {i : Nat} {x : Str} {v : V} {u : Value} {Q : Unit → Shared → Prop} (I : Inv X pins σ H s) (hN : X.N.Nodup) (hi : X.N[i]? = some x) (hx : Loc X.env.scope x) (r : RelV v u)
    (h : ∀ s', Inv X pins (σ.set i (some v)) H s' → Q () s') (hf : X.fn x = true ∨ X.env.scope.names.lookup x = some .local := by first | exact .inl rfl | exact .inr rfl | assumption) : wpAny M A (storeName X.env x u) Q E s :=
  store_ok2 I hN hi hx r (fun s' I' _ => h s' I') hf
/-- behind a call or a block, the state as it is -/
theorem Inv.call' {s' : Shared} {ch : List Addr} (I : Inv X pins σ H s) (ho : s'.os = s.os) (u : Un (frs X.stack) ch H H' s.heap s'.heap) (hok : HOk X.prog X.w H' s'.heap) (hg : AllBare s'.gens)
    (hch : ∀ b ∈ ch, (b ∈ X.ex ∨ X.s₀.heap.objs.size ≤ b) ∧ b ≠ X.env.locals ∧ (∀ x c, X.env.cells.lookup x = some c → c ≠ b) ∧ ∀ p ∈ X.pn ++ pins, p.1 ≠ b) : Inv X pins σ H' s' := by
  obtain ⟨h', g', d', t', o'⟩ := s'
  have e : o' = s.os := ho
  subst e
  exact I.call (g' := g') (t' := t') (d' := d') u hok hg hch
end

/-! ### the judgements -/
/-- an exception: its class, its own dict's address (where it has one), the abstract heap behind it -/
abbrev XK := Value → Option Addr → Hp → Prop
abbrev St := List (Option V)
abbrev VK := V → Hp → Prop
/-- an expression's reading; a test's; an argument list's -/
abbrev TE := St → Hp → VK → Prop
abbrev TT := St → Hp → (Bool → Hp → Prop) → Prop
abbrev TA := St → Hp → (List V → Hp → Prop) → Prop
/-- what is wanted behind a statement -/
structure Ends where
  nx : St → Hp → Prop
  rt : VK
  bk : St → Hp → Prop := fun _ _ => False
  ct : St → Hp → Prop := fun _ _ => False
abbrev TS := Ends → St → Hp → Prop

def EP (X : Cx) (pins : List (Addr × Obj)) (σ : St) (Q : VK) (u : Value) (s' : Shared) : Prop := ∃ v H', Inv X pins σ H' s' ∧ RelV v u ∧ Q v H'
def TP (X : Cx) (pins : List (Addr × Obj)) (σ : St) (Q : Bool → Hp → Prop) (b : Bool) (s' : Shared) : Prop := ∃ H', Inv X pins σ H' s' ∧ Q b H'
def AP (X : Cx) (pins : List (Addr × Obj)) (σ : St) (Q : List V → Hp → Prop) (us : List Value) (s' : Shared) : Prop := ∃ vs H', Inv X pins σ H' s' ∧ Vals vs us ∧ Q vs H'
def SP (X : Cx) (pins : List (Addr × Obj)) (D : Ends) (f : Flow) (s' : Shared) : Prop :=
  match f with
  | .next => ∃ σ' H', Inv X pins σ' H' s' ∧ D.nx σ' H'
  | .brk => ∃ σ' H', Inv X pins σ' H' s' ∧ D.bk σ' H'
  | .cont => ∃ σ' H', Inv X pins σ' H' s' ∧ D.ct σ' H'
  | .ret u => ∃ v σ' H', Inv X pins σ' H' s' ∧ RelV v u ∧ D.rt v H'

def PE (X : Cx) (e : Expr) (t : TE) : Prop :=
  ∀ (pins : List (Addr × Obj)) (s : Shared) (σ : St) (H : Hp) (Q : VK), Inv X pins σ H s → t σ H Q → wpAny (model X.prog X.w) X.A (eval e X.env) (EP X pins σ Q) X.xe s
def PT (X : Cx) (e : Expr) (t : TT) : Prop :=
  ∀ (pins : List (Addr × Obj)) (s : Shared) (σ : St) (H : Hp) (Q : Bool → Hp → Prop), Inv X pins σ H s → t σ H Q → wpAny (model X.prog X.w) X.A (isTrue e X.env (eval e X.env)) (TP X pins σ Q) X.xe s
/-- a test whatever its 'whole' is (and, or) -/
def PW (X : Cx) (e : Expr) (t : TT) : Prop :=
  ∀ (whole : Sem Value) (pins : List (Addr × Obj)) (s : Shared) (σ : St) (H : Hp) (Q : Bool → Hp → Prop), Inv X pins σ H s → t σ H Q → wpAny (model X.prog X.w) X.A (isTrue e X.env whole) (TP X pins σ Q) X.xe s
theorem PW.pt {X : Cx} {e : Expr} {t : TT} (h : PW X e t) : PT X e t := h _
/-- an argument list (no star), from the left -/
def PA (X : Cx) (es : List Expr) (t : TA) : Prop :=
  ∀ (pos : Pos) (pins : List (Addr × Obj)) (s : Shared) (σ : St) (H : Hp) (Q : List V → Hp → Prop), Inv X pins σ H s → t σ H Q → wpAny (model X.prog X.w) X.A (spliced (backTo pos (starEach es X.env))) (AP X pins σ Q) X.xe s
def PS (X : Cx) (st : Stmt) (t : TS) : Prop :=
  ∀ (pins : List (Addr × Obj)) (s : Shared) (σ : St) (H : Hp) (D : Ends), Inv X pins σ H s → t D σ H → wpAny (model X.prog X.w) X.A (exec st X.env) (SP X pins D) X.xe s
def PSs (X : Cx) (st : List Stmt) (t : TS) : Prop :=
  ∀ (pins : List (Addr × Obj)) (s : Shared) (σ : St) (H : Hp) (D : Ends), Inv X pins σ H s → t D σ H → wpAny (model X.prog X.w) X.A (execs st X.env) (SP X pins D) X.xe s
/-- weaken the end -/
theorem thn {α : Type} {t : Sem α} {Q Q' : α → Shared → Prop} {M : Model} {A : Around} {E : Value → Shared → Prop} {s : Shared} (h : wpAny M A t Q E s) (hQ : ∀ a s, Q a s → Q' a s) : wpAny M A t Q' E s := wpAny_mono h hQ fun _ _ x => x
end L2

namespace L2
open PySem PySem.Spec PyProof.Rows
section
variable {X : Cx}

/-! ### names and constants -/
def tVar (i : Nat) : TE := fun σ H Q => ∃ v, σ[i]? = some (some v) ∧ Q v H
def tC (v : V) : TE := fun _ H Q => Q v H
theorem pe_var {i : Nat} {x : Str} {pos : Pos} (hN : X.N[i]? = some x) (hv : Vis X.env.scope x) (hd : (x == ("__debug__" : Str)) = false := by decide) (hcd : (x == ("__classdict__" : Str)) = false := by decide) : PE X (.Name x pos) (tVar i) := by
  intro pins s σ H Q I h
  obtain ⟨v, e, h⟩ := h
  obtain ⟨m, hn, hl⟩ := I.loc
  obtain ⟨u, r, l⟩ := hl i x v hN e hv
  have fin : EP X pins σ Q u s := ⟨v, H, I, r, h⟩
  rcases l with ⟨hk, hm⟩ | ⟨hk, c, hc, hcell⟩
  · exact wpAny_Name (wpAny_loadName_local I.ok.kind hk hn hm fin) hd
  · rcases hk with hk | hk
    · exact wpAny_Name (wpAny_loadName_cell I.ok.kind hk hc hcell fin) hd
    · exact wpAny_Name (wpAny_loadName_free I.ok.kind hk hc hcell fin hcd) hd
theorem pe_int {i j pos} : PE X (.Constant (.int i) j pos) (tC (.int i)) := fun _ _ _ H _ I h => wpAny_Constant_int ⟨.int i, H, I.tok _, ⟨_, rfl⟩, h⟩
theorem pe_bl {b j pos} : PE X (.Constant (.bool b) j pos) (tC (.bl b)) := fun _ _ _ H _ I h => Constant_bool ⟨.bl b, H, I, rfl, h⟩
theorem pe_non {j pos} : PE X (.Constant .none j pos) (tC .non) := fun _ _ _ H _ I h => Constant_none ⟨.non, H, I, rfl, h⟩
theorem pe_str {x j pos} : PE X (.Constant (.str x) j pos) (tC (.str x)) := fun _ _ _ H _ I h => Calls.Constant_str ⟨.str x, H, I.tok _, ⟨_, rfl⟩, h⟩

/-- a global name of the def -/
def Gl (X : Cx) (x : Str) : Prop := X.env.kindOf x = some .globalImplicit
theorem ld_glob {E : Value → Shared → Prop} {pins : List (Addr × Obj)} {s : Shared} {σ : St} {H : Hp} {x : Str} {u : Value} {pos : Pos} {Q : Value → Shared → Prop} (I : Inv X pins σ H s) (hg : Gl X x) (hm : X.mg x = some u) (h : Q u s)
    (hd : (x == ("__debug__" : Str)) = false := by decide) : wpAny (model X.prog X.w) X.A (eval (.Name x pos) X.env) Q E s :=
  Calls.Name_function_global I.ok.kind hg (Calls.loadGlobal_global (by rw [I.ok.glob]; exact I.mod.glob.keeps I.bk) hm h) hd
theorem ld_blt {E : Value → Shared → Prop} {pins : List (Addr × Obj)} {s : Shared} {σ : St} {H : Hp} {x : Str} {u : Value} {pos : Pos} {Q : Value → Shared → Prop} (I : Inv X pins σ H s) (hg : Gl X x) (hm : X.mg x = none) (hv : bootBuiltins x = some u) (h : Q u s)
    (hn : x ≠ "__name__" := by decide) (hd : (x == ("__debug__" : Str)) = false := by decide) : wpAny (model X.prog X.w) X.A (eval (.Name x pos) X.env) Q E s := by
  obtain ⟨mb, h1, h2⟩ := I.mod.blt
  exact Calls.Name_function_global I.ok.kind hg (Calls.loadGlobal_builtin (by rw [I.ok.glob]; exact I.mod.glob.keeps I.bk) hm (by rw [I.ok.blt]; exact h1.keeps I.bk) ((h2 x hn).trans hv) h) hd
/-- a module's constant, a class, a function, as a value -/
theorem pe_glob {x : Str} {v : V} {u : Value} {pos : Pos} (hg : Gl X x) (hm : X.mg x = some u) (r : RelV v u) (hd : (x == ("__debug__" : Str)) = false := by decide) : PE X (.Name x pos) (tC v) :=
  fun _ _ _ H _ I h => ld_glob I hg hm ⟨v, H, I, r, h⟩ hd
theorem pe_bltn {x : Str} {v : V} {u : Value} {pos : Pos} (hg : Gl X x) (hm : X.mg x = none) (hv : bootBuiltins x = some u) (r : RelV v u) (hn : x ≠ "__name__" := by decide) (hd : (x == ("__debug__" : Str)) = false := by decide) : PE X (.Name x pos) (tC v) :=
  fun _ _ _ H _ I h => ld_blt I hg hm hv ⟨v, H, I, r, h⟩ hn hd

/-! ### arithmetic -/
variable {a b : Expr} {ta tb : TE} {pos : Pos}
/-! ### comparisons -/
/-- a comparison as a value, as a test -/
def tB (t : TE) : TT := fun σ H Q => t σ H fun x H1 => ∃ c, x = .bl c ∧ Q c H1
/-- an expression whose value is a bool, as a test -/
theorem pt_val {e : Expr} {t : TE} (h : PE X e t) (he : ∀ whole, isTrue e X.env whole = (do let v ← whole; standAt e.pos; holding [v] (truthy v)) := by intro _; rfl) : PT X e (tB t) := by
  intro pins s σ H Q I hw
  refine isTrue_plain (thn (h pins s σ H _ I hw) fun v s1 ⟨x, H1, I1, r1, q1⟩ => ?_) (he _)
  obtain ⟨d, rfl, q⟩ := q1
  cases r1
  exact wpAny_truthy_bool ⟨H1, I1, q⟩

/-! ### and, or, not -/
variable {tA tB' : TT} {rest : List Expr}
def tAnd (t u : TT) : TT := fun σ H Q => t σ H fun c H1 => if c = true then u σ H1 Q else Q false H1
def tOr (t u : TT) : TT := fun σ H Q => t σ H fun c H1 => if c = true then Q true H1 else u σ H1 Q
def tNot (t : TT) : TT := fun σ H Q => t σ H fun c H1 => Q (!c) H1
theorem pw_and1 (ha : PT X a tA) : PW X (.BoolOp .And [a] pos) tA := by
  intro wh pins s σ H Q I h
  refine isTrue_and (thn (ha pins s σ H Q I h) fun c s1 e => ?_)
  cases c with
  | true => exact isTrue_and_nil e
  | false => exact e
theorem pw_or1 (ha : PT X a tA) : PW X (.BoolOp .Or [a] pos) tA := by
  intro wh pins s σ H Q I h
  refine isTrue_or (thn (ha pins s σ H Q I h) fun c s1 e => ?_)
  cases c with
  | false => exact isTrue_or_nil e
  | true => exact e
theorem pw_and (ha : PT X a tA) (hb : PW X (.BoolOp .And (b :: rest) pos) tB') : PW X (.BoolOp .And (a :: b :: rest) pos) (tAnd tA tB') := by
  intro wh pins s σ H Q I h
  refine isTrue_and (thn (ha pins s σ H _ I h) fun c s1 ⟨H1, I1, q1⟩ => ?_)
  cases c with
  | true => exact hb wh pins s1 σ H1 Q I1 q1
  | false => exact ⟨H1, I1, q1⟩
theorem pw_or (ha : PT X a tA) (hb : PW X (.BoolOp .Or (b :: rest) pos) tB') : PW X (.BoolOp .Or (a :: b :: rest) pos) (tOr tA tB') := by
  intro wh pins s σ H Q I h
  refine isTrue_or (thn (ha pins s σ H _ I h) fun c s1 ⟨H1, I1, q1⟩ => ?_)
  cases c with
  | true => exact ⟨H1, I1, q1⟩
  | false => exact hb wh pins s1 σ H1 Q I1 q1
theorem pt_not (ha : PT X a tA) : PT X (.UnaryOp .Not a pos) (tNot tA) := by
  intro pins s σ H Q I h
  exact isTrue_not (ha pins s σ H (fun c H1 => Q (!c) H1) I h)
/-- .. as values (bools) -/
def tAndV (ta tb : TE) : TE := fun σ H Q => ta σ H fun x H1 => ∃ c, x = .bl c ∧ if c = true then tb σ H1 Q else Q (.bl false) H1
def tNotV (ta : TE) : TE := fun σ H Q => ta σ H fun x H1 => ∃ c, x = .bl c ∧ Q (.bl (!c)) H1
theorem pe_one {op} {t : TE} (h : PE X a t) : PE X (.BoolOp op [a] pos) t := fun pins s σ H Q I hw => BoolOp_one (h pins s σ H Q I hw)
theorem pe_and (ha : PE X a ta) (hb : PE X (.BoolOp .And (b :: rest) pos) tb) : PE X (.BoolOp .And (a :: b :: rest) pos) (tAndV ta tb) := by
  intro pins s σ H Q I h
  refine BoolOp_and (thn (ha pins s σ H _ I h) fun v s1 ⟨x, H1, I1, r1, q1⟩ => ?_)
  obtain ⟨c, rfl, q1⟩ := q1
  cases r1
  refine wpAny_truthy_bool ?_
  cases c with
  | true => exact hb pins s1 σ H1 Q I1 q1
  | false => exact ⟨.bl false, H1, I1, rfl, q1⟩
theorem pe_not (ha : PE X a ta) : PE X (.UnaryOp .Not a pos) (tNotV ta) := by
  intro pins s σ H Q I h
  refine UnaryOp_ (thn (ha pins s σ H _ I h) fun v s1 ⟨x, H1, I1, r1, q1⟩ => ?_)
  obtain ⟨c, rfl, q1⟩ := q1
  cases r1
  exact not_of (wpAny_truthy_bool ⟨.bl (!c), H1, I1, rfl, q1⟩)
end
end L2

namespace L2
open PySem PySem.Spec PyProof.Rows

/-! ### a list, a tuple that is read: tracked, frozen, or an object of the module -/
def SqL (K : PySem.W.Frag) (H : Hp) (a : Addr) (xs : List V) : Prop :=
  Rd H a (.lst xs) ∨
    ∃ (o : Obj) (its : Array Value) (n : Nat), K.lookup a = some o ∧ o.cls = .type "list" ∧ o.dict = none ∧ o.data = .seq its n ∧ its.size ≤ sizeLine ∧ Vals xs its.toList
def SqT (K : PySem.W.Frag) (H : Hp) (a : Addr) (xs : List V) : Prop :=
  Rd H a (.tup xs) ∨
    ∃ (o : Obj) (its : Array Value) (n : Nat), K.lookup a = some o ∧ o.cls = .type "tuple" ∧ o.data = .seq its n ∧ its.size ≤ sizeLine ∧ Vals xs its.toList
def absV : Value → Option V
  | .none => some .non
  | .bool b => some (.bl b)
  | .int i _ => some (.int i)
  | .str x _ => some (.str x)
  | .bytes b _ => some (.byt b)
  | .float b _ => some (.flt b)
  | .ref a => some (.ref a)
  | .type n => some (.ty n)
  | _ => none
theorem RelV.abs {x : V} {u : Value} (r : RelV x u) : absV u = some x := by
  cases x with
  | non => cases r; rfl
  | bl _ => cases r; rfl
  | int _ => obtain ⟨t, rfl⟩ := r; rfl
  | str _ => obtain ⟨t, rfl⟩ := r; rfl
  | byt _ => obtain ⟨t, rfl⟩ := r; rfl
  | flt _ => obtain ⟨t, rfl⟩ := r; rfl
  | ref _ => cases r; rfl
  | ty _ => cases r; rfl
theorem RelV.inj {x y : V} {u : Value} (r : RelV x u) (q : RelV y u) : x = y := Option.some.inj (r.abs.symm.trans q.abs)
theorem Vals.inj : ∀ {xs ys : List V} {us : List Value}, Vals xs us → Vals ys us → xs = ys
  | _, _, _, .nil, .nil => rfl
  | _, _, _, .cons r t, .cons r' t' => by rw [r.inj r', Vals.inj t t']
section
variable {X : Cx} {pins : List (Addr × Obj)} {σ : St} {H : Hp} {s : Shared} {a : Addr} {xs ys : List V}
theorem SqL.of {K : PySem.W.Frag} (h : H a = some (.lst xs)) : SqL K H a xs := .inl (.inl h)
theorem SqT.of {K : PySem.W.Frag} (h : H a = some (.tup xs)) : SqT K H a xs := .inl (.inl h)
theorem Inv.list (I : Inv X pins σ H s) (h : SqL X.K H a xs) : ∃ its : List Value, Vals xs its ∧ PlainL s.heap a its.toArray ∧ xs.length ≤ sizeLine := by
  rcases h with h | ⟨o, its, n, hk, hc, hd, hs, hz, r⟩
  · obtain ⟨z, its, n, r, e⟩ := h.ok I.hok
    exact ⟨its, r, ⟨_, n, e, rfl, rfl, rfl⟩, z⟩
  · refine ⟨its.toList, r, ⟨o, n, I.kIn a o hk, hc, hd, by simpa using hs⟩, ?_⟩
    have e := r.length
    simp only [Array.length_toList] at e
    omega
theorem Inv.tuple (I : Inv X pins σ H s) (h : SqT X.K H a xs) : ∃ its : List Value, Vals xs its ∧ IsTup s.heap a its.toArray ∧ xs.length ≤ sizeLine := by
  rcases h with h | ⟨o, its, n, hk, hc, hs, hz, r⟩
  · obtain ⟨z, its, r, p⟩ := h.ok I.hok
    exact ⟨its, r, p, z⟩
  · refine ⟨its.toList, r, ⟨o, I.kIn a o hk, hc, n, by simpa using hs⟩, ?_⟩
    have e := r.length
    simp only [Array.length_toList] at e
    omega
theorem Inv.list_inj (I : Inv X pins σ H s) (h : SqL X.K H a xs) (h' : SqL X.K H a ys) : xs = ys := by
  obtain ⟨its, r, ⟨o, n, e, _, _, d⟩, _⟩ := I.list h
  obtain ⟨its', r', ⟨o', n', e', _, _, d'⟩, _⟩ := I.list h'
  rw [e] at e'; cases e'
  rw [d] at d'
  injection d' with d1 _
  have : its = its' := by simpa using congrArg Array.toList d1
  subst this
  exact r.inj r'
theorem Inv.tuple_inj (I : Inv X pins σ H s) (h : SqT X.K H a xs) (h' : SqT X.K H a ys) : xs = ys := by
  obtain ⟨its, r, ⟨o, e, _, n, d⟩, _⟩ := I.tuple h
  obtain ⟨its', r', ⟨o', e', _, n', d'⟩, _⟩ := I.tuple h'
  rw [e] at e'; cases e'
  rw [d] at d'
  injection d' with d1 _
  have : its = its' := by simpa using congrArg Array.toList d1
  subst this
  exact r.inj r'
end

/-! ### another wish about exceptions -/
abbrev Cx.wish (X : Cx) (E : Value → Shared → Prop) : Cx := { X with xe := E }
/-- no exception leaves -/
abbrev Cx.nox (X : Cx) : Cx := X.wish fun _ _ => False
theorem Cx.Ok.wish {X : Cx} (ok : X.Ok) (E : Value → Shared → Prop) : (X.wish E).Ok :=
  ⟨ok.mod, ok.kind, ok.glob, ok.blt, ok.above, ok.inj, ok.has, ok.cab, ok.hd, ok.frames, ok.stk, ok.exf, ok.bs, ok.bsz, ok.noex, ok.exfs, ok.funs, ok.frf⟩
theorem Cx.Ok.unwish {X : Cx} {E : Value → Shared → Prop} (ok : (X.wish E).Ok) : X.Ok :=
  ⟨ok.mod, ok.kind, ok.glob, ok.blt, ok.above, ok.inj, ok.has, ok.cab, ok.hd, ok.frames, ok.stk, ok.exf, ok.bs, ok.bsz, ok.noex, ok.exfs, ok.funs, ok.frf⟩
section
variable {X : Cx} {pins : List (Addr × Obj)} {σ : St} {H : Hp} {s : Shared} {E : Value → Shared → Prop}
theorem Inv.wish (I : Inv X pins σ H s) (E : Value → Shared → Prop) : Inv (X.wish E) pins σ H s := ⟨I.ok.wish E, I.os, I.bare, I.base, I.loc, I.cell, I.free, I.freeC, I.pin, I.hok, I.len⟩
theorem Inv.unwish (I : Inv (X.wish E) pins σ H s) : Inv X pins σ H s := ⟨I.ok.unwish, I.os, I.bare, I.base, I.loc, I.cell, I.free, I.freeC, I.pin, I.hok, I.len⟩
theorem SP.unwish {D : Ends} {f : Flow} {s' : Shared} (h : SP (X.wish E) pins D f s') : SP X pins D f s' := by
  cases f with
  | next => obtain ⟨σ', H', I, q⟩ := h; exact ⟨σ', H', I.unwish, q⟩
  | brk => obtain ⟨σ', H', I, q⟩ := h; exact ⟨σ', H', I.unwish, q⟩
  | cont => obtain ⟨σ', H', I, q⟩ := h; exact ⟨σ', H', I.unwish, q⟩
  | ret u => obtain ⟨v, σ', H', I, r, q⟩ := h; exact ⟨v, σ', H', I.unwish, r, q⟩
theorem PSs.nox {st : List Stmt} {t : TS} (h : PSs X.nox st t) : PSs X st t := fun pins s σ H D I hw =>
  wpAny_mono (h pins s σ H D (I.wish _) hw) (fun _ _ q => q.unwish) fun _ _ z => False.elim z
end

/-! ### blocks and small statements -/
section
variable {X : Cx} {st : Stmt} {rest : List Stmt} {t u : TS} {e : Expr} {te : TE} {pos : Pos}
def tNext : TS := fun D σ H => D.nx σ H
def tSeq (t u : TS) : TS := fun D σ H => t { D with nx := u D } σ H
theorem pss_nil : PSs X [] tNext := fun _ _ σ H _ I h => wpAny_execs_nil ⟨σ, H, I, h⟩
theorem pss_cons (h1 : PS X st t) (h2 : PSs X rest u) : PSs X (st :: rest) (tSeq t u) := by
  intro pins s σ H D I h
  refine wpAny_execs_cons (thn (h1 pins s σ H { D with nx := u D } I h) fun f s1 q => ?_)
  cases f with
  | next =>
    obtain ⟨σ', H', I', q⟩ := q
    exact h2 pins s1 σ' H' D I' q
  | ret v => exact q
  | brk => exact q
  | cont => exact q
theorem pss_one (h1 : PS X st t) : PSs X [st] t := by
  intro pins s σ H D I h
  refine wpAny_execs_cons (thn (h1 pins s σ H D I h) fun f s1 q => ?_)
  cases f with
  | next => exact wpAny_execs_nil q
  | ret v => exact q
  | brk => exact q
  | cont => exact q
/-- in a def's body nothing is shown -/
theorem Inv.quiet {pins : List (Addr × Obj)} {σ : St} {H : Hp} {s : Shared} (I : Inv X pins σ H s) : interactive X.env = false := by simp [interactive, I.ok.kind]
/-- an expression whose value is dropped -/
def tDrop (te : TE) : TS := fun D σ H => te σ H fun _ H1 => D.nx σ H1
theorem ps_expr (he : PE X e te) (hs : swapsWith e none pos.line X.env = pure false := by rfl) : PS X (.Expr e pos) (tDrop te) := by
  intro pins s σ H D I h
  exact wpAny_Expr_any (thn (he pins s σ H _ I h) fun v s1 ⟨x, H1, I1, r1, q1⟩ => ⟨σ, H1, I1, q1⟩) I.quiet hs
def tRet (te : TE) : TS := fun D σ H => te σ H D.rt
theorem ps_ret (he : PE X e te) : PS X (.Return (some e) pos) (tRet te) := by
  intro pins s σ H D I h
  exact wpAny_Return_some (thn (he pins s σ H _ I h) fun v s1 ⟨x, H1, I1, r1, q1⟩ => ⟨x, σ, H1, I1, r1, q1⟩)
def tIfS (c : TT) (t u : TS) : TS := fun D σ H => c σ H fun b H1 => if b = true then t D σ H1 else u D σ H1
theorem ps_if {c : Expr} {a b : List Stmt} {tc : TT} (hc : PT X c tc) (ha : PSs X a t) (hb : PSs X b u) : PS X (.If c a b pos) (tIfS tc t u) := by
  intro pins s σ H D I h
  refine wpAny_If (thn (hc pins s σ H _ I h) fun d s1 ⟨H1, I1, q1⟩ => ?_)
  cases d with
  | true => exact ha pins s1 σ H1 D I1 q1
  | false => exact hb pins s1 σ H1 D I1 q1
/-- code that the proof never comes to -/
def tNever : TS := fun _ _ _ => False
theorem pss_never {sts : List Stmt} : PSs X sts tNever := fun _ _ _ _ _ _ h => h.elim
end

/-! ### targets -/
abbrev TG := V → St → Hp → (St → Hp → Prop) → Prop
abbrev TGs := List V → St → Hp → (St → Hp → Prop) → Prop
def PG (X : Cx) (target : Expr) (t : TG) : Prop :=
  ∀ (pins : List (Addr × Obj)) (s : Shared) (σ : St) (H : Hp) (v : V) (u : Value) (Q : St → Hp → Prop), Inv X pins σ H s → RelV v u → t v σ H Q →
    wpAny (model X.prog X.w) X.A (assign target X.env u) (fun _ s' => ∃ σ' H', Inv X pins σ' H' s' ∧ Q σ' H') X.xe s
/-- several targets, one after another -/
def PGs (X : Cx) (ts : List Expr) (t : TGs) : Prop :=
  ∀ (pins : List (Addr × Obj)) (s : Shared) (σ : St) (H : Hp) (vs : List V) (us : List Value) (Q : St → Hp → Prop), Inv X pins σ H s → Vals vs us → t vs σ H Q →
    wpAny (model X.prog X.w) X.A (assignInOrder ((assignEach ts X.env).map (·.2)) us) (fun _ s' => ∃ σ' H', Inv X pins σ' H' s' ∧ Q σ' H') X.xe s
section
variable {X : Cx} {pos : Pos}
def gName (i : Nat) : TG := fun v σ H Q => Q (σ.set i (some v)) H
theorem pg_name {i : Nat} {x : Str} (hN : X.N.Nodup) (hi : X.N[i]? = some x) (hx : Loc X.env.scope x) (hf : X.fn x = true ∨ X.env.scope.names.lookup x = some .local := by first | exact .inl rfl | exact .inr rfl | assumption) : PG X (.Name x pos) (gName i) := by
  intro pins s σ H v u Q I r h
  exact wpAny_assign_Name (store_ok I hN hi hx r (fun s' I' => ⟨_, H, I', h⟩) hf)
def gNil : TGs := fun vs σ H Q => vs = [] ∧ Q σ H
def gCons (t : TG) (u : TGs) : TGs := fun vs σ H Q => ∃ v r, vs = v :: r ∧ t v σ H fun σ' H' => u r σ' H' Q
theorem pgs_nil : PGs X [] gNil := by
  intro pins s σ H vs us Q I r h
  obtain ⟨e, h⟩ := h
  subst e
  cases r
  exact assignInOrder_nil ⟨σ, H, I, h⟩
theorem pgs_cons {e : Expr} {es : List Expr} {t : TG} {u : TGs} (h1 : PG X e t) (h2 : PGs X es u)
    (hs : (assignEach (e :: es) X.env).map (·.2) = assign e X.env :: (assignEach es X.env).map (·.2) := by rfl) : PGs X (e :: es) (gCons t u) := by
  intro pins s σ H vs us Q I r h
  obtain ⟨v, vr, e1, h⟩ := h
  subst e1
  cases r with
  | cons r rr =>
    rw [hs]
    refine assignInOrder_cons (thn (h1 pins s σ H _ _ _ I r h) fun _ s1 ⟨σ1, H1, I1, q1⟩ => ?_)
    exact h2 pins s1 σ1 H1 _ _ Q I1 rr q1
/-- (a, b, ..) = a tuple of that length -/
def gTup (K : PySem.W.Frag) (n : Nat) (t : TGs) : TG := fun v σ H Q => ∃ a xs, v = .ref a ∧ SqT K H a xs ∧ xs.length = n ∧ t xs σ H Q
theorem pg_tup {es : List Expr} {k : Nat} {t : TGs} {n : Nat} (hc : X.calm = true) (h : PGs X es t)
    (hn : (assignEach es X.env).length = n := by rfl) (hst : (assignEach es X.env).findIdx? (·.1) = none := by rfl) : PG X (.Tuple es k pos) (gTup X.K n t) := by
  intro pins s σ H v u Q I r hw
  obtain ⟨a, xs, e1, hq, hl, hw⟩ := hw
  subst e1
  cases r
  obtain ⟨its, rv, ht, hz⟩ := I.tuple hq
  refine assign_Tuple_tuple (I.ok.hd hc) ht (by simp [hn, ← hl, rv.length]) hst fun h' hx => ?_
  have I1 : Inv X pins σ H { s with heap := h' } := I.kept (t' := s.toks) fun b o e => hx b o (Nat.ne_of_lt (Heap.lt_size e)) e
  exact h pins _ σ H xs _ Q I1 (by simpa using rv) hw
/-- target = value -/
def tAsg (te : TE) (g : TG) : TS := fun D σ H => te σ H fun x H1 => g x σ H1 D.nx
theorem ps_asg {tg e : Expr} {te : TE} {g : TG} (he : PE X e te) (hg : PG X tg g) (hs : swapsWithSole [tg] e pos.line X.env = pure false := by rfl) (hw : swappedStores [tg] e X.env = pure none := by rfl)
    (h1 : (assignEach [tg] X.env).map (·.2) = [assign tg X.env] := by rfl) : PS X (.Assign [tg] e pos) (tAsg te g) := by
  intro pins s σ H D I h
  refine wpAny_Assign_stores (thn (he pins s σ H _ I h) fun v s1 ⟨x, H1, I1, r1, q1⟩ => ?_) hs hw
  rw [h1]
  exact thn (hg pins s1 σ H1 x v _ I1 r1 q1) fun _ s2 q => q
/-- name = value -/
theorem ps_set {i : Nat} {x : Str} {e : Expr} {te : TE} {pos' : Pos} (hN : X.N.Nodup) (hi : X.N[i]? = some x) (hx : Loc X.env.scope x) (he : PE X e te) (hs : swapsWith e (some (.Name x pos')) pos.line X.env = pure false := by rfl) (hf : X.fn x = true ∨ X.env.scope.names.lookup x = some .local := by first | exact .inl rfl | exact .inr rfl | assumption) :
    PS X (.Assign [.Name x pos'] e pos) (tAsg te (gName i)) := by
  intro pins s σ H D I h
  refine wpAny_Assign_Name (thn (he pins s σ H _ I h) fun v s1 ⟨y, H1, I1, r1, q1⟩ => ?_) hs
  exact store_ok I1 hN hi hx r1 (fun s2 I2 => ⟨_, H1, I2, q1⟩) hf
end

/-! ### while -/
section
variable {X : Cx} {pos : Pos}
end

/-! ### what a loop or a comprehension walks -/
/-- at turn i: it yields x (the heap may grow), or it stops -/
structure It where
  go : Nat → Hp → Prop
  yld : Nat → Hp → V → Hp → Prop
  stop : Nat → Hp → Prop
/-- the iterator's own objects may turn: they are not the frame's, not pinned, younger than the entry (or a comprehension's own) -/
def FpOk (X : Cx) (pins : List (Addr × Obj)) (H : Hp) (b : Addr) : Prop :=
  H b = none ∧ b ≠ X.env.locals ∧ b ∉ X.fs ∧ (b ∈ X.ex ∨ X.s₀.heap.objs.size ≤ b) ∧ (∀ x c, X.env.cells.lookup x = some c → c ≠ b) ∧ ∀ p ∈ X.pn ++ pins, p.1 ≠ b
theorem Inv.fpOk {X : Cx} {pins : List (Addr × Obj)} {σ : St} {H H' : Hp} {s : Shared} {b : Addr} (I : Inv X pins σ H s) (hb : s.heap.objs.size ≤ b) (hn : H' b = none) : FpOk X pins H' b := by
  refine ⟨hn, Nat.ne_of_gt (Nat.lt_of_lt_of_le I.lt hb), I.nofs hb, .inr (Nat.le_trans I.sz hb), fun x c e z => ?_, fun p hp z => ?_⟩
  · obtain ⟨v, q⟩ := I.cell x c e
    exact absurd (Nat.lt_of_lt_of_le q.lt (by rw [z]; exact hb)) (Nat.lt_irrefl _)
  · exact absurd (Nat.lt_of_lt_of_le (Heap.lt_size (I.pin p hp).1) (by rw [z]; exact hb)) (Nat.lt_irrefl _)
structure Turn (P : Program) (w : World) (K : PySem.W.Frag) (tg : Expr) (J : It) (fp : List Addr) (it : Addr) (tn : Nat → Heap → Prop) : Prop where
  mem : it ∈ fp
  obj : ∀ i h, tn i h → ∀ b ∈ fp, ∃ o, h.get? b = some o ∧ ∀ v, o.data ≠ .cell v
  keep : ∀ i h h', tn i h → (∀ b ∈ fp, ∀ o, h.get? b = some o → h'.get? b = some o) → tn i h'
  item : ∀ (X : Cx), X.prog = P → X.w = w → X.K = K → X.calm = true → ∀ (i : Nat) (pins : List (Addr × Obj)) (s : Shared) (σ : St) (H : Hp) (E : Value → Shared → Prop), Inv X pins σ H s → (∀ b ∈ fp, FpOk X pins H b) → tn i s.heap → J.go i H →
    wpAny (model P w) X.A (pyNext (.ref it)) (fun r s1 => ∃ u, r = some u ∧
      wpAny (model P w) X.A (letOwnedTupleGo tg (.ref it) u) (fun _ s2 => ∃ x H', Inv X pins σ H' s2 ∧ RelV x u ∧ J.yld i H x H' ∧ tn (i + 1) s2.heap ∧ ∀ b ∈ fp, H' b = none) E s1) E s
  done : ∀ (X : Cx), X.prog = P → X.w = w → X.K = K → X.calm = true → ∀ (i : Nat) (pins : List (Addr × Obj)) (s : Shared) (σ : St) (H : Hp) (E : Value → Shared → Prop), Inv X pins σ H s → (∀ b ∈ fp, FpOk X pins H b) → tn i s.heap → J.stop i H →
    wpAny (model P w) X.A (pyNext (.ref it)) (fun r s1 => r = none ∧ Inv X pins σ H s1) E s
  self : ∀ (A : Around) (i : Nat) (s : Shared) (Q : Value → Shared → Prop) (E : Value → Shared → Prop), tn i s.heap → Q (.ref it) s → wpAny (model P w) A (pyIter (.ref it)) Q E s
abbrev TI := St → Hp → (It → Hp → Prop) → Prop
/-- an iterator has come -/
def PIE (X : Cx) (pins : List (Addr × Obj)) (σ : St) (tg : Expr) (R : It → Hp → Prop) (itv : Value) (s2 : Shared) : Prop :=
  ∃ (it : Addr) (fp : List Addr) (tn : Nat → Heap → Prop) (J : It) (H' : Hp), itv = .ref it ∧ Inv X pins σ H' s2 ∧ Turn X.prog X.w X.K tg J fp it tn ∧ tn 0 s2.heap ∧ (∀ b ∈ fp, FpOk X pins H' b) ∧ R J H'
def PI (X : Cx) (tg iter : Expr) (wi : TI) : Prop :=
  ∀ (pins : List (Addr × Obj)) (s : Shared) (σ : St) (H : Hp) (R : It → Hp → Prop), Inv X pins σ H s → wi σ H R →
    wpAny (model X.prog X.w) X.A (eval iter X.env) (fun v s1 => wpAny (model X.prog X.w) X.A (pyIter v) (PIE X pins σ tg R) X.xe s1) X.xe s

/-- the step ahead of the store is nothing for an iterator that keeps no tuple -/
theorem go_of {M : Model} {A : Around} {E : Value → Shared → Prop} {s : Shared} {tg : Expr} {it : Addr} {u : Value} {o : Obj} {n : String} {vs : Array Value} {Q : Unit → Shared → Prop} (ho : s.heap.get? it = some o) (hc : o.cls = .type n) (hd : o.data = .fields vs)
    (hn : ["enumerate", "zip", "dict_itemiterator", "dict_reverseitemiterator", "odict_iterator", "itertools.zip_longest", "itertools.pairwise"].contains n = false) (hQ : Q () s) : wpAny M A (letOwnedTupleGo tg (.ref it) u) Q E s := by
  unfold letOwnedTupleGo
  cases tg <;> first
    | exact wpAny_pure hQ
    | (cases u <;> first
        | exact wpAny_pure hQ
        | (refine wpAny_bind (wpAny_load ho ?_)
           rw [hc, hd]
           show wpAny M A (if (["enumerate", "zip", "dict_itemiterator", "dict_reverseitemiterator", "odict_iterator", "itertools.zip_longest", "itertools.pairwise"].contains n && vs[0]? == some (rawInt _)) = true then _ else _) Q E s
           rw [if_neg (by intro h; rw [hn, Bool.false_and] at h; cases h)]
           exact wpAny_pure hQ))

/-- the list at a, as it stands at each turn (a loop may append to it) -/
def Itl (K : PySem.W.Frag) (a : Addr) : It :=
  ⟨fun i H => ∃ xs x, SqL K H a xs ∧ xs[i]? = some x, fun i H x H' => H' = H ∧ ∀ xs, SqL K H a xs → xs[i]? = some x, fun i H => ∃ xs, SqL K H a xs ∧ xs.length ≤ i⟩
def Itt (K : PySem.W.Frag) (a : Addr) : It :=
  ⟨fun i H => ∃ xs x, SqT K H a xs ∧ xs[i]? = some x, fun i H x H' => H' = H ∧ ∀ xs, SqT K H a xs → xs[i]? = some x, fun i H => ∃ xs, SqT K H a xs ∧ xs.length ≤ i⟩
/-- lo, lo + 1, .. (n of them) -/
def Itr (lo : Int) (n : Nat) : It := ⟨fun i _ => i < n, fun i H x H' => H' = H ∧ x = .int (lo + i), fun i _ => n ≤ i⟩
theorem turn_list {P : Program} {w : World} {K : PySem.W.Frag} {tg : Expr} (a it : Addr) : Turn P w K tg (Itl K a) [it] it (fun i h => h.IsListIter it a i) where
  mem := by simp
  obj := fun i h st b hb => by
    have e : b = it := by simpa using hb
    subst e
    obtain ⟨o, e, c, d⟩ := st
    exact ⟨o, e, fun v z => by rw [d] at z; cases z⟩
  keep := fun i h h' st k => st.at fun o e => k it (by simp) o e
  item := by
    intro X hP hw hK hc i pins s σ H E I hf st hg
    subst hP hw hK
    obtain ⟨xs, x, hq, hx⟩ := hg
    obtain ⟨its, rv, p, hz⟩ := I.list hq
    obtain ⟨u, hu, ru⟩ := rv.get hx
    obtain ⟨f0, f1, f2, f3, f4, f5⟩ := hf it (by simp)
    refine wpAny_pyNext_list_item st p.isList (x := u) (by simpa using hu) fun h' st' sb => ?_
    have I1 : Inv X pins σ H { s with heap := h' } := I.turned (t' := s.toks) (fun b o hb e => (sb.2 b hb).trans e) f0 f1 f3 f4 f5
    obtain ⟨o, e, c, d⟩ := id st'
    exact ⟨u, rfl, go_of (s := { s with heap := h' }) e c d (by decide) ⟨x, H, I1, ru, ⟨rfl, fun ys hy => by rw [I.list_inj hy hq]; exact hx⟩, st', fun b hb => (hf b hb).1⟩⟩
  done := by
    intro X hP hw hK hc i pins s σ H E I hf st hg
    subst hP hw hK
    obtain ⟨xs, hq, hx⟩ := hg
    obtain ⟨its, rv, p, hz⟩ := I.list hq
    obtain ⟨f0, f1, f2, f3, f4, f5⟩ := hf it (by simp)
    have hl := rv.length
    exact wpAny_pyNext_list_end (I.ok.hd hc) st p.isList (by simp; omega) fun h' eb => ⟨rfl, I.turned (t' := s.toks) (fun b o hb e => eb b o hb e) f0 f1 f3 f4 f5⟩
  self := fun _ _ _ _ _ st h => wpAny_pyIter_listiter st h
theorem turn_tuple {P : Program} {w : World} {K : PySem.W.Frag} {tg : Expr} (a it : Addr) : Turn P w K tg (Itt K a) [it] it (fun i h => h.IsTupleIter it a i) where
  mem := by simp
  obj := fun i h st b hb => by
    have e : b = it := by simpa using hb
    subst e
    obtain ⟨o, e, c, d⟩ := st
    exact ⟨o, e, fun v z => by rw [d] at z; cases z⟩
  keep := fun i h h' st k => st.at fun o e => k it (by simp) o e
  item := by
    intro X hP hw hK hc i pins s σ H E I hf st hg
    subst hP hw hK
    obtain ⟨xs, x, hq, hx⟩ := hg
    obtain ⟨its, rv, p, hz⟩ := I.tuple hq
    obtain ⟨u, hu, ru⟩ := rv.get hx
    obtain ⟨f0, f1, f2, f3, f4, f5⟩ := hf it (by simp)
    refine wpAny_pyNext_tuple_item st (show s.heap.IsTuple a its.toArray from p) (x := u) (by simpa using hu) fun h' st' sb => ?_
    have I1 : Inv X pins σ H { s with heap := h' } := I.turned (t' := s.toks) (fun b o hb e => (sb.2 b hb).trans e) f0 f1 f3 f4 f5
    obtain ⟨o, e, c, d⟩ := id st'
    exact ⟨u, rfl, go_of (s := { s with heap := h' }) e c d (by decide) ⟨x, H, I1, ru, ⟨rfl, fun ys hy => by rw [I.tuple_inj hy hq]; exact hx⟩, st', fun b hb => (hf b hb).1⟩⟩
  done := by
    intro X hP hw hK hc i pins s σ H E I hf st hg
    subst hP hw hK
    obtain ⟨xs, hq, hx⟩ := hg
    obtain ⟨its, rv, p, hz⟩ := I.tuple hq
    obtain ⟨f0, f1, f2, f3, f4, f5⟩ := hf it (by simp)
    have hl := rv.length
    exact wpAny_pyNext_tuple_end (I.ok.hd hc) st (show s.heap.IsTuple a its.toArray from p) (by simp; omega) fun h' eb => ⟨rfl, I.turned (t' := s.toks) (fun b o hb e => eb b o hb e) f0 f1 f3 f4 f5⟩
  self := fun _ _ _ _ _ st h => wpAny_pyIter_tupleiter st h
theorem turn_range {P : Program} {w : World} {K : PySem.W.Frag} {tg : Expr} (it : Addr) (lo : Int) (n : Nat) : Turn P w K tg (Itr lo n) [it] it (fun i h => IsRangeIter h it (lo + (i : Nat) * 1) ((n : Int) - (i : Nat)) 1) where
  mem := by simp
  obj := fun i h st b hb => by
    have e : b = it := by simpa using hb
    subst e
    exact ⟨_, st, fun v z => by
      have z' : Data.fields _ = Data.cell v := z
      cases z'⟩
  keep := fun i h h' st k => k it (by simp) _ st
  item := by
    intro X hP hw hK hc i pins s σ H E I hf st hg
    subst hP hw hK
    obtain ⟨f0, f1, f2, f3, f4, f5⟩ := hf it (by simp)
    have W := Walks.range (prog := X.prog) (w := X.w) (I.ok.hd hc) it lo 1 n
    refine W.item i s _ _ hg st fun v h' tk hv st' kk => ?_
    obtain ⟨t, rfl⟩ := hv
    have I1 : Inv X pins σ H { s with heap := h', toks := tk } := I.turned (fun b o hb e => kk b o (by simpa using hb) e) f0 f1 f3 f4 f5
    refine ⟨_, rfl, go_of (s := { s with heap := h', toks := tk }) (n := "range_iterator") st' rfl rfl (by decide) ⟨.int (lo + i), H, I1, ⟨t, ?_⟩, ⟨rfl, rfl⟩, st', fun b hb => (hf b hb).1⟩⟩
    rw [Int.mul_one]
  done := by
    intro X hP hw hK hc i pins s σ H E I hf st hg
    subst hP hw hK
    obtain ⟨f0, f1, f2, f3, f4, f5⟩ := hf it (by simp)
    exact wpAny_pyNext_range_end (I.ok.hd hc) st (by have : n ≤ i := hg; omega) fun h' eb => ⟨rfl, I.turned (t' := s.toks) (fun b o hb e => eb b o hb e) f0 f1 f3 f4 f5⟩
  self := fun _ _ _ _ _ st h => wpAny_pyIter_rangeiter st h
end L2

namespace L2
open PySem PySem.Spec PyProof.Rows
section
variable {X : Cx} {tg : Expr}
def iList (K : PySem.W.Frag) (tl : TE) : TI := fun σ H R => tl σ H fun x H1 => ∃ a, x = .ref a ∧ (∃ xs, SqL K H1 a xs) ∧ R (Itl K a) H1
def iTup (K : PySem.W.Frag) (tl : TE) : TI := fun σ H R => tl σ H fun x H1 => ∃ a, x = .ref a ∧ (∃ xs, SqT K H1 a xs) ∧ R (Itt K a) H1
theorem pi_list {l : Expr} {tl : TE} (hl : PE X l tl) : PI X tg l (iList X.K tl) := by
  intro pins s σ H R I h
  refine thn (hl pins s σ H _ I h) fun v s1 ⟨x, H1, I1, r1, q1⟩ => ?_
  obtain ⟨a, e, ⟨xs, hq⟩, q⟩ := q1
  subst e
  cases r1
  obtain ⟨its, rv, p, hz⟩ := I1.list hq
  refine wpAny_pyIter_list p.isList ?_
  refine ⟨s1.heap.objs.size, [s1.heap.objs.size], _, _, H1, rfl, I1.kept (t' := s1.toks) fun b o e => Heap.get?_push_of_some _ e, turn_list a _, ⟨_, Heap.get?_push_size _ rfl, rfl, rfl⟩, fun b hb => ?_, q⟩
  have e : b = s1.heap.objs.size := by simpa using hb
  subst e
  exact I1.fpOk (Nat.le_refl _) (I1.hok.fresh (Nat.le_refl _))
theorem pi_tup {l : Expr} {tl : TE} (hl : PE X l tl) : PI X tg l (iTup X.K tl) := by
  intro pins s σ H R I h
  refine thn (hl pins s σ H _ I h) fun v s1 ⟨x, H1, I1, r1, q1⟩ => ?_
  obtain ⟨a, e, ⟨xs, hq⟩, q⟩ := q1
  subst e
  cases r1
  obtain ⟨its, rv, p, hz⟩ := I1.tuple hq
  refine wpAny_pyIter_tuple (show s1.heap.IsTuple a its.toArray from p) ?_
  refine ⟨s1.heap.objs.size, [s1.heap.objs.size], _, _, H1, rfl, I1.kept (t' := s1.toks) fun b o e => Heap.get?_push_of_some _ e, turn_tuple a _, ⟨_, Heap.get?_push_size _ rfl, rfl, rfl⟩, fun b hb => ?_, q⟩
  have e : b = s1.heap.objs.size := by simpa using hb
  subst e
  exact I1.fpOk (Nat.le_refl _) (I1.hok.fresh (Nat.le_refl _))
/-- a range object just made, walked -/
theorem range_it {pins : List (Addr × Obj)} {σ : St} {H : Hp} {s : Shared} {R : It → Hp → Prop} {E : Value → Shared → Prop} {lo hi : Int} {t u v : Tok} {tk : Nat} (I : Inv X pins σ H s) (h1 : -(2 ^ 62) ≤ lo) (h2 : lo < 2 ^ 62) (h3 : -(2 ^ 62) ≤ hi) (h4 : hi < 2 ^ 62)
    (q : R (Itr lo (hi - lo).toNat) H) : wpAny (model X.prog X.w) X.A (pyIter (.ref s.heap.objs.size)) (PIE X pins σ tg R) E { s with heap := s.heap.push { cls := .type "range", data := .fields #[.int lo t, .int hi u, .int 1 v] }, toks := tk } := by
  refine wpAny_pyIter_range (IsRange.new ..) (small_one h1 h2 h3 h4) ?_
  have I1 : Inv X pins σ H { s with heap := s.heap.push { cls := .type "range", data := .fields #[.int lo t, .int hi u, .int 1 v] }, toks := tk } := I.kept fun b o e => Heap.get?_push_of_some _ e
  refine ⟨(s.heap.push { cls := .type "range", data := .fields #[.int lo t, .int hi u, .int 1 v] }).objs.size, [(s.heap.push { cls := .type "range", data := .fields #[.int lo t, .int hi u, .int 1 v] }).objs.size], _, _, H, rfl,
    I1.kept (t' := tk) fun b o e => Heap.get?_push_of_some _ e, turn_range _ lo (hi - lo).toNat, ?_, fun b hb => ?_, q⟩
  · have e1 : lo + ((0 : Nat) : Int) * 1 = lo := by simp
    have e2 : (((hi - lo).toNat : Nat) : Int) - ((0 : Nat) : Int) = Builtin.Range.rangeSize lo hi 1 := by rw [rangeSize_one]; split <;> omega
    show IsRangeIter _ _ (lo + ((0 : Nat) : Int) * 1) ((((hi - lo).toNat : Nat) : Int) - ((0 : Nat) : Int)) 1
    rw [e1, e2]
    exact Heap.get?_push_size _ rfl
  · have e : b = (s.heap.push { cls := .type "range", data := .fields #[.int lo t, .int hi u, .int 1 v] }).objs.size := by simpa using hb
    subst e
    exact I1.fpOk (Nat.le_refl _) (I1.hok.fresh (Nat.le_refl _))
def iRng1 (ta : TA) : TI := fun σ H R => ta σ H fun vs H1 => ∃ j : Int, vs = [.int j] ∧ -(2 ^ 62) ≤ j ∧ j < 2 ^ 62 ∧ R (Itr 0 j.toNat) H1
theorem pi_range1 {a : Expr} {ta : TA} {p pos : Pos} (hg : Gl X "range") (hm : X.mg "range" = none) (ha : PA X [a] ta) (hs : starEach [a] X.env = [(false, eval a X.env)] := by rfl) : PI X tg (.Call (.Name "range" p) [a] [] pos) (iRng1 ta) := by
  intro pins s σ H R I h
  refine Call_ (ld_blt I hg hm boot_range (PyProof.Rows.callWith_type1 (thn (ha pos pins s σ H _ I h) fun us s1 ⟨vs, H1, I1, r1, q1⟩ => ?_) hs rfl))
  obtain ⟨j, e, q1, q2, q⟩ := q1
  subst e
  cases r1 with
  | cons r rr =>
    cases rr
    obtain ⟨t, rfl⟩ := r
    exact call_range_1 (range_it I1 (by omega) (by omega) q1 q2 (by simpa using q))
/-! ### for -/
/-- W: the invariant by the turn and a measure; N: what the body is to reach -/
def tFor (wi : TI) (g : TG) (tb : TS) : TS := fun D σ H => wi σ H fun J H1 => ∃ W : Nat → Nat → St → Hp → Prop, (∃ m, W 0 m σ H1) ∧ ∀ i m σ H, W i m σ H →
  (J.stop i H ∧ D.nx σ H) ∨ (J.go i H ∧ ∃ N : St → Hp → Prop, (∀ σ' H', N σ' H' → ∃ m', m' < m ∧ W (i + 1) m' σ' H') ∧ ∀ x H', J.yld i H x H' → g x σ H' fun σ2 H2 => tb { D with nx := N, ct := N, bk := D.nx } σ2 H2)
/-- the records at fp as they stand -/
def pinsAt (fp : List Addr) (h : Heap) : List (Addr × Obj) := fp.filterMap fun b => (h.get? b).map fun o => (b, o)
theorem mem_pinsAt {fp : List Addr} {h : Heap} {b : Addr} {o : Obj} (hb : b ∈ fp) (e : h.get? b = some o) : (b, o) ∈ pinsAt fp h := List.mem_filterMap.mpr ⟨b, hb, by rw [e]; rfl⟩
theorem of_pinsAt {fp : List Addr} {h : Heap} {p : Addr × Obj} (hp : p ∈ pinsAt fp h) : p.1 ∈ fp ∧ h.get? p.1 = some p.2 := by
  obtain ⟨b, hb, e⟩ := List.mem_filterMap.mp hp
  cases q : h.get? b with
  | none => rw [q] at e; cases e
  | some o =>
    rw [q] at e
    have e' : (b, o) = p := Option.some.inj e
    subst e'
    exact ⟨hb, q⟩
theorem Inv.pinned {pins : List (Addr × Obj)} {σ : St} {H : Hp} {s : Shared} {fp : List Addr} (I : Inv X pins σ H s) (hf : ∀ b ∈ fp, FpOk X pins H b) (ho : ∀ b ∈ fp, ∃ o, s.heap.get? b = some o ∧ ∀ v, o.data ≠ .cell v) : Inv X (pins ++ pinsAt fp s.heap) σ H s :=
  I.pins_of fun p hp => (List.mem_append.mp hp).elim (fun z => I.pin p (List.mem_append_right _ z)) fun z => by
    obtain ⟨hb, e⟩ := of_pinsAt z
    obtain ⟨f0, f1, f2, _⟩ := hf p.1 hb
    obtain ⟨o, e', d⟩ := ho p.1 hb
    rw [e] at e'; cases e'
    exact ⟨e, f0, f1, f2, d⟩
theorem Inv.unpinned {pins pl : List (Addr × Obj)} {σ : St} {H : Hp} {s : Shared} (I : Inv X (pins ++ pl) σ H s) : Inv X pins σ H s := I.pins_of fun p hp => I.pin p (List.mem_append_right _ (List.mem_append_left _ hp))
theorem ps_for {iter : Expr} {body : List Stmt} {wi : TI} {g : TG} {tb : TS} {pos : Pos} (hp : PassesOwn (model X.prog X.w) X.A X.env X.xe) (hc : X.calm = true) (hi : PI X tg iter wi) (hg : PG X tg g) (hb : PSs X body tb)
    (hs : ∀ x, foldedSetIterable iter X.env x = pure x := by intro _; rfl) : PS X (.For tg iter body [] pos) (tFor wi g tb) := by
  intro pins s σ H D I h
  refine wpAny_For (thn (hi pins s σ H _ I h) fun v s1 h1 => thn h1 fun itv s2 h2 => ?_) hs
  obtain ⟨it, fp, tn, J, H2, e, I2, T, st2, f2, W, ⟨m0, w0⟩, turn⟩ := h2
  subst e
  -- what stays true of the iterator's objects through the loop
  have stat : ∀ {H' : Hp}, (∀ b ∈ fp, H' b = none) → ∀ b ∈ fp, FpOk X pins H' b := fun hn b hb => ⟨hn b hb, (f2 b hb).2⟩
  refine codeAny_forLoop_any (fun n s' => ∃ i σ' H', Inv X pins σ' H' s' ∧ tn i s'.heap ∧ (∀ b ∈ fp, H' b = none) ∧ W i n σ' H') ?_ m0 ⟨0, σ, H2, I2, st2, fun b hb => (f2 b hb).1, w0⟩
  rintro n s3 ⟨i, σ3, H3, I3, st3, fr3, w3⟩
  rcases turn i n σ3 H3 w3 with ⟨stop, qn⟩ | ⟨go, N, hN, step⟩
  · refine wpAny_passesOwn hp (thn (T.done X rfl rfl rfl hc i pins s3 σ3 H3 X.xe I3 (stat fr3) st3 stop) fun r s4 ⟨hr, I4⟩ => ?_)
    subst hr
    exact wpAny_execs_nil ⟨σ3, H3, I4, qn⟩
  · refine wpAny_passesOwn hp (thn (T.item X rfl rfl rfl hc i pins s3 σ3 H3 X.xe I3 (stat fr3) st3 go) fun r s4 ⟨u, hr, h4⟩ => ?_)
    subst hr
    refine wpAny_passesOwn hp (thn h4 fun _ s5 ⟨x, H5, I5, r5, y5, st5, fr5⟩ => ?_)
    have I5' := I5.pinned (stat fr5) (T.obj _ _ st5)
    refine wpAny_passesOwn hp (thn (hg _ s5 σ3 H5 x u _ I5' r5 (step x H5 y5)) fun _ s6 ⟨σ6, H6, I6, q6⟩ => ?_)
    refine wpAny_passesOwn hp (thn (hb _ s6 σ6 H6 _ I6 q6) fun f s7 q7 => ?_)
    have again : ∀ {σ7 : St} {H7 : Hp}, Inv X (pins ++ pinsAt fp s5.heap) σ7 H7 s7 → N σ7 H7 → ∃ m, m < n ∧ ∃ i σ' H', Inv X pins σ' H' s7 ∧ tn i s7.heap ∧ (∀ b ∈ fp, H' b = none) ∧ W i m σ' H' := fun {σ7 H7} I7 n7 => by
      obtain ⟨m', hm, w7⟩ := hN σ7 H7 n7
      refine ⟨m', hm, i + 1, σ7, H7, I7.unpinned, T.keep _ _ _ st5 fun b hb o e => (I7.pin (b, o) (List.mem_append_right _ (List.mem_append_right _ (mem_pinsAt hb e)))).1, fun b hb => ?_, w7⟩
      obtain ⟨o, e, d⟩ := T.obj _ _ st5 b hb
      exact (I7.pin (b, o) (List.mem_append_right _ (List.mem_append_right _ (mem_pinsAt hb e)))).2.1
    cases f with
    | next => obtain ⟨σ7, H7, I7, n7⟩ := q7; exact again I7 n7
    | cont => obtain ⟨σ7, H7, I7, n7⟩ := q7; exact again I7 n7
    | brk => obtain ⟨σ7, H7, I7, q7⟩ := q7; exact ⟨σ7, H7, I7.unpinned, q7⟩
    | ret v => obtain ⟨x7, σ7, H7, I7, r7, q7⟩ := q7; exact ⟨x7, σ7, H7, I7.unpinned, r7, q7⟩
end

/-! ### the forms one uses -/
/-- over a list that the body leaves as it is -/
theorem for_list {K : PySem.W.Frag} {a : Addr} {xs : List V} {g : TG} {tb : TS} {D : Ends} {σ : St} {H : Hp} (Pv : Nat → St → Hp → Prop) (h0 : Pv 0 σ H) (hl : ∀ i σ H, i ≤ xs.length → Pv i σ H → SqL K H a xs)
    (hs : ∀ i x σ H, xs[i]? = some x → Pv i σ H → g x σ H fun σ2 H2 => tb { D with nx := Pv (i + 1), ct := Pv (i + 1), bk := D.nx } σ2 H2) (hd : ∀ σ H, Pv xs.length σ H → D.nx σ H) :
    ∃ W : Nat → Nat → St → Hp → Prop, (∃ m, W 0 m σ H) ∧ ∀ i m σ H, W i m σ H →
      ((Itl K a).stop i H ∧ D.nx σ H) ∨ ((Itl K a).go i H ∧ ∃ N : St → Hp → Prop, (∀ σ' H', N σ' H' → ∃ m', m' < m ∧ W (i + 1) m' σ' H') ∧ ∀ x H', (Itl K a).yld i H x H' → g x σ H' fun σ2 H2 => tb { D with nx := N, ct := N, bk := D.nx } σ2 H2) := by
  refine ⟨fun i m σ H => m = xs.length - i ∧ i ≤ xs.length ∧ Pv i σ H, ⟨xs.length, by simp, Nat.zero_le _, h0⟩, ?_⟩
  rintro i m σ H ⟨rfl, hi, p⟩
  have q := hl i σ H hi p
  by_cases hlt : i < xs.length
  · refine .inr ⟨⟨xs, xs[i], q, by simp [hlt]⟩, Pv (i + 1), fun σ' H' p' => ⟨xs.length - (i + 1), by omega, rfl, hlt, p'⟩, fun x H' y => ?_⟩
    obtain ⟨e, y⟩ := y
    subst e
    exact hs i x σ _ (y xs q) p
  · have e : i = xs.length := by omega
    subst e
    exact .inl ⟨⟨xs, q, Nat.le_refl _⟩, hd σ H p⟩
theorem for_range {lo : Int} {n : Nat} {g : TG} {tb : TS} {D : Ends} {σ : St} {H : Hp} (Pv : Nat → St → Hp → Prop) (h0 : Pv 0 σ H)
    (hs : ∀ i σ H, i < n → Pv i σ H → g (.int (lo + i)) σ H fun σ2 H2 => tb { D with nx := Pv (i + 1), ct := Pv (i + 1), bk := D.nx } σ2 H2) (hd : ∀ σ H, Pv n σ H → D.nx σ H) :
    ∃ W : Nat → Nat → St → Hp → Prop, (∃ m, W 0 m σ H) ∧ ∀ i m σ H, W i m σ H →
      ((Itr lo n).stop i H ∧ D.nx σ H) ∨ ((Itr lo n).go i H ∧ ∃ N : St → Hp → Prop, (∀ σ' H', N σ' H' → ∃ m', m' < m ∧ W (i + 1) m' σ' H') ∧ ∀ x H', (Itr lo n).yld i H x H' → g x σ H' fun σ2 H2 => tb { D with nx := N, ct := N, bk := D.nx } σ2 H2) := by
  refine ⟨fun i m σ H => m = n - i ∧ i ≤ n ∧ Pv i σ H, ⟨n, by simp, Nat.zero_le _, h0⟩, ?_⟩
  rintro i m σ H ⟨rfl, hi, p⟩
  by_cases hlt : i < n
  · refine .inr ⟨hlt, Pv (i + 1), fun σ' H' p' => ⟨n - (i + 1), by omega, rfl, hlt, p'⟩, fun x H' y => ?_⟩
    obtain ⟨e, y⟩ := y
    subst e y
    exact hs i σ _ hlt p
  · have e : i = n := by omega
    subst e
    exact .inl ⟨Nat.le_refl _, hd σ H p⟩
end L2

namespace L2
open PySem PySem.Spec PyProof.Rows

abbrev R2 := V → V → Hp → VK → Prop
/-- a two-place operation on values: f is binaryOp op, inplaceOp op or compareOp op -/
def OpR (X : Cx) (f : Value → Value → Sem Value) (r : R2) : Prop :=
  ∀ (pins : List (Addr × Obj)) (s : Shared) (σ : St) (H : Hp) (x y : V) (v u : Value) (Q : VK), Inv X pins σ H s → RelV x v → RelV y u → r x y H Q →
    wpAny (model X.prog X.w) X.A (f v u) (EP X pins σ Q) X.xe s
/-- a one-place operation -/
def UnR (X : Cx) (f : Value → Sem Value) (r : V → Hp → VK → Prop) : Prop :=
  ∀ (pins : List (Addr × Obj)) (s : Shared) (σ : St) (H : Hp) (x : V) (v : Value) (Q : VK), Inv X pins σ H s → RelV x v → r x H Q →
    wpAny (model X.prog X.w) X.A (f v) (EP X pins σ Q) X.xe s
/-- a call of a value that is known (a builtin, a type) with values -/
def CallR (X : Cx) (f : Value) (r : List V → Hp → VK → Prop) : Prop :=
  ∀ (pins : List (Addr × Obj)) (s : Shared) (σ : St) (H : Hp) (xs : List V) (us : List Value) (Q : VK), Inv X pins σ H s → Vals xs us → r xs H Q →
    wpAny (model X.prog X.w) X.A (call f us) (EP X pins σ Q) X.xe s
def tOp (r : R2) (ta tb : TE) : TE := fun σ H Q => ta σ H fun x H1 => tb σ H1 fun y H2 => r x y H2 Q
def tUn (r : V → Hp → VK → Prop) (ta : TE) : TE := fun σ H Q => ta σ H fun x H1 => r x H1 Q
/-- ints in, under C, and a value out -/
def rI (C : Int → Int → Prop) (g : Int → Int → V) : R2 := fun x y H Q => ∃ i j, x = .int i ∧ y = .int j ∧ C i j ∧ Q (g i j) H
def rI0 (g : Int → Int → V) : R2 := fun x y H Q => ∃ i j, x = .int i ∧ y = .int j ∧ Q (g i j) H
def rU (g : Int → V) : V → Hp → VK → Prop := fun x H Q => ∃ i, x = .int i ∧ Q (g i) H

section
variable {X : Cx} {a b c : Expr} {ta tb tc : TE} {pos : Pos}

theorem binT (ha : PE X a ta) (hb : PE X b tb) {pins : List (Addr × Obj)} {s : Shared} {σ : St} {H : Hp} {R : V → V → Hp → Prop} (I : Inv X pins σ H s)
    (h : ta σ H fun x H1 => tb σ H1 fun y H2 => R x y H2) {Q : Value → Shared → Prop} {f : Value → Value → Sem Value}
    (hf : ∀ v u s2 x y H2, Inv X pins σ H2 s2 → RelV x v → RelV y u → R x y H2 → wpAny (model X.prog X.w) X.A (f v u) Q X.xe s2) :
    wpAny (model X.prog X.w) X.A (eval a X.env) (fun v s₁ => wpAny (model X.prog X.w) X.A (eval b X.env) (fun u s₂ => wpAny (model X.prog X.w) X.A (f v u) Q X.xe s₂) X.xe s₁) X.xe s := by
  refine thn (ha pins s σ H _ I h) fun v s1 ⟨x, H1, I1, r1, q1⟩ => ?_
  refine thn (hb pins s1 σ H1 _ I1 q1) fun u s2 ⟨y, H2, I2, r2, q2⟩ => ?_
  exact hf v u s2 x y H2 I2 r1 r2 q2

theorem pe_op {op : Operator} {r : R2} (ho : OpR X (binaryOp op) r) (ha : PE X a ta) (hb : PE X b tb) : PE X (.BinOp a op b pos) (tOp r ta tb) := by
  intro pins s σ H Q I h
  exact wpAny_BinOp (binT ha hb I h fun v u s2 x y H2 I2 rx ry q => ho pins s2 σ H2 x y v u Q I2 rx ry q)
theorem pe_un {op : UnaryOp} {r : V → Hp → VK → Prop} (ho : UnR X (unaryOp op) r) (ha : PE X a ta) : PE X (.UnaryOp op a pos) (tUn r ta) := by
  intro pins s σ H Q I h
  exact UnaryOp_ (thn (ha pins s σ H _ I h) fun v s1 ⟨x, H1, I1, r1, q1⟩ => ho pins s1 σ H1 x v Q I1 r1 q1)
/-! ### ints -/
theorem opI {f : Value → Value → Sem Value} {C : Int → Int → Prop} {g : Int → Int → Int}
    (rule : ∀ (i j : Int) (t u : Tok) (s : Shared) (Q : Value → Shared → Prop) (E : Value → Shared → Prop), C i j → Q (.int (g i j) s.toks) { s with toks := s.toks + 1 } → wpAny (model X.prog X.w) X.A (f (.int i t) (.int j u)) Q E s) :
    OpR X f (rI C fun i j => .int (g i j)) := by
  intro pins s σ H x y v u Q I rx ry h
  obtain ⟨i, j, rfl, rfl, hc, q⟩ := h
  obtain ⟨t, rfl⟩ := rx
  obtain ⟨t', rfl⟩ := ry
  exact rule i j t t' s _ _ hc ⟨.int (g i j), H, I.tok _, ⟨_, rfl⟩, q⟩
theorem opI0 {f : Value → Value → Sem Value} {g : Int → Int → Int}
    (rule : ∀ (i j : Int) (t u : Tok) (s : Shared) (Q : Value → Shared → Prop) (E : Value → Shared → Prop), Q (.int (g i j) s.toks) { s with toks := s.toks + 1 } → wpAny (model X.prog X.w) X.A (f (.int i t) (.int j u)) Q E s) :
    OpR X f (rI0 fun i j => .int (g i j)) := by
  intro pins s σ H x y v u Q I rx ry h
  obtain ⟨i, j, rfl, rfl, q⟩ := h
  obtain ⟨t, rfl⟩ := rx
  obtain ⟨t', rfl⟩ := ry
  exact rule i j t t' s _ _ ⟨.int (g i j), H, I.tok _, ⟨_, rfl⟩, q⟩
theorem opB0 {f : Value → Value → Sem Value} {g : Int → Int → Bool}
    (rule : ∀ (i j : Int) (t u : Tok) (s : Shared) (Q : Value → Shared → Prop) (E : Value → Shared → Prop), Q (.bool (g i j)) s → wpAny (model X.prog X.w) X.A (f (.int i t) (.int j u)) Q E s) :
    OpR X f (rI0 fun i j => .bl (g i j)) := by
  intro pins s σ H x y v u Q I rx ry h
  obtain ⟨i, j, rfl, rfl, q⟩ := h
  obtain ⟨t, rfl⟩ := rx
  obtain ⟨t', rfl⟩ := ry
  exact rule i j t t' s _ _ ⟨.bl (g i j), H, I, rfl, q⟩

def CDiv (i j : Int) : Prop := 0 < j ∧ j < 1073741824
def CPow (i j : Int) : Prop := 0 ≤ j ∧ j ≤ 1000000 ∧ i.natAbs < 2 ^ 64
def CMul (i j : Int) : Prop := (-(2 ^ 64) < i ∧ i < 2 ^ 64) ∨ (-(2 ^ 64) < j ∧ j < 2 ^ 64)
theorem CMul.ok {i j : Int} (h : CMul i j) : IntMulOk i j := by
  rcases h with ⟨h1, h2⟩ | ⟨h1, h2⟩
  · exact .of_left (intBits_le_64 h1 h2)
  · exact .of_right (intBits_le_64 h1 h2)
theorem two_pow_nn (k : Nat) : (0 : Int) ≤ 2 ^ k := by
  rw [two_pow_cast]
  exact Int.natCast_nonneg _

theorem op_add : OpR X (binaryOp .Add) (rI0 fun i j => .int (i + j)) := opI0 fun _ _ _ _ _ _ _ q => add_int q
theorem op_sub : OpR X (binaryOp .Sub) (rI0 fun i j => .int (i - j)) := opI0 fun _ _ _ _ _ _ _ q => sub_int q
theorem op_mul : OpR X (binaryOp .Mult) (rI CMul fun i j => .int (i * j)) := opI fun _ _ _ _ _ _ _ hc q => mul_int q hc.ok
/-- // by a positive divisor -/
theorem op_fdiv : OpR X (binaryOp .FloorDiv) (rI CDiv fun i j => .int (i / j)) := opI fun i j _ _ _ _ _ hc q => by
  have h1 : (0 : Int) < j := hc.1
  have h2 : j < 1073741824 := hc.2
  exact floordiv_int (by omega) (by rw [Int.fdiv_eq_ediv_of_nonneg i (by omega)]; exact q) (.inl (PyProof.noPylong_small (by omega)))
/-- % by a positive divisor of any size -/
theorem op_mod : OpR X (binaryOp .Mod) (rI (fun _ j => 0 < j) fun i j => .int (i % j)) := opI fun i j _ _ _ _ _ hc q => by
  have h1 : (0 : Int) < j := hc
  exact mod_int' (by omega) (by rw [Int.fmod_eq_emod_of_nonneg i (by omega)]; exact q)
theorem op_pow : OpR X (binaryOp .Pow) (rI CPow fun i j => .int (i ^ j.toNat)) := opI fun _ _ _ _ _ _ _ hc q => pow_int_small hc.1 hc.2.1 hc.2.2 q
theorem op_shr : OpR X (binaryOp .RShift) (rI (fun _ j => 0 ≤ j) fun i j => .int (i / 2 ^ j.toNat)) := opI fun i j _ _ _ _ _ hc q =>
  rshift_int hc (by rw [Int.fdiv_eq_ediv_of_nonneg i (two_pow_nn _)]; exact q)
theorem op_and : OpR X (binaryOp .BitAnd) (rI0 fun i j => .int (Builtin.bitAnd i j)) := opI0 fun _ _ _ _ _ _ _ q => and_int q
theorem unI {f : Value → Sem Value} {g : Int → Int}
    (rule : ∀ (i : Int) (t : Tok) (s : Shared) (Q : Value → Shared → Prop) (E : Value → Shared → Prop), Q (.int (g i) s.toks) { s with toks := s.toks + 1 } → wpAny (model X.prog X.w) X.A (f (.int i t)) Q E s) :
    UnR X f (rU fun i => .int (g i)) := by
  intro pins s σ H x v Q I rx h
  obtain ⟨i, rfl, q⟩ := h
  obtain ⟨t, rfl⟩ := rx
  exact rule i t s _ _ ⟨.int (g i), H, I.tok _, ⟨_, rfl⟩, q⟩
theorem un_neg : UnR X (unaryOp .USub) (rU fun i => .int (-i)) := unI fun _ _ _ _ _ q => neg_int q
/-! ### bools among ints: n += (a < b) -/
end

/-! ### comparisons -/
/-- the scalars that == tells apart as data does -/
def scal : V → V → Bool
  | .non, .non => true | .non, .int _ => true | .int _, .non => true | .non, .bl _ => true | .bl _, .non => true | .non, .str _ => true | .str _, .non => true
  | .int _, .int _ => true | .bl _, .bl _ => true | .str _, .str _ => true | .byt _, .byt _ => true
  | .int _, .str _ => true | .str _, .int _ => true | .bl _, .str _ => true | .str _, .bl _ => true
  | _, _ => false
def rEq : R2 := fun x y H Q => scal x y = true ∧ Q (.bl (decide (x = y))) H
def rNe : R2 := fun x y H Q => scal x y = true ∧ Q (.bl (!decide (x = y))) H

theorem dec_int {i j : Int} : decide (V.int i = V.int j) = (i == j) := by
  rw [Bool.eq_iff_iff]
  simp
theorem dec_bl {i j : Bool} : decide (V.bl i = V.bl j) = (i == j) := by
  rw [Bool.eq_iff_iff]
  simp
theorem dec_str {i j : Str} : decide (V.str i = V.str j) = (i == j) := by
  rw [Bool.eq_iff_iff]
  simp
theorem dec_byt {i j : Array UInt8} : decide (V.byt i = V.byt j) = (i.toList == j.toList) := by
  rw [Bool.eq_iff_iff]
  cases i
  cases j
  simp

section
variable {X : Cx} {a b c : Expr} {ta tb tc : TE} {pos : Pos}
theorem fin_bl {pins : List (Addr × Obj)} {σ : St} {H : Hp} {s : Shared} {Q : VK} {k k' : Bool} (I : Inv X pins σ H s) (q : Q (.bl k) H) (e : k = k') : EP X pins σ Q (.bool k') s := by
  subst e
  exact ⟨.bl k, H, I, rfl, q⟩
theorem op_eq : OpR X (compareOp .Eq) rEq := by
  intro pins s σ H x y v u Q I rx ry h
  obtain ⟨hs, q⟩ := h
  cases x with
  | non =>
    cases rx
    cases y with
    | non => cases ry; exact PySem.EqNone.eq_none_none (fin_bl I q (by simp))
    | bl j => cases ry; exact PySem.EqNone.eq_none_bool (fin_bl I q (by simp))
    | int j => obtain ⟨t', rfl⟩ := ry; exact PySem.EqNone.eq_none_int (fin_bl I q (by simp))
    | str j => obtain ⟨t', rfl⟩ := ry; exact PySem.EqNone.eq_none_str (fin_bl I q (by simp))
    | _ => exact absurd (show false = true from hs) Bool.false_ne_true
  | bl i =>
    cases rx
    cases y with
    | non => cases ry; exact PySem.EqNone.eq_bool_none (fin_bl I q (by simp))
    | bl j => cases ry; exact eq_bool (fin_bl I q dec_bl)
    | str j => obtain ⟨t', rfl⟩ := ry; exact PySem.EqMixed.eq_bool_str (fin_bl I q (by simp))
    | _ => exact absurd (show false = true from hs) Bool.false_ne_true
  | int i =>
    obtain ⟨t, rfl⟩ := rx
    cases y with
    | non => cases ry; exact PySem.EqNone.eq_int_none (fin_bl I q (by simp))
    | int j => obtain ⟨t', rfl⟩ := ry; exact eq_int (fin_bl I q dec_int)
    | str j => obtain ⟨t', rfl⟩ := ry; exact PySem.EqMixed.eq_int_str (fin_bl I q (by simp))
    | _ => exact absurd (show false = true from hs) Bool.false_ne_true
  | str i =>
    obtain ⟨t, rfl⟩ := rx
    cases y with
    | non => cases ry; exact PySem.EqNone.eq_str_none (fin_bl I q (by simp))
    | bl j => cases ry; exact PySem.EqMixed.eq_str_bool (fin_bl I q (by simp))
    | int j => obtain ⟨t', rfl⟩ := ry; exact PySem.EqMixed.eq_str_int (fin_bl I q (by simp))
    | str j => obtain ⟨t', rfl⟩ := ry; exact eq_str (fin_bl I q dec_str)
    | _ => exact absurd (show false = true from hs) Bool.false_ne_true
  | byt i =>
    obtain ⟨t, rfl⟩ := rx
    cases y with
    | byt j => obtain ⟨t', rfl⟩ := ry; exact PySem.W.eq_bytes (fin_bl I q dec_byt)
    | _ => exact absurd (show false = true from hs) Bool.false_ne_true
  | _ => cases y <;> exact absurd (show false = true from hs) Bool.false_ne_true
theorem op_ne : OpR X (compareOp .NotEq) rNe := by
  intro pins s σ H x y v u Q I rx ry h
  obtain ⟨hs, q⟩ := h
  cases x with
  | non =>
    cases rx
    cases y with
    | non => cases ry; exact PySem.EqNone.ne_none_none (fin_bl I q (by simp))
    | bl j => cases ry; exact PySem.EqNone.ne_none_bool (fin_bl I q (by simp))
    | int j => obtain ⟨t', rfl⟩ := ry; exact PySem.EqNone.ne_none_int (fin_bl I q (by simp))
    | str j => obtain ⟨t', rfl⟩ := ry; exact PySem.EqNone.ne_none_str (fin_bl I q (by simp))
    | _ => exact absurd (show false = true from hs) Bool.false_ne_true
  | bl i =>
    cases rx
    cases y with
    | non => cases ry; exact PySem.EqNone.ne_bool_none (fin_bl I q (by simp))
    | bl j => cases ry; exact ne_bool (fin_bl I q (congrArg not dec_bl))
    | str j => obtain ⟨t', rfl⟩ := ry; exact PySem.EqMixed.ne_bool_str (fin_bl I q (by simp))
    | _ => exact absurd (show false = true from hs) Bool.false_ne_true
  | int i =>
    obtain ⟨t, rfl⟩ := rx
    cases y with
    | non => cases ry; exact PySem.EqNone.ne_int_none (fin_bl I q (by simp))
    | int j => obtain ⟨t', rfl⟩ := ry; exact ne_int (fin_bl I q (congrArg not dec_int))
    | str j => obtain ⟨t', rfl⟩ := ry; exact PySem.EqMixed.ne_int_str (fin_bl I q (by simp))
    | _ => exact absurd (show false = true from hs) Bool.false_ne_true
  | str i =>
    obtain ⟨t, rfl⟩ := rx
    cases y with
    | non => cases ry; exact PySem.EqNone.ne_str_none (fin_bl I q (by simp))
    | bl j => cases ry; exact PySem.EqMixed.ne_str_bool (fin_bl I q (by simp))
    | int j => obtain ⟨t', rfl⟩ := ry; exact PySem.EqMixed.ne_str_int (fin_bl I q (by simp))
    | str j => obtain ⟨t', rfl⟩ := ry; exact ne_str (fin_bl I q (congrArg not dec_str))
    | _ => exact absurd (show false = true from hs) Bool.false_ne_true
  | byt i =>
    obtain ⟨t, rfl⟩ := rx
    cases y with
    | byt j => obtain ⟨t', rfl⟩ := ry; exact PySem.W.ne_bytes (fin_bl I q (congrArg not dec_byt))
    | _ => exact absurd (show false = true from hs) Bool.false_ne_true
  | _ => cases y <;> exact absurd (show false = true from hs) Bool.false_ne_true

theorem op_lt : OpR X (compareOp .Lt) (rI0 fun i j => .bl (decide (i < j))) := opB0 fun _ _ _ _ _ _ _ q => lt_int q
theorem op_le : OpR X (compareOp .LtE) (rI0 fun i j => .bl (decide (i ≤ j))) := opB0 fun _ _ _ _ _ _ _ q => le_int q
theorem op_gt : OpR X (compareOp .Gt) (rI0 fun i j => .bl (decide (j < i))) := opB0 fun _ _ _ _ _ _ _ q => gt_int q
theorem op_ge : OpR X (compareOp .GtE) (rI0 fun i j => .bl (decide (j ≤ i))) := opB0 fun _ _ _ _ _ _ _ q => ge_int q
theorem nomark (b : Expr) {op : CmpOp} (h : op ≠ .In := by decide) (h2 : op ≠ .NotIn := by decide) : behindInMarks op b = false := by
  have e1 : (op == CmpOp.In) = false := by cases op <;> first | rfl | exact absurd rfl h
  have e2 : (op == CmpOp.NotIn) = false := by cases op <;> first | rfl | exact absurd rfl h2
  cases b <;> simp [behindInMarks, e1, e2]
/-- a comparison as a value; hm: nomark b, or (for in, not in) by with_unfolding_all rfl -/
theorem pe_cmpR {op : CmpOp} {r : R2} (ho : OpR X (compareOp op) r) (ha : PE X a ta) (hb : PE X b tb) (hm : behindInMarks op b = false) : PE X (.Compare a [op] [b] pos) (tOp r ta tb) := by
  intro pins s σ H Q I h
  exact wpAny_Compare1 (binT ha hb I h fun v u s2 x y H2 I2 rx ry q => ho pins s2 σ H2 x y v u Q I2 rx ry q) hm
/-- a reading of a value as a test -/
def tTest (t : TE) : TT := fun σ H Q => t σ H fun x H' => ∃ k, x = .bl k ∧ Q k H'
theorem pt_cmpR {op : CmpOp} {r : R2} (ho : OpR X (compareOp op) r) (ha : PE X a ta) (hb : PE X b tb) (hm : behindInMarks op b = false) : PT X (.Compare a [op] [b] pos) (tTest (tOp r ta tb)) := by
  intro pins s σ H Q I h
  refine wpAny_isTrue_Compare1 (thn (ha pins s σ H _ I h) fun v s1 ⟨x, H1, I1, r1, q1⟩ => thn (hb pins s1 σ H1 _ I1 q1) fun u s2 ⟨y, H2, I2, r2, q2⟩ =>
    thn (ho pins s2 σ H2 x y v u _ I2 r1 r2 q2) fun c s3 ⟨z, H3, I3, r3, k, e, q3⟩ => ?_) hm
  subst e
  cases r3
  exact wpAny_truthy_bool ⟨H3, I3, q3⟩
/-- a op1 b op2 c -/
def tChain (r r' : R2) (ta tb tc : TE) : TE := fun σ H Q => ta σ H fun x H1 => tb σ H1 fun y H2 => r x y H2 fun z H3 => ∃ k, z = .bl k ∧
  (if k = true then tc σ H3 fun w' H4 => r' y w' H4 Q else Q (.bl false) H3)
theorem pe_chain {op op' : CmpOp} {r r' : R2} (ho : OpR X (compareOp op) r) (ho' : OpR X (compareOp op') r') (ha : PE X a ta) (hb : PE X b tb) (hc : PE X c tc)
    (hm : lastMarks [op, op'] [b, c] = false := by with_unfolding_all rfl) : PE X (.Compare a [op, op'] [b, c] pos) (tChain r r' ta tb tc) := by
  intro pins s σ H Q I h
  refine Compare_chain (thn (ha pins s σ H _ I h) fun v s1 ⟨x, H1, I1, r1, q1⟩ => chain_link (thn (hb pins s1 σ H1 _ I1 q1) fun u s2 ⟨y, H2, I2, r2, q2⟩ =>
    thn (ho pins s2 σ H2 x y v u _ I2 r1 r2 q2) fun d s3 ⟨z, H3, I3, r3, k, e, q3⟩ => ?_)) hm
  subst e
  cases r3
  refine wpAny_truthy_bool ?_
  cases k with
  | false => exact ite_ff ⟨.bl false, H3, I3, rfl, q3⟩
  | true => exact ite_tt (chain_last (thn (hc pins s3 σ H3 _ I3 q3) fun w' s4 ⟨z', H4, I4, r4, q4⟩ => ho' pins s4 σ H4 y z' u w' Q I4 r2 r4 q4))
/-! ### truth -/
theorem line63 : (sizeLine : Nat) < 2 ^ 63 := by rw [sizeLine_eq]; decide
/-! ### strs and bytes -/
/-! ### scalar builtins, by CallR -/
theorem vals1 {x : V} {us : List Value} (r : Vals [x] us) : ∃ u, us = [u] ∧ RelV x u := by
  cases r with
  | cons r1 r2 => cases r2; exact ⟨_, rfl, r1⟩
theorem vals2 {x y : V} {us : List Value} (r : Vals [x, y] us) : ∃ u w', us = [u, w'] ∧ RelV x u ∧ RelV y w' := by
  cases r with
  | cons r1 r2 =>
    cases r2 with
    | cons r3 r4 => cases r4; exact ⟨_, _, rfl, r1, r3⟩
theorem call_abs : CallR X (.builtin "abs") (fun xs H Q => ∃ i, xs = [.int i] ∧ Q (.int (if i < 0 then -i else i)) H) := by
  intro pins s σ H xs us Q I r h
  obtain ⟨i, rfl, q⟩ := h
  obtain ⟨u, rfl, t, rfl⟩ := vals1 r
  exact call_abs_int fun u tk => ⟨.int (if i < 0 then -i else i), H, I.tok _, ⟨_, rfl⟩, q⟩
theorem call_int1 : CallR X (.type "int") (fun xs H Q => (∃ i, xs = [.int i] ∧ Q (.int i) H) ∨ ∃ k, xs = [.bl k] ∧ Q (.int (if k then 1 else 0)) H) := by
  intro pins s σ H xs us Q I r h
  rcases h with ⟨i, rfl, q⟩ | ⟨k, rfl, q⟩
  · obtain ⟨u, rfl, t, rfl⟩ := vals1 r
    exact call_int_int ⟨.int i, H, I, ⟨_, rfl⟩, q⟩
  · obtain ⟨u, rfl, r1⟩ := vals1 r
    cases r1
    exact call_int_bool ⟨.int (if k then 1 else 0), H, I.tok _, ⟨_, rfl⟩, q⟩
end
end L2

namespace L2
open PySem PySem.Spec PyProof.Rows

/-! ### an instance, its attributes a map -/
structure ObjM (h : Heap) (x dx C : Addr) (mA : Str → Option Value) : Prop where
  obj : h.get? x = some (PySem.W.instObj C dx)
  ns : h.Ns1 dx mA
  ne : dx ≠ x

theorem lookIn_ns {h : Heap} {dx : Addr} {mA : Str → Option Value} (n : h.Ns1 dx mA) : ∃ od, h.get? dx = some od ∧ ∀ name, PySem.W.lookIn name od = some (mA name) := by
  obtain ⟨o, es, ep, ho, hd, hk, _, hm⟩ := n
  refine ⟨o, ho, fun name => ?_⟩
  have e := hm name
  unfold nsFind findBy at e
  rw [← Array.find?_toList] at e
  unfold PySem.W.lookIn
  rw [hd]
  dsimp only
  split
  · rename_i y q
    rw [q] at e
    exact congrArg some e
  · rename_i q
    rw [q] at e
    have a : es.toList.any (·.refKey) = false := by
      rw [List.any_eq_false]
      intro y hy
      obtain ⟨z, t, hkey⟩ := hk y (Array.mem_toList_iff.mp hy)
      simp [DictEntry.refKey, hkey]
    have a' : ¬ es.toList.any (·.refKey) = true := by rw [a]; exact Bool.false_ne_true
    rw [if_neg a']
    exact congrArg some e

theorem ObjM.look {h : Heap} {x dx C : Addr} {mA : Str → Option Value} (I : ObjM h x dx C mA) : ∃ od, PySem.W.InstAt h x (PySem.W.instObj C dx) C (some od) ∧ ∀ name, PySem.W.lookIn name od = some (mA name) :=
  let ⟨od, ho, hl⟩ := lookIn_ns I.ns
  ⟨od, ⟨I.obj, rfl, rfl, ho⟩, hl⟩

section
variable {prog : Program} {w : World} {A : Around} {E : Value → Shared → Prop} {s : Shared} {K : PySem.W.Frag} {x dx C f : Addr} {mA : Str → Option Value} {name : Str} {v : Value}

end

/-! ### the attributes as a list of pairs -/
section
variable {P : Program} {w : World} {H H' : Hp} {h h' : Heap} {a C dx : Addr} {fs fs' : List (Str × V)}
theorem ins_get (hok : HOk P w H h) (e : H a = some (.ins C dx fs)) : ∃ mA, ObjM h a dx C mA ∧ (∀ f, RelO (fs.lookup f) (mA f)) ∧ PySem.Within mA (fs.map (·.1)) ∧ fs.length ≤ 1000 ∧ H dx = some (.own a) := by
  obtain ⟨d, z, ne, ob, mA, n, r, q⟩ := (show ObjOk P w H h a (.ins C dx fs) from hok a _ e)
  exact ⟨mA, ⟨ob, n, ne⟩, r, q, z, d⟩
end

/-! ### what of the text a class must have -/
structure Cls (K : PySem.W.Frag) (C : Addr) : Prop where
  pg : PySem.W.plainGet K C Str.empty = true
  hd : PySem.W.hasDictIn K C = true
  po : PySem.W.plainOver K C = true
  sa : PySem.W.findIn K (.ref C) "__setattr__" = some (some (.builtin "object.__setattr__"))
theorem Cls.get {K : PySem.W.Frag} {C : Addr} (c : Cls K C) (f : Str) : PySem.W.plainGet K C f = true := c.pg
section
variable {X : Cx} {pins : List (Addr × Obj)} {σ : St} {H : Hp} {s : Shared} {a C dx : Addr} {fs : List (Str × V)} {f : Str} {v : V} {A : Around} {E : Value → Shared → Prop}

end

/-! ### readings and rules -/
section
variable {X : Cx} {o e value : Expr} {f : Str} {pos pos' tpos : Pos} {ta tv : TE}
end

/-! ### isinstance -/
section
variable {X : Cx} {pins : List (Addr × Obj)} {σ : St} {H : Hp} {s : Shared} {A : Around} {E : Value → Shared → Prop} {Q : Value → Shared → Prop} {c : Value} {b : Bool}
/-- the type of a value, as the fragment's deciders take it; for an instance its class -/
inductive TyOf (K : PySem.W.Frag) (H : Hp) : V → Value → Prop where
  | non : TyOf K H .non (.type "NoneType")
  | bl (x : Bool) : TyOf K H (.bl x) (.type "bool")
  | int (i : Int) : TyOf K H (.int i) (.type "int")
  | str (x : Str) : TyOf K H (.str x) (.type "str")
  | flt (x : UInt64) : TyOf K H (.flt x) (.type "float")
  | lst {a : Addr} {xs : List V} (e : H a = some (.lst xs)) : TyOf K H (.ref a) (.type "list")
  | frz {a : Addr} {o : Obj} {xs : List V} (e : H a = some (.frz o (.lst xs))) : TyOf K H (.ref a) (.type "list")
  | tup {a : Addr} {xs : List V} (e : H a = some (.tup xs)) : TyOf K H (.ref a) (.type "tuple")
  | dK {a : Addr} {kvs : List (Key × V)} (e : H a = some (.dK kvs)) : TyOf K H (.ref a) (.type "dict")
  | dT {a : Addr} {kvs : List (List Key × V)} (e : H a = some (.dT kvs)) : TyOf K H (.ref a) (.type "dict")
  | ins {a C dx : Addr} {fs : List (Str × V)} (e : H a = some (.ins C dx fs)) (cl : Cls K C) (ha : PySem.W.findIn K (.ref C) "__class__" = some (some (.builtin "object.__class__")))
      (hn : PySem.W.specialIn K (.builtin "object.__class__") "__get__" = some (some (.builtin "getset_descriptor.__get__"))) (htk : PySem.W.takesIn K (.builtin "object.__class__") = some true)
      (hm : PySem.W.mroIn K C (.type "object") = some true) : TyOf K H (.ref a) (.ref C)
/-- isinstance(x, c) for one class c, a built-in or an own one: kitOne's answer -/
theorem isinst_ok {x : V} {u t : Value} (I : Inv X pins σ H s) (rx : RelV x u) (ty : TyOf X.K H x t) (e : PySem.W.kitOne X.K t c = some b) (h : ∀ tk, Q (.bool b) { s with toks := tk }) :
    wpAny (model X.prog X.w) A (call (.builtin "isinstance") [u, c]) Q E s := by
  cases ty with
  | non => cases (show u = Value.none from rx); exact PySem.W.kia_one PySem.W.kitx_none I.kIn True.intro e (fun z => nomatch z) h
  | bl y => cases (show u = Value.bool y from rx); exact PySem.W.kia_one PySem.W.kitx_bool I.kIn True.intro e (fun z => nomatch z) h
  | int i => obtain ⟨t, q⟩ := (show ∃ t, u = Value.int i t from rx); cases q; exact PySem.W.kia_one PySem.W.kitx_int I.kIn True.intro e (fun z => nomatch z) h
  | str y => obtain ⟨t, q⟩ := (show ∃ t, u = Value.str y t from rx); cases q; exact PySem.W.kia_one PySem.W.kitx_str I.kIn True.intro e (fun z => nomatch z) h
  | flt y => obtain ⟨t, q⟩ := (show ∃ t, u = Value.float y t from rx); cases q; exact PySem.W.kia_one PySem.W.kitx_float I.kIn True.intro e (fun z => nomatch z) h
  | @lst a xs ea =>
    cases (show u = Value.ref a from rx)
    obtain ⟨_, _, n, _, h1⟩ := (show ObjOk X.prog X.w H s.heap a (.lst xs) from I.hok a _ ea)
    exact PySem.W.kia_one PySem.W.kitx_list I.kIn ⟨_, h1, rfl⟩ e (fun z => nomatch z) h
  | @frz a ob xs ea =>
    cases (show u = Value.ref a from rx)
    obtain ⟨_, _, _, n, _, h1⟩ := (show ObjOk X.prog X.w H s.heap a (.frz ob (.lst xs)) from I.hok a _ ea)
    exact PySem.W.kia_one PySem.W.kitx_list I.kIn ⟨_, h1, rfl⟩ e (fun z => nomatch z) h
  | @tup a xs ea =>
    cases (show u = Value.ref a from rx)
    obtain ⟨_, _, _, p⟩ := (show ObjOk X.prog X.w H s.heap a (.tup xs) from I.hok a _ ea)
    obtain ⟨o, h1, h2, _⟩ := p
    exact PySem.W.kia_one PySem.W.kitx_tuple I.kIn ⟨o, h1, h2⟩ e (fun z => nomatch z) h
  | @dK a kvs ea =>
    cases (show u = Value.ref a from rx)
    obtain ⟨_, _, vs, _, p⟩ := (show ObjOk X.prog X.w H s.heap a (.dK kvs) from I.hok a _ ea)
    obtain ⟨o, es, ep, h1, h2, _⟩ := p
    exact PySem.W.kia_one PySem.W.kitx_dict I.kIn ⟨o, h1, h2.1⟩ e (fun z => nomatch z) h
  | @dT a kvs ea =>
    cases (show u = Value.ref a from rx)
    obtain ⟨_, _, xs, _, o, es, ep, h1, h2, _⟩ := (show ObjOk X.prog X.w H s.heap a (.dT kvs) from I.hok a _ ea)
    exact PySem.W.kia_one PySem.W.kitx_dict I.kIn ⟨o, h1, h2.1⟩ e (fun z => nomatch z) h
  | @ins a C dx fs ea cl ha hn htk hm =>
    cases (show u = Value.ref a from rx)
    obtain ⟨mA, O, _⟩ := ins_get I.hok ea
    obtain ⟨od, J, _⟩ := O.look
    exact PySem.W.kia_one (PySem.W.kitx_own (cl.get _) cl.hd ha hn htk hm) I.kIn J e (fun z => nomatch z) h
end
end L2

namespace L2
open PySem PySem.Spec PyProof.Rows

/-! ### room -/
structure Room (k : Nat) (A : Around) : Prop where
  hd : A.handled = none
  dp : A.depth + 3 * k + 5 < recursionLimit
  un : A.units + 16 * k + 200 < cLine
  gd : A.guards = some []
theorem Room.mono {j k : Nat} {A : Around} (r : Room k A) (h : j ≤ k) : Room j A := ⟨r.hd, by have := r.dp; omega, by have := r.un; omega, r.gd⟩
theorem Room.deeper {k : Nat} {A : Around} (r : Room (k + 1) A) (env : Env) : Room k (A.deeper env) :=
  ⟨r.hd, by have := r.dp; show A.depth + 1 + 3 * k + 5 < _; omega, by have := r.un; show A.units + 3 + 16 * k + 200 < _; omega, r.gd⟩
theorem Room.depth {k : Nat} {A : Around} (r : Room k A) : A.depth < recursionLimit := by have := r.dp; omega
theorem Room.units {k : Nat} {A : Around} (r : Room k A) : A.units + 64 < cLine := by have := r.un; omega
/-! ### argument lists and displays -/
def tNil : TA := fun _ H Q => Q [] H
def tCons (ta : TE) (tr : TA) : TA := fun σ H Q => ta σ H fun x H1 => tr σ H1 fun xs H2 => Q (x :: xs) H2
section
variable {X : Cx} {e : Expr} {es : List Expr} {te : TE} {t : TA} {pos : Pos}
theorem pa_nil : PA X [] tNil := fun _ _ _ _ H Q I h => Calls.spliced_nil ⟨[], H, I, .nil, h⟩
theorem pa_cons (ha : PE X e te) (hr : PA X es t) (hs : starEach (e :: es) X.env = (false, eval e X.env) :: starEach es X.env := by rfl) : PA X (e :: es) (tCons te t) := by
  intro pos pins s σ H Q I h
  rw [hs]
  show wpAny _ _ (spliced ((false, eval e X.env) :: backTo pos (starEach es X.env))) _ _ s
  refine Calls.spliced_cons (thn (ha pins s σ H _ I h) fun u s1 ⟨x, H1, I1, r1, q1⟩ => ?_)
  exact thn (hr pos pins s1 σ H1 _ I1 q1) fun us s2 ⟨xs, H2, I2, r2, q2⟩ => ⟨x :: xs, H2, I2, .cons r1 r2, q2⟩

/-- a tuple, a list of written items -/
def tTup (t : TA) : TE := fun σ H Q => t σ H fun xs H1 => xs.length ≤ sizeLine ∧ ∀ p, H1 p = none → Q (.ref p) (upd H1 p (.tup xs))
def tLst (t : TA) : TE := fun σ H Q => t σ H fun xs H1 => xs.length ≤ sizeLine ∧ ∀ p, H1 p = none → Q (.ref p) (upd H1 p (.lst xs))
theorem pe_tup {x1} (h : PA X es t) : PE X (.Tuple es x1 pos) (tTup t) := by
  intro pins s σ H Q I hq
  refine wpAny_Tuple_spliced (thn (h pos pins s σ H _ I hq) fun us s1 ⟨xs, H1, I1, r, z, q⟩ => ⟨by rw [← r.length]; exact z, ?_⟩)
  have hf : H1 s1.heap.objs.size = none := I1.hok.fresh (Nat.le_refl _)
  refine ⟨.ref s1.heap.objs.size, upd H1 s1.heap.objs.size (.tup xs), I1.laid (t' := s1.toks) (fun b u e => Heap.get?_push_of_some _ e) (Nat.le_refl _) ?_, rfl, q _ hf⟩
  exact ⟨z, us, r, ⟨_, Heap.get?_push_size _ rfl, rfl, _, rfl⟩⟩
theorem pe_lst (h : PA X es t) : PE X (.List es pos) (tLst t) := by
  intro pins s σ H Q I hq
  refine wpAny_List_spliced (thn (h pos pins s σ H _ I hq) fun us s1 ⟨xs, H1, I1, r, z, q⟩ => ⟨by rw [← r.length]; exact z, ?_⟩)
  have hf : H1 s1.heap.objs.size = none := I1.hok.fresh (Nat.le_refl _)
  refine ⟨.ref s1.heap.objs.size, upd H1 s1.heap.objs.size (.lst xs), I1.laid (t' := s1.toks) (fun b u e => Heap.get?_push_of_some _ e) (Nat.le_refl _) ?_, rfl, q _ hf⟩
  exact ⟨z, us, 0, r, Heap.get?_push_size _ rfl⟩
end

/-! ### what a def promises -/
/-- a def's promise: the bound arguments in the parameters' order, the heap, the wanted end, the wanted exception -/
abbrev Sp := List V → Hp → VK → XK → Prop
/-- how an exception lies behind a call (file 08 gives it): the callers' frames, abstract heap and state ahead of the call, the wish, the exception, the state -/
abbrev CXT := List Env → Hp → Shared → XK → Value → Shared → Prop

/-- the state at a call -/
structure Env0 (P : Program) (w : World) (K : PySem.W.Frag) (mg : Str → Option Value) (base : Heap) (A : Around) (outer : List Env) (s : Shared) (H : Hp) : Prop where
  frames : A.frames = some outer
  mod : Mod K mg base
  bs : ∀ b o, base.get? b = some o → s.heap.get? b = some o ∧ H b = none
  bsz : base.objs.size ≤ s.heap.objs.size
  funs : s.heap.FunFrames base outer
  frf : ∀ b ∈ frs outer, H b = none
  hok : HOk P w H s.heap
  bare : AllBare s.gens
/-- a call's end -/
def CE (outer : List Env) (P : Program) (w : World) (H : Hp) (s : Shared) (Q : VK) (u : Value) (s' : Shared) : Prop :=
  ∃ v H', s'.os = s.os ∧ AllBare s'.gens ∧ Un (frs outer) [] H H' s.heap s'.heap ∧ HOk P w H' s'.heap ∧ RelV v u ∧ Q v H'
def CR (CX : CXT) (outer : List Env) (P : Program) (w : World) (H : Hp) (s : Shared) (Q : VK) (E : XK) (r : Result) (s' : Shared) : Prop :=
  match r with
  | .ok (.ret u) => CE outer P w H s Q u s'
  | .ok _ => False
  | .error e => CX outer H s E e s'
structure FnOk (P : Program) (w : World) (K : PySem.W.Frag) (mg : Str → Option Value) (base : Heap) (CX : CXT) (k : Nat) (f : Addr) (fd : FuncData) (ps : List Str) (sp : Sp) : Prop where
  len : ∀ vs H Q E, sp vs H Q E → vs.length = ps.length
  run : ∀ (A : Around) (outer : List Env) (s : Shared) (H : Hp) (args : Args) (us : List Value) (vs : List V) (Q : VK) (E : XK), Room k A → Env0 P w K mg base A outer s H → BindsTo s fd args (ps.zip us) → Vals vs us → sp vs H Q E →
    codeAny (model P w) A (.call (.ref f) args) (CR CX outer P w H s Q E) s
/-- a weaker promise -/
theorem FnOk.imp {P : Program} {w : World} {K : PySem.W.Frag} {mg : Str → Option Value} {base : Heap} {CX : CXT} {k : Nat} {f : Addr} {fd : FuncData} {ps : List Str} {sp sp' : Sp} (F : FnOk P w K mg base CX k f fd ps sp)
    (h : ∀ vs H Q E, sp' vs H Q E → sp vs H Q E) : FnOk P w K mg base CX k f fd ps sp' :=
  ⟨fun vs H Q E q => F.len vs H Q E (h _ _ _ _ q), fun A outer s H args us vs Q E hr he hb hv hs => F.run A outer s H args us vs Q E hr he hb hv (h _ _ _ _ hs)⟩

section
variable {X : Cx} {pins : List (Addr × Obj)} {σ : St} {H : Hp} {s s' : Shared}
/-- from a body: what a callee wants -/
theorem Inv.env0 (I : Inv X pins σ H s) : Env0 X.prog X.w X.K X.mg X.base X.A X.stack s H :=
  ⟨I.ok.frames, I.ok.mod, I.bs, Nat.le_trans I.ok.bsz I.sz, I.stack, I.stkFree, I.hok, I.bare⟩
/-- behind a call -/
theorem Inv.after {Q : VK} {u : Value} (I : Inv X pins σ H s) (h : CE X.stack X.prog X.w H s Q u s') : EP X pins σ Q u s' := by
  obtain ⟨v, H', os, bare, un, hok, r, q⟩ := h
  obtain ⟨hh, g, d, t, os'⟩ := s'
  obtain rfl : os' = s.os := os
  exact ⟨v, H', I.call (h' := hh) (g' := g) (d' := d) (t' := t) (ch := []) un hok bare (fun b z => absurd z (by simp)), r, q⟩
end

/-! ### calls -/
/-- f(..): the written arguments, then the defaults dvs; E: what is wanted of an exception -/
def tCall (sp : Sp) (dvs : List V) (E : XK) (t : TA) : TE := fun σ H Q => t σ H fun vs H1 => sp (vs ++ dvs) H1 Q E
/-- how the parameters are bound: us the positional arguments, kw the keywords' values by name, ds the defaults that fill up -/
def Binds (K : PySem.W.Frag) (fd : FuncData) (ps : List Str) (ds : List Value) : Prop :=
  ∀ (s : Shared) (us : List Value), K.In s.heap → (us ++ ds).length = ps.length → BindsTo s fd ⟨us, []⟩ (ps.zip (us ++ ds))
/-- every parameter is given -/
theorem Binds.all {K : PySem.W.Frag} {fd : FuncData} {ps : List Str} (h : ∀ us : List Value, us.length = ps.length → bindArgs fd ⟨us, []⟩ = pure (ps.zip us)) : Binds K fd ps [] := fun s us _ hl => by
  rw [List.append_nil] at hl ⊢
  exact .of_eq (h us hl)

/-- an exception of a callee reaches what this body wants of exceptions -/
def Passes (CX : CXT) (X : Cx) (E : XK) : Prop := ∀ (pins : List (Addr × Obj)) (σ : St) (H : Hp) (s : Shared) (e : Value) (s' : Shared), Inv X pins σ H s → CX X.stack H s E e s' → X.xe e s'

section
variable {X : Cx} {CX : CXT} {k : Nat} {f C : Addr} {fd : FuncData} {ps : List Str} {sp : Sp} {dvs : List V} {ds : List Value} {E : XK} {x m : Str} {p pos apos : Pos} {e o : Expr} {es : List Expr} {ta : TE} {t : TA}

/-- the callee runs -/
theorem run_fn {pins : List (Addr × Obj)} {σ : St} {H : Hp} {s : Shared} {Q : VK} {us : List Value} {vs : List V} (F : FnOk X.prog X.w X.K X.mg X.base CX k f fd ps sp) (hr : Room k X.A) (hb : Binds X.K fd ps ds) (hd : Vals dvs ds) (hx : Passes CX X E)
    (I : Inv X pins σ H s) (r : Vals vs us) (h : sp (vs ++ dvs) H Q E) : wpAny (model X.prog X.w) X.A (call (.ref f) us) (EP X pins σ Q) X.xe s := by
  have r2 : Vals (vs ++ dvs) (us ++ ds) := r.append hd
  have hl : (us ++ ds).length = ps.length := by rw [← r2.length]; exact F.len _ _ _ _ h
  refine wpAny_call (codeAny_mono (F.run X.A X.stack s H ⟨us, []⟩ (us ++ ds) (vs ++ dvs) Q E hr I.env0 (hb s us I.kIn hl) r2 h) fun r s' hq => ?_)
  cases r with
  | error e => exact hx pins σ H s e s' I hq
  | ok fl =>
    cases fl with
    | ret u => exact I.after hq
    | next => exact False.elim hq
    | brk => exact False.elim hq
    | cont => exact False.elim hq

theorem pe_call (F : FnOk X.prog X.w X.K X.mg X.base CX k f fd ps sp) (hr : Room k X.A) (hg : Gl X x) (hm : X.mg x = some (.ref f)) (hk : PySem.W.keepIn X.K (.ref f) = true) (hb : Binds X.K fd ps ds) (hd : Vals dvs ds) (hx : Passes CX X E)
    (ha : PA X (e :: es) t) (hdb : (x == ("__debug__" : Str)) = false := by decide) (he : starEach (e :: es) X.env = (false, eval e X.env) :: starEach es X.env := by rfl) (hpl : (backTo pos (starEach es X.env)).any (·.1) = false := by rfl) :
    PE X (.Call (.Name x p) (e :: es) [] pos) (tCall sp dvs E t) := by
  intro pins s σ H Q I h
  refine wpAny_Call_Name_kw (ld_glob I hg hm ?_ hdb)
  refine PySem.W.callWith_K (h₀ := X.base) I.ok.mod.kin hk (thn (ha pos pins s σ H _ I h) fun us s1 ⟨vs, H1, I1, r, q⟩ => ⟨I1.kIn, ?_⟩) he hpl
  exact run_fn F hr hb hd hx I1 r q
end

/-! ### keywords -/
section
variable {X : Cx} {CX : CXT} {k : Nat} {f C : Addr} {fd : FuncData} {ps ks : List Str} {sp : Sp} {E : XK} {x m : Str} {p pos apos kpos : Pos} {e o : Expr} {es : List Expr} {kws : List Keyword} {te ta : TE} {t tk : TA} {nm : Option Str}
variable {g : List Value → List Value → List Value} {gV : List V → List V → List V}
end

/-! ### a def's body keeps its promise -/
/-- names: the parameters first -/
structure FnScope (N P : List Str) (sc : Scope) : Prop where
  kind : sc.kind = .function
  co : sc.isCoroutine = false
  gen : sc.isGenerator = false
  nd : N.Nodup
  pre : N.take P.length = P
  par : ∀ x ∈ P, sc.names.lookup x = some .local ∨ sc.names.lookup x = some .cell
  nofree : ∀ y ∈ sc.names, y.2 ≠ .free

theorem bindL_out {kindOf : Str → Option NameKind} {x : Str} : ∀ {binds : List (Str × Value)} {m : Str → Option Value}, (∀ v, (x, v) ∉ binds) → bindL kindOf binds m x = m x
  | [], _, _ => rfl
  | (n, v) :: r, m, h => by
    unfold bindL
    rw [bindL_out fun w hw => h w (List.mem_cons_of_mem _ hw)]
    split
    · have : x ≠ n := by rintro rfl; exact h v List.mem_cons_self
      simp [this]
    · rfl
theorem bindC_out {kindOf : Str → Option NameKind} {x : Str} : ∀ {binds : List (Str × Value)} {m : Str → Option Value}, (∀ v, (x, v) ∉ binds) → bindC kindOf binds m x = m x
  | [], _, _ => rfl
  | (n, v) :: r, m, h => by
    unfold bindC
    rw [bindC_out fun w hw => h w (List.mem_cons_of_mem _ hw)]
    split
    · rfl
    · have : x ≠ n := by rintro rfl; exact h v List.mem_cons_self
      simp [this]
theorem bindL_get {kindOf : Str → Option NameKind} {x : Str} {v : Value} : ∀ {P : List Str} {vs : List Value} {i : Nat} {m : Str → Option Value}, P.Nodup → P[i]? = some x → vs[i]? = some v → kindOf x = some .local →
    bindL kindOf (P.zip vs) m x = some v
  | [], _, _, _, _, h, _, _ => by simp at h
  | _ :: _, [], _, _, _, _, h, _ => by simp at h
  | p :: P, w :: vs, 0, m, nd, h1, h2, hk => by
    simp at h1 h2; subst h1; subst h2
    show bindL kindOf ((p, w) :: P.zip vs) m p = _
    unfold bindL
    rw [bindL_out fun v hv => (List.nodup_cons.mp nd).1 (List.of_mem_zip hv).1, if_pos hk]
    simp
  | p :: P, w :: vs, i + 1, m, nd, h1, h2, hk => by
    show bindL kindOf ((p, w) :: P.zip vs) m x = _
    unfold bindL
    exact bindL_get (i := i) (List.nodup_cons.mp nd).2 (by simpa using h1) (by simpa using h2) hk
theorem bindC_get {kindOf : Str → Option NameKind} {x : Str} {v : Value} : ∀ {P : List Str} {vs : List Value} {i : Nat} {m : Str → Option Value}, P.Nodup → P[i]? = some x → vs[i]? = some v → kindOf x ≠ some .local →
    bindC kindOf (P.zip vs) m x = some v
  | [], _, _, _, _, h, _, _ => by simp at h
  | _ :: _, [], _, _, _, _, h, _ => by simp at h
  | p :: P, w :: vs, 0, m, nd, h1, h2, hk => by
    simp at h1 h2; subst h1; subst h2
    show bindC kindOf ((p, w) :: P.zip vs) m p = _
    unfold bindC
    rw [bindC_out fun v hv => (List.nodup_cons.mp nd).1 (List.of_mem_zip hv).1, if_neg hk]
    simp
  | p :: P, w :: vs, i + 1, m, nd, h1, h2, hk => by
    show bindC kindOf ((p, w) :: P.zip vs) m x = _
    unfold bindC
    exact bindC_get (i := i) (List.nodup_cons.mp nd).2 (by simpa using h1) (by simpa using h2) hk

/-- the names' values at the entry -/
def start (N : List Str) (vs : List V) : St := vs.map some ++ List.replicate (N.length - vs.length) none

/-- the context of a def's body, at its entry; an exception leaves the frame, then lies as CX says -/
def cxOf (CX : CXT) (P : Program) (w : World) (K : PySem.W.Frag) (mg : Str → Option Value) (base : Heap) (N : List Str) (qual : Str) (scope : Scope) (f : Addr) (cd : Value) (A : Around) (outer : List Env) (s : Shared) (H : Hp) (E : XK) : Cx where
  prog := P
  w := w
  K := K
  mg := mg
  base := base
  A := A.deeper (envOfC qual scope s.heap.objs.size f cd)
  N := N
  s₀ := s
  H₀ := H
  env := envOfC qual scope s.heap.objs.size f cd
  outer := outer
  stack := envOfC qual scope s.heap.objs.size f cd :: outer
  ex := []
  calm := true
  fn := fun _ => true
  pn := []
  xe := fun e s' => wpAny (model P w) (A.deeper (envOfC qual scope s.heap.objs.size f cd)) (leaving (envOfC qual scope s.heap.objs.size f cd) e) (fun _ s'' => CX outer H s E e s'') (fun e' s'' => CX outer H s E e' s'') s'

theorem cell_has {sc : Scope} {n : Nat} {x : Str} (h : sc.names.lookup x = some .cell) : ∃ c, (cellsFrom n sc.names []).lookup x = some c := by
  have q := PySem.W.cellsFrom_some sc.names n [] (.inl h)
  exact Option.isSome_iff_exists.mp q

theorem inv_start {CX : CXT} {P : Program} {w : World} {K : PySem.W.Frag} {mg : Str → Option Value} {base : Heap} {N ps : List Str} {qual : Str} {scope : Scope} {f : Addr} {cd : Value} {A : Around} {outer : List Env} {s s1 : Shared} {H : Hp} {E : XK} {us : List Value} {vs : List V}
    (S : FnScope N ps scope) (hd : A.handled = none) (e0 : Env0 P w K mg base A outer s H) (hl : vs.length = ps.length) (r : Vals vs us)
    (x : InCallC s s.heap.objs.size (bindL (envOfC qual scope s.heap.objs.size f cd).kindOf (ps.zip us) fun _ => none) (cellsFrom (s.heap.objs.size + 1) scope.names []) (bindC (envOfC qual scope s.heap.objs.size f cd).kindOf (ps.zip us) fun _ => none) s1) :
    Inv (cxOf CX P w K mg base N qual scope f cd A outer s H E) [] (start N vs) H s1 := by
  have hpl : ps.length ≤ N.length := by have := congrArg List.length S.pre; rw [List.length_take] at this; omega
  obtain ⟨h1, tk, rfl, hk⟩ := x.done
  have noA : ∀ b : Addr, b ∉ (cxOf CX P w K mg base N qual scope f cd A outer s H E).ex := fun b z => absurd (show b ∈ ([] : List Addr) from z) (by simp)
  refine ⟨⟨e0.mod, S.kind, rfl, rfl, Nat.le_refl _, fun y z c h1 h2 => ?_, fun y hy => ?_, fun y c _ h => ?_, fun _ => hd, Around.frames_deeper e0.frames, .inr ⟨rfl, rfl⟩, fun b z => absurd z (noA b), e0.bs, e0.bsz, fun b _ _ => noA b, fun b z => absurd z (noA b), e0.funs, e0.frf⟩,
    rfl, e0.bare, Un.kept hk, ⟨_, x.toInCall.ns, fun i y v h1 h2 h3 => ?_⟩, fun y c h => ⟨_, x.cell y c h⟩, e0.hok.fresh (Nat.le_refl _), fun y c h => ?_, fun p hp => absurd (show p ∈ ([] : List (Addr × Obj)) from hp) (by simp), e0.hok.kept hk, ?_⟩
  · exact name_of_addr x.apart (PySem.mem_of_lookup h1) (PySem.mem_of_lookup h2)
  · have hy : scope.names.lookup y = some .cell ∨ scope.names.lookup y = some .free := hy
    rcases hy with hy | hy
    · exact cell_has hy
    · exact absurd rfl (S.nofree _ (PySem.mem_of_lookup hy))
  · exact Nat.le_of_lt (x.above y c (PySem.mem_of_lookup h))
  · have hi : i < vs.length := by
      unfold start at h2
      by_cases hi : i < vs.length
      · exact hi
      · rw [List.getElem?_append_right (by simpa using hi)] at h2
        rw [List.getElem?_replicate] at h2
        split at h2 <;> cases h2
    have ha : vs[i]? = some v := by
      unfold start at h2
      rw [List.getElem?_append_left (by simpa using hi), List.getElem?_map] at h2
      cases e : vs[i]? with
      | none => rw [e] at h2; cases h2
      | some a => rw [e] at h2; cases h2; rfl
    obtain ⟨u, hu, rv⟩ := r.get ha
    have hp : ps[i]? = some y := by
      rw [← S.pre, List.getElem?_take_of_lt (by omega)]; exact h1
    have ndP : ps.Nodup := by rw [← S.pre]; exact S.nd.sublist (List.take_sublist _ _)
    refine ⟨u, rv, ?_⟩
    rcases S.par y (List.mem_of_getElem? hp) with k | k
    · exact .inl ⟨k, bindL_get ndP hp hu k⟩
    · obtain ⟨c, e⟩ := cell_has (n := s.heap.objs.size + 1) k
      refine .inr ⟨.inl k, c, e, ?_⟩
      have q := x.cell y c e
      rw [bindC_get ndP hp hu (by show scope.names.lookup y ≠ _; rw [k]; decide)] at q
      exact q
  · exact e0.hok.fresh (Nat.le_of_lt (x.above y c (PySem.mem_of_lookup h)))
  · unfold start
    show _ = N.length
    rw [List.length_append, List.length_map, List.length_replicate]
    omega

/-- THE RULE: a def (or a method) of the text, by its body. The body's reading t is chosen for each entry; it is run at the parameters' values -/
theorem fn_of {CX : CXT} {P : Program} {w : World} {K : PySem.W.Frag} {mg : Str → Option Value} {base : Heap} {k : Nat} {f : Addr} {name qual : Str} {params : Arguments} {body : List Stmt} {scope : Scope} {dV kV doc pm cdv ct oc : Value} {an od : Option Addr}
    {osl : Array (Option Value)} {N ps : List Str} {sp : Sp} (lk : K.lookup f = some ⟨oc, od, .func (PySem.W.fnOf name qual params body scope dV kV doc pm an cdv ct), osl⟩) (hcd : PySem.W.codeIn K cdv qual = true) (S : FnScope N ps scope)
    (len : ∀ vs H Q E, sp vs H Q E → vs.length = ps.length)
    (hbody : ∀ (A : Around) (outer : List Env) (s : Shared) (H : Hp) (vs : List V) (Q : VK) (E : XK), Room k (A.deeper (envOfC qual scope s.heap.objs.size f cdv)) → sp vs H Q E →
      ∃ t, PSs (cxOf CX P w K mg base N qual scope f cdv A outer s H E) body t ∧ t { nx := fun _ H' => Q .non H', rt := Q } (start N vs) H) :
    FnOk P w K mg base CX (k + 1) f (PySem.W.fnOf name qual params body scope dV kV doc pm an cdv ct) ps sp := by
  refine ⟨len, fun A outer s H args us vs Q E hr e0 hb r hsp => ?_⟩
  have hl := len _ _ _ _ hsp
  have KX : K.In s.heap := e0.mod.kin.keeps fun b o e => (e0.bs b o e).1
  have lim : s.heap.NoLimit := e0.mod.nolimit.keeps fun b o e => (e0.bs b o e).1
  have hkind : ∀ y ∈ ps.zip us, scope.names.lookup y.1 = some .local ∨ (scope.names.lookup y.1 = some .cell ∧ ((cellsFrom (s.heap.objs.size + 1) scope.names []).lookup y.1).isSome = true) := fun ⟨n, v⟩ hy => by
    rcases S.par n (List.of_mem_zip hy).1 with q | q
    · exact .inl q
    · exact .inr ⟨q, PySem.W.cellsFrom_some _ _ _ (.inl q)⟩
  refine codeAny_call_function hr.depth (KX _ _ lk) rfl S.co S.gen rfl (PySem.W.codeRec_of KX hcd) (hb _ _ _ _ ?_)
  refine wpAny_newFunctionEnv_cells S.kind hkind fun env he s1 x => ?_
  subst he
  refine ⟨lim.keeps x.toInCall.keep, codeAny_func ?_⟩
  obtain ⟨t, ht, hq⟩ := hbody A outer s H vs Q E (hr.deeper _) hsp
  have I : Inv (cxOf CX P w K mg base N qual scope f cdv A outer s H E) [] (start N vs) H s1 := inv_start S hr.hd e0 hl r x
  refine wpAny_mono (ht [] s1 (start N vs) H _ I hq) (fun fl s' hs => ?_) fun e s' hs => hs
  have fin : ∀ {σ' : St} {H' : Hp} {v : V} {u : Value}, Inv (cxOf CX P w K mg base N qual scope f cdv A outer s H E) [] σ' H' s' → RelV v u → Q v H' → CE outer P w H s Q u s' :=
    fun {σ' H' v u} J rv q => ⟨v, H', J.os, J.bare, J.base, J.hok, rv, q⟩
  cases fl with
  | ret u =>
    obtain ⟨v, σ', H', J, rv, q⟩ := hs
    exact fin J rv q
  | next =>
    obtain ⟨σ', H', J, q⟩ := hs
    exact fin (v := V.non) (u := Value.none) J rfl q
  | brk =>
    obtain ⟨_, _, _, q⟩ := hs
    exact False.elim q
  | cont =>
    obtain ⟨_, _, _, q⟩ := hs
    exact False.elim q
end L2

namespace L2
open PySem PySem.Spec PyProof.Rows
section
variable {X : Cx} {x : Str} {p pos : Pos} {e : Expr} {es : List Expr} {t : TA} {id T : String} {r : List V → Hp → VK → Prop}

def tCB (r : List V → Hp → VK → Prop) (t : TA) : TE := fun σ H Q => t σ H fun vs H1 => r vs H1 Q
/-- f(e, ..), f a built-in function -/
theorem pe_callB (hc : CallR X (.builtin id) r) (hg : Gl X x) (hm : X.mg x = none) (hv : bootBuiltins x = some (.builtin id)) (ha : PA X (e :: es) t) (hn : x ≠ "__name__" := by decide) (hdb : (x == ("__debug__" : Str)) = false := by decide)
    (he : starEach (e :: es) X.env = (false, eval e X.env) :: starEach es X.env := by rfl) (hpl : (backTo pos (starEach es X.env)).any (·.1) = false := by rfl) : PE X (.Call (.Name x p) (e :: es) [] pos) (tCB r t) := by
  intro pins s σ H Q I h
  refine wpAny_Call_Name_kw (ld_blt I hg hm hv ?_ hn hdb)
  exact PyProof.Rows.callWith_builtin1 (thn (ha pos pins s σ H _ I h) fun us s1 ⟨vs, H1, I1, r1, q1⟩ => hc pins s1 σ H1 vs us Q I1 r1 q1) he hpl
/-- T(e, ..), T a built-in type -/
theorem pe_callTy (hc : CallR X (.type T) r) (hg : Gl X x) (hm : X.mg x = none) (hv : bootBuiltins x = some (.type T)) (ha : PA X (e :: es) t) (hn : x ≠ "__name__" := by decide) (hdb : (x == ("__debug__" : Str)) = false := by decide)
    (he : starEach (e :: es) X.env = (false, eval e X.env) :: starEach es X.env := by rfl) (hpl : (backTo pos (starEach es X.env)).any (·.1) = false := by rfl) : PE X (.Call (.Name x p) (e :: es) [] pos) (tCB r t) := by
  intro pins s σ H Q I h
  refine wpAny_Call_Name_kw (ld_blt I hg hm hv ?_ hn hdb)
  exact PyProof.Rows.callWith_type1 (thn (ha pos pins s σ H _ I h) fun us s1 ⟨vs, H1, I1, r1, q1⟩ => hc pins s1 σ H1 vs us Q I1 r1 q1) he hpl
end
end L2

namespace HT
open PySem PyProof.Rows

section
open PySem.SeqAt
open PySem.AutoSeq1 (wpAny_loadPart')
open PySem.MeetsSeq PySem.MeetsSeq2 PySem.MeetsSeq3

end

section
variable {prog : Program} {w : World} {A : Around} {E : Value → Shared → Prop} {s : Shared}

/-! ### t[a:b], not the whole -/
/-- a slice's bound as a place among n (d where it is left out) -/
def sIx (n d : Nat) : Option Int → Nat
  | none => d
  | some v => if v < 0 then (v + (n : Int)).toNat else min v.toNat n
theorem sIx_nat (n d k : Nat) : sIx n d (some (k : Int)) = min k n := by
  show (if (k : Int) < 0 then ((k : Int) + (n : Int)).toNat else min (k : Int).toNat n) = min k n
  rw [if_neg (by omega), Int.toNat_natCast]
end
end HT

namespace L2
open PySem PySem.Spec PyProof.Rows

/-! ### the parts of a slice -/
abbrev TO := St → Hp → (Option Int → Hp → Prop) → Prop
/-- a slice's part (left out, or an int) -/
def PO (X : Cx) (e : Option Expr) (t : TO) : Prop :=
  ∀ (pins : List (Addr × Obj)) (s : Shared) (σ : St) (H : Hp) (Q : Option Int → Hp → Prop), Inv X pins σ H s → t σ H Q →
    wpAny (model X.prog X.w) X.A (evalPart e X.env) (fun u s' => ∃ o H', Inv X pins σ H' s' ∧ IsPart u o ∧ Q o H') X.xe s
def tNoPart : TO := fun _ H Q => Q none H
def tPart (t : TE) : TO := fun σ H Q => t σ H fun x H1 => ∃ i, x = .int i ∧ Q (some i) H1

theorem intsAre_of {ns : List Int} : ∀ {us : List Value}, Vals (ns.map V.int) us → IntsAre us ns := by
  induction ns with
  | nil => intro us r; rw [List.map_nil] at r; cases r; exact .nil
  | cons n ns ih =>
    intro us r
    rw [List.map_cons] at r
    cases r with
    | cons r1 r2 =>
      obtain ⟨t, e⟩ := r1
      subst e
      exact .cons n t (ih r2)

section
variable {X : Cx} {e : Expr} {te : TE} {lo hi : Option Expr} {tl th : TO} {pos p2 : Pos}

theorem po_none : PO X none tNoPart := by
  intro pins s σ H Q I h
  rw [evalPart_none]
  exact wpAny_pure ⟨none, H, I, .none, h⟩
theorem po_some (h : PE X e te) : PO X (some e) (tPart te) := by
  intro pins s σ H Q I hw
  rw [evalPart_some]
  refine thn (h pins s σ H _ I hw) fun u s1 ⟨x, H1, I1, r1, q1⟩ => ?_
  obtain ⟨i, rfl, q⟩ := q1
  obtain ⟨t, rfl⟩ := r1
  exact ⟨some i, H1, I1, .int i t, q⟩

/-- what a slice of a value is, by values: the slice object stands at sl -/
def SlR (X : Cx) (r : V → Option Int → Option Int → Hp → VK → Prop) : Prop :=
  ∀ (pins : List (Addr × Obj)) (s : Shared) (σ : St) (H : Hp) (x : V) (v vl vu : Value) (lo hi : Option Int) (sl : Addr) (Q : VK), Inv X pins σ H s → RelV x v → s.heap.IsSliceOf sl vl vu .none → IsPart vl lo → IsPart vu hi → r x lo hi H Q →
    ∃ T id, typeLookup (.type T) "__getitem__" = pure (some (.builtin id)) ∧ s.TypeIs v T ∧ wpAny (model X.prog X.w) X.A (getItem v (.ref sl)) (EP X pins σ Q) X.xe s
def tSl (r : V → Option Int → Option Int → Hp → VK → Prop) (te : TE) (tl th : TO) : TE := fun σ H Q => te σ H fun x H1 => tl σ H1 fun l H2 => th σ H2 fun u H3 => r x l u H3 Q
/-- a[lo:hi], any a -/
theorem pe_slice {r : V → Option Int → Option Int → Hp → VK → Prop} (hr : SlR X r) (he : PE X e te) (hl : PO X lo tl) (hu : PO X hi th) : PE X (.Subscript e (.Slice lo hi none p2) pos) (tSl r te tl th) := by
  intro pins s σ H Q I h
  refine Subscript_ (thn (he pins s σ H _ I h) fun v s1 ⟨x, H1, I1, r1, q1⟩ => ?_)
  refine wpAny_Slice (thn (hl pins s1 σ H1 _ I1 q1) fun vl s2 ⟨l, H2, I2, pl, q2⟩ => thn (hu pins s2 σ H2 _ I2 q2) fun vu s3 ⟨u, H3, I3, pu, q3⟩ => ?_)
  rw [evalPart_none]
  refine wpAny_pure ?_
  have I4 : Inv X pins σ H3 { s3 with heap := s3.heap.push { cls := .type "slice", data := .fields #[vl, vu, .none] } } := I3.kept (t' := s3.toks) fun b ob q => Heap.get?_push_of_some _ q
  obtain ⟨T, id, hT, ht, hg⟩ := hr pins { s3 with heap := s3.heap.push { cls := .type "slice", data := .fields #[vl, vu, .none] } } σ H3 x v vl vu l u s3.heap.objs.size Q I4 r1 (Heap.IsSliceOf.new ..) pl pu q3
  show wpAny (model X.prog X.w) X.A (subscriptTail e (.Slice lo hi none p2) v (.ref s3.heap.objs.size)) (EP X pins σ Q) X.xe { s3 with heap := s3.heap.push { cls := .type "slice", data := .fields #[vl, vu, .none] } }
  exact tail_any (ops := [.ref s3.heap.objs.size, v]) ht hT hg (by with_unfolding_all rfl)

/-- the items of xs[lo:hi] -/
def cutV (xs : List V) (lo hi : Option Int) : List V := (xs.drop (HT.sIx xs.length 0 lo)).take (HT.sIx xs.length xs.length hi - HT.sIx xs.length 0 lo)
theorem cutV_length (xs : List V) (lo hi : Option Int) : (cutV xs lo hi).length ≤ xs.length := by
  unfold cutV
  rw [List.length_take, List.length_drop]
  omega
/-! ### t < u, t + u -/
end
end L2

namespace L2
open PySem PySem.Spec PyProof.Rows

/-! ### places -/
/-- the place that an index of any sign means -/
def ixN (n : Nat) (i : Int) : Option Nat := if 0 ≤ i then (if i < n then some i.toNat else none) else if -(n : Int) ≤ i then some (i + n).toNat else none
def atI {α : Type} (xs : List α) (i : Int) : Option α := (ixN xs.length i).bind fun j => xs[j]?
theorem ixN_seq {n : Nat} {i : Int} {j : Nat} (h : ixN n i = some j) : seqIndex? i n = some j ∧ j < n ∧ -(n : Int) ≤ i ∧ i < n := by
  unfold ixN at h
  by_cases h0 : 0 ≤ i
  · rw [if_pos h0] at h
    by_cases h1 : i < n
    · rw [if_pos h1] at h
      have e : i.toNat = j := Option.some.inj h
      exact ⟨by rw [seqIndex_of h0 h1, e], by omega, by omega, h1⟩
    · rw [if_neg h1] at h; cases h
  · rw [if_neg h0] at h
    by_cases h1 : -(n : Int) ≤ i
    · rw [if_pos h1] at h
      have e : (i + n).toNat = j := Option.some.inj h
      exact ⟨by rw [seqIndex_neg (by omega) h1, e], by omega, h1, by omega⟩
    · rw [if_neg h1] at h; cases h
theorem atI_get {α : Type} {xs : List α} {i : Int} {v : α} (h : atI xs i = some v) : ∃ j, seqIndex? i xs.length = some j ∧ xs[j]? = some v ∧ j < xs.length ∧ -(xs.length : Int) ≤ i ∧ i < xs.length := by
  unfold atI at h
  cases e : ixN xs.length i with
  | none => rw [e] at h; cases h
  | some j =>
    rw [e] at h
    obtain ⟨h1, h2, h3, h4⟩ := ixN_seq e
    exact ⟨j, h1, h, h2, h3, h4⟩
theorem atI_nat {α : Type} {xs : List α} {j : Nat} {v : α} (h : xs[j]? = some v) : atI xs (j : Int) = some v := by
  have hj : j < xs.length := (List.getElem?_eq_some_iff.mp h).1
  have e : ixN xs.length (j : Int) = some j := by
    unfold ixN
    rw [if_pos (by omega), if_pos (by omega)]; simp
  unfold atI; rw [e]; exact h
/-! ### what may be subscripted -/
/-- what stands as an index of a plain subscript -/
def PlainIx (b : Expr) : Prop := ∀ o i, subscripted b false o i = operate [o, i] (getItem o i)
/-- a subscript by values -/
def IxR (X : Cx) (r : R2) : Prop :=
  ∀ (value slice : Expr) (pins : List (Addr × Obj)) (s : Shared) (σ : St) (H : Hp) (x y : V) (v u : Value) (Q : VK), Inv X pins σ H s → RelV x v → RelV y u → r x y H Q →
    subscripted slice false v u = operate [v, u] (getItem v u) → wpAny (model X.prog X.w) X.A (subscriptTail value slice v u) (EP X pins σ Q) X.xe s
/-- a call of a builtin's method by values: the receiver, the arguments -/
def MtR (X : Cx) (id : String) (r : V → List V → Hp → VK → Prop) : Prop :=
  ∀ (pins : List (Addr × Obj)) (s : Shared) (σ : St) (H : Hp) (x : V) (xs : List V) (v : Value) (us : List Value) (Q : VK), Inv X pins σ H s → RelV x v → Vals xs us → r x xs H Q →
    wpAny (model X.prog X.w) X.A (call (.builtin id) (v :: us)) (EP X pins σ Q) X.xe s
section
variable {X : Cx} {a b : Expr} {ta tb : TE} {pos : Pos}
/-- a[b] -/
theorem pe_ix {r : R2} (hr : IxR X r) (ha : PE X a ta) (hb : PE X b tb) (hs : PlainIx b) : PE X (.Subscript a b pos) (tOp r ta tb) := by
  intro pins s σ H Q I h
  exact Subscript_ (binT ha hb I h fun v u s2 x y H2 I2 rx ry q => hr a b pins s2 σ H2 x y v u Q I2 rx ry q (hs _ _))

def rIxL (K : PySem.W.Frag) : R2 := fun x y H Q => ∃ p xs i v, x = .ref p ∧ y = .int i ∧ SqL K H p xs ∧ atI xs i = some v ∧ Q v H
def rIxT (K : PySem.W.Frag) : R2 := fun x y H Q => ∃ p xs i v, x = .ref p ∧ y = .int i ∧ SqT K H p xs ∧ atI xs i = some v ∧ Q v H
theorem ix_list : IxR X (rIxL X.K) := by
  intro value slice pins s σ H x y v u Q I rx ry h hs
  obtain ⟨p, xs, i, z, rfl, rfl, hq, he, q⟩ := h
  cases rx
  obtain ⟨t, rfl⟩ := ry
  obtain ⟨its, r, pl, hz⟩ := I.list hq
  obtain ⟨j, h1, h2, h3, h4, h5⟩ := atI_get he
  obtain ⟨w, ew, rw'⟩ := r.get h2
  have hl := r.length
  have hn := line63
  have fin : EP X pins σ Q w s := ⟨z, H, I, rw', q⟩
  by_cases h0 : 0 ≤ i
  · have hj : i.toNat = j := by
      rw [seqIndex_of h0 h5] at h1
      exact Option.some.inj h1
    exact item_listR pl.isList h0 (by omega) (by rw [hj]; simpa using ew) fin hs
  · have hj : (i + (its.toArray.size : Int)).toNat = j := by
      rw [seqIndex_neg (by omega) h4] at h1
      rw [List.size_toArray, ← hl]
      exact Option.some.inj h1
    exact subscriptTail_builtinR (x := w) pl.isList.typeIs slot_list_getitem.lookup
      (wpAny_getItem_list_neg (Q := fun r s' => r = w ∧ EP X pins σ Q r s') pl.isList (by omega) (by rw [List.size_toArray] <;> omega) (by omega) (by rw [hj]; simpa using ew) ⟨rfl, fin⟩) hs
theorem ix_tup : IxR X (rIxT X.K) := by
  intro value slice pins s σ H x y v u Q I rx ry h hs
  obtain ⟨p, xs, i, z, rfl, rfl, hq, he, q⟩ := h
  cases rx
  obtain ⟨t, rfl⟩ := ry
  obtain ⟨its, r, pl, hz⟩ := I.tuple hq
  obtain ⟨j, h1, h2, h3, h4, h5⟩ := atI_get he
  obtain ⟨w, ew, rw'⟩ := r.get h2
  have hl := r.length
  have hn := line63
  have fin : EP X pins σ Q w s := ⟨z, H, I, rw', q⟩
  exact subscriptTail_builtinR (x := w) pl.typeIs slot_tuple_getitem.lookup
    (getItem_tuple (j := j) (Q := fun r s' => r = w ∧ EP X pins σ Q r s') pl (by omega) (by omega) (by rw [List.size_toArray, ← hl]; exact h1) (by simpa using ew) ⟨rfl, fin⟩) hs
/-! ### xs[i] = v, any sign -/
/-! ### slices -/
theorem slice_bounds (lo hi : Option Int) (n : Nat) : (sliceBounds lo hi none n).1 = ((HT.sIx n 0 lo : Nat) : Int) ∧ (sliceBounds lo hi none n).2.1 = ((HT.sIx n n hi : Nat) : Int) ∧ (sliceBounds lo hi none n).2.2 = 1 := by
  refine ⟨?_, ?_, rfl⟩
  · cases lo with
    | none => simp [sliceBounds, HT.sIx]
    | some i =>
      simp only [sliceBounds, HT.sIx, Option.getD_none, show (1 : Int) > 0 by decide, if_true]
      by_cases h : i < 0
      · simp only [h, if_true] <;> omega
      · simp only [h, if_false] <;> omega
  · cases hi with
    | none => simp [sliceBounds, HT.sIx]
    | some i =>
      simp only [sliceBounds, HT.sIx, Option.getD_none, show (1 : Int) > 0 by decide, if_true]
      by_cases h : i < 0
      · simp only [h, if_true] <;> omega
      · simp only [h, if_false] <;> omega
theorem slicePick_cut (its : List Value) (lo hi : Option Int) : slicePick its.toArray lo hi none = ((its.drop (HT.sIx its.length 0 lo)).take (HT.sIx its.length its.length hi - HT.sIx its.length 0 lo)).toArray := by
  obtain ⟨h1, h2, h3⟩ := slice_bounds lo hi its.toArray.size
  unfold slicePick
  rw [h1, h2, h3]
  simp only [sliceRange_one, pick_run, List.size_toArray] <;> rfl
/-- xs[lo:hi] of a list: a new list -/
def rSlL (K : PySem.W.Frag) : V → Option Int → Option Int → Hp → VK → Prop := fun x lo hi H Q => ∃ a xs, x = .ref a ∧ SqL K H a xs ∧ ∀ p, H p = none → Q (.ref p) (upd H p (.lst (cutV xs lo hi)))
theorem sl_list : SlR X (rSlL X.K) := by
  intro pins s σ H x v vl vu lo hi sl Q I rx hs pl pu h
  obtain ⟨a, xs, rfl, hx, q⟩ := h
  cases rx
  obtain ⟨its, r, ht, hz⟩ := I.list hx
  have hlen := r.length
  refine ⟨"list", _, slot_list_getitem.lookup, ht.isList.typeIs, ?_⟩
  refine wpAny_getItem_list_slice ht.isList hs pl pu .none (by simp) ?_ (by rw [List.size_toArray] <;> omega)
  rw [slicePick_cut, ← hlen]
  refine ⟨.ref s.heap.objs.size, _, I.laid (t' := s.toks) (o := .lst (cutV xs lo hi)) (fun b ob q => Heap.get?_push_of_some _ q) (Nat.le_refl _) ?_, rfl, q _ (I.hok.fresh (Nat.le_refl _))⟩
  exact ⟨Nat.le_trans (cutV_length xs lo hi) hz, _, 0, (r.drop (HT.sIx xs.length 0 lo)).take (HT.sIx xs.length xs.length hi - HT.sIx xs.length 0 lo), Heap.get?_push_size _ rfl⟩

/-! ### in, not in: flat items -/
/-! ### len, list(x), tuple(x) of any list or tuple that is read -/
theorem call_len_seq : CallR X (.builtin "len") (fun xs H Q => ∃ p ys, xs = [.ref p] ∧ (SqL X.K H p ys ∨ SqT X.K H p ys) ∧ Q (.int ys.length) H) := by
  intro pins s σ H xs us Q I r h
  obtain ⟨p, ys, rfl, hq, q⟩ := h
  obtain ⟨u, rfl, rx⟩ := vals1 r
  cases rx
  have hn := line63
  rcases hq with hq | hq
  · obtain ⟨its, r', pl, hz⟩ := I.list hq
    have hlen := r'.length
    exact Calls.call_len_list pl.isList (by simp only [List.size_toArray] <;> omega) ⟨.int ys.length, H, I.tok _, ⟨s.toks + 1, by rw [List.size_toArray, hlen]⟩, q⟩
  · obtain ⟨its, r', pl, hz⟩ := I.tuple hq
    have hlen := r'.length
    exact len_tuple pl (by simp only [List.size_toArray] <;> omega) ⟨.int ys.length, H, I.tok _, ⟨s.toks + 1, by rw [List.size_toArray, hlen]⟩, q⟩
theorem call_list_of : CallR X (.type "list") (fun xs H Q => ∃ p ys, xs = [.ref p] ∧ (SqL X.K H p ys ∨ SqT X.K H p ys) ∧ ∀ l, H l = none → Q (.ref l) (upd H l (.lst ys))) := by
  intro pins s σ H xs us Q I r h
  obtain ⟨p, ys, rfl, hq, q⟩ := h
  obtain ⟨u, rfl, rx⟩ := vals1 r
  cases rx
  have fin : ∀ (its : List Value), Vals ys its → ys.length ≤ sizeLine → ∀ (h' : Heap) (c' : Nat), (∀ b o', s.heap.get? b = some o' → h'.get? b = some o') →
      h'.get? s.heap.objs.size = some { cls := .type "list", dict := none, data := .seq its.toArray c', slots := #[] } → EP X pins σ Q (.ref s.heap.objs.size) { s with heap := h' } := fun its r' hz h' c' kp e =>
    ⟨.ref s.heap.objs.size, _, I.laid (t' := s.toks) kp (Nat.le_refl _) (show ObjOk X.prog X.w _ h' _ (.lst ys) from ⟨hz, its, c', r', e⟩), rfl, q _ (I.hok.fresh (Nat.le_refl _))⟩
  rcases hq with hq | hq
  · obtain ⟨its, r', pl, hz⟩ := I.list hq
    have hlen := r'.length
    obtain ⟨o, ho, hc, n, hd⟩ := pl.isList
    exact call_list_seq p (.inl rfl) ho hc hd (fun h' c' kp e => fin its r' hz h' c' kp e) (by simp only [List.size_toArray] <;> omega)
  · obtain ⟨its, r', pl, hz⟩ := I.tuple hq
    have hlen := r'.length
    obtain ⟨o, ho, hc, n, hd⟩ := pl
    exact call_list_seq p (.inr rfl) ho hc hd (fun h' c' kp e => fin its r' hz h' c' kp e) (by simp only [List.size_toArray] <;> omega)
theorem call_tuple_of : CallR X (.type "tuple") (fun xs H Q => ∃ p ys, xs = [.ref p] ∧ ((SqL X.K H p ys ∧ ∀ l, H l = none → Q (.ref l) (upd H l (.tup ys))) ∨ (SqT X.K H p ys ∧ Q (.ref p) H))) := by
  intro pins s σ H xs us Q I r h
  obtain ⟨p, ys, rfl, h⟩ := h
  obtain ⟨u, rfl, rx⟩ := vals1 r
  cases rx
  rcases h with ⟨hq, q⟩ | ⟨hq, q⟩
  · obtain ⟨its, r', pl, hz⟩ := I.list hq
    have hlen := r'.length
    refine call_tuple_list pl.isList (fun h' kp => ?_) (by simp only [List.size_toArray] <;> omega)
    have I1 : Inv X pins σ H { s with heap := h' } := I.kept (t' := s.toks) kp
    have I2 : Inv X pins σ (upd H h'.objs.size (.tup ys)) { s with heap := h'.push { cls := .type "tuple", data := .seq its.toArray } } :=
      I1.laid (t' := s.toks) (fun b o e => Heap.get?_push_of_some _ e) (Nat.le_refl _) (show ObjOk X.prog X.w _ _ _ (.tup ys) from ⟨hz, its, r', IsTup.new _ _⟩)
    exact ⟨.ref h'.objs.size, _, I2, rfl, q _ (I1.hok.fresh (Nat.le_refl _))⟩
  · obtain ⟨its, r', pl, hz⟩ := I.tuple hq
    exact call_tuple_same pl ⟨.ref p, H, I, rfl, q⟩

/-! ### the call of a builtin's method: o.m(..) -/
/-- the value is of that builtin type -/
def tyV (K : PySem.W.Frag) (T : String) (x : V) (H : Hp) : Prop := match x with
  | .str _ => T = "str"
  | .int _ => T = "int"
  | .ref p => (T = "list" ∧ ∃ xs, SqL K H p xs) ∨ (T = "tuple" ∧ ∃ o, K.lookup p = some o ∧ o.cls = .type "tuple" ∧ o.dict = none) ∨
      (T = "dict" ∧ ((∃ kvs, H p = some (.dK kvs)) ∨ ∃ kvs, H p = some (.dT kvs))) ∨ (T = "set" ∧ ∃ S n, H p = some (.set S n))
  | _ => False
theorem tyV_is {pins : List (Addr × Obj)} {σ : St} {H : Hp} {s : Shared} {T : String} {x : V} {v : Value} (I : Inv X pins σ H s) (r : RelV x v) (ty : tyV X.K T x H) :
    s.TypeIs v T ∧ ∀ a, v = .ref a → ∃ ob, s.heap.get? a = some ob ∧ ob.dict = none := by
  cases x with
  | str z =>
    obtain ⟨t, rfl⟩ := r
    cases (show T = "str" from ty)
    exact ⟨typeIs_str s z t, fun _ e => nomatch e⟩
  | int i =>
    obtain ⟨t, rfl⟩ := r
    cases (show T = "int" from ty)
    exact ⟨typeIs_int s i t, fun _ e => nomatch e⟩
  | ref p =>
    cases r
    rcases ty with ⟨rfl, xs, hq⟩ | ⟨rfl, o, hk, hc, hd⟩ | ⟨rfl, hk⟩ | ⟨rfl, S, n, hk⟩
    · obtain ⟨its, _, pl, _⟩ := I.list hq
      refine ⟨pl.isList.typeIs, fun a e => ?_⟩
      cases e
      obtain ⟨o, n, e, c, hd, _⟩ := pl
      exact ⟨o, e, hd⟩
    · refine ⟨⟨o, I.kIn p o hk, hc⟩, fun a e => ?_⟩
      cases e
      exact ⟨o, I.kIn _ o hk, hd⟩
    · have z : ∃ o, s.heap.get? p = some o ∧ o.ExactDict := by
        rcases hk with ⟨kvs, hk⟩ | ⟨kvs, hk⟩
        · obtain ⟨_, _, _, _, o, _, _, e, ex, _⟩ := I.hok p _ hk
          exact ⟨o, e, ex⟩
        · obtain ⟨_, _, _, _, o, _, _, e, ex, _⟩ := I.hok p _ hk
          exact ⟨o, e, ex⟩
      obtain ⟨o, e, ex⟩ := z
      refine ⟨⟨o, e, ex.1⟩, fun a e2 => ?_⟩
      cases e2
      exact ⟨o, e, ex.2.1⟩
    · obtain ⟨o, _, _, _, e, ex, _⟩ := I.hok p _ hk
      refine ⟨⟨o, e, ex.1⟩, fun a e2 => ?_⟩
      cases e2
      exact ⟨o, e, ex.2.1⟩
  | _ => exact False.elim ty
def tBM (K : PySem.W.Frag) (T : String) (r : V → List V → Hp → VK → Prop) (to : TE) (t : TA) : TE := fun σ H Q => to σ H fun x H1 => tyV K T x H1 ∧ t σ H1 fun xs H2 => r x xs H2 Q
variable {o e : Expr} {es : List Expr} {to : TE} {t : TA} {name : Str} {apos cpos : Pos} {T id : String} {r : V → List V → Hp → VK → Prop}
theorem pe_bm (pa : PlainAttrs T) (slot : Slot T name id) (hty : typeOf (.builtin id) = pure (.type "method_descriptor")) (hm : MtR X id r) (ho : PE X o to) (ha : PA X (e :: es) t)
    (hbase : attributeBase o name X.env (eval o X.env) = eval o X.env := by rfl)
    (hfew : ((backTo cpos (starEach (e :: es) X.env)).all (fun x => !x.1) && (backToKw cpos (keywordEach [] X.env)).all (fun x => x.1.isSome)
      && decide ((e :: es).length + ([] : List Keyword).length + (if ([] : List Keyword).isEmpty then 0 else 1) < 30)) = true := by rfl)
    (hline : (apos.endLine == cpos.line) = true := by rfl) (hs : starEach (e :: es) X.env = (false, eval e X.env) :: starEach es X.env := by rfl) (hplain : (backTo cpos (starEach es X.env)).any (·.1) = false := by rfl) :
    PE X (.Call (.Attribute o name apos) (e :: es) [] cpos) (tBM X.K T r to t) := by
  intro pins s σ H Q I h
  refine wpAny_Call_method_late hbase hfew hline rfl (thn (ho pins s σ H _ I h) fun v s1 ⟨x, H1, I1, r1, ty, q1⟩ => ?_)
  obtain ⟨h1, h2⟩ := tyV_is I1 r1 ty
  refine ⟨T, id, pa, slot, hty, h1, h2, ?_⟩
  have hA := ha cpos pins s1 σ H1 _ I1 q1
  rw [hs] at hA ⊢
  refine Calls.callWith_builtin (by show (false || (backTo cpos (starEach es X.env)).any (·.1)) = false; rw [hplain] <;> rfl) (Calls.evalArgs_plain ?_)
  exact thn hA fun us s2 ⟨vs, H2, I2, r2, q2⟩ => hm pins s2 σ H2 x vs v us Q I2 r1 r2 q2
/- xs.append(e), list.index on a module's tuple .. are MtR facts of 06m -/
end
end L2

namespace L2
open PySem PySem.Spec PyProof.Rows

def MtM (X : Cx) (id : String) (r : V → List V → Hp → VK → Prop) : Prop :=
  ∀ (pins : List (Addr × Obj)) (s : Shared) (σ : St) (H : Hp) (x : V) (xs : List V) (v : Value) (us : List Value) (Q : VK), Inv X pins σ H s → RelV x v → Vals xs us → r x xs H Q →
    wpAny (model X.prog X.w) X.A (call (.builtin id) (v :: us)) (EP X pins σ Q) X.xe s

/-! ### lists of values -/
theorem Vals.one : ∀ {x : V} {us : List Value}, Vals [x] us → ∃ u, us = [u] ∧ RelV x u
  | _, _, .cons r .nil => ⟨_, rfl, r⟩
section
variable {X : Cx} {pins : List (Addr × Obj)} {σ : St} {H : Hp} {s : Shared} {l b : Addr} {xs ys zs : List V}

/-! ### the two steps: a tracked list is rewritten, a new list is laid -/
theorem Inv.lset {its its' : List Value} {n : Nat} {f : Array Value → Array Value} {t' : Nat} (I : Inv X pins σ H s) (hH : H l = some (.lst xs))
    (e : s.heap.get? l = some { cls := .type "list", data := .seq its.toArray n }) (hf : f its.toArray = its'.toArray) (hv : Vals ys its') (hz : ys.length ≤ sizeLine) :
    Inv X pins σ (upd H l (.lst ys)) { s with heap := s.heap.update l (Obj.mapSeq f), toks := t' } := by
  have q := PySem.IsL.update e f
  rw [hf] at q
  refine I.write (x := l) (e := l) (by rw [hH]; exact trivial) (.inl rfl) (fun b' u hb hu => (Heap.get?_update_other s.heap (Obj.mapSeq f) (Ne.symm hb)).trans hu) ⟨_, q⟩ ?_
  exact ⟨hz, its', _, hv, q⟩
theorem Inv.lnew {its : List Value} {t' : Nat} (I : Inv X pins σ H s) (hv : Vals ys its) (hz : ys.length ≤ sizeLine) :
    Inv X pins σ (upd H s.heap.objs.size (.lst ys)) { s with heap := s.heap.push { cls := .type "list", data := .seq its.toArray }, toks := t' } :=
  I.laid (fun _ _ q => Heap.get?_push_of_some _ q) (Nat.le_refl _) ⟨hz, its, 0, hv, Heap.get?_push_size _ rfl⟩
theorem Inv.fresh (I : Inv X pins σ H s) : H s.heap.objs.size = none := I.hok.fresh (Nat.le_refl _)
theorem Inv.lstM (I : Inv X pins σ H s) (hH : H l = some (.lst xs)) : xs.length ≤ sizeLine ∧ ∃ (its : List Value) (n : Nat), Vals xs its ∧ xs.length = its.length ∧ s.heap.get? l = some { cls := .type "list", data := .seq its.toArray n } := by
  obtain ⟨z, its, n, r, e⟩ := I.hok l _ hH
  exact ⟨z, its, n, r, r.length, e⟩

theorem notLongL {n : Nat} (h : n ≤ sizeLine) : Builtin.List.listTooLong n = false := by
  unfold Builtin.List.listTooLong
  exact decide_eq_false (by omega)
end

section
variable {X : Cx}

/-! ### methods -/
def rAppend : V → List V → Hp → VK → Prop := fun x vs H Q => ∃ l xs y, x = .ref l ∧ vs = [y] ∧ H l = some (.lst xs) ∧ xs.length < sizeLine ∧ Q .non (upd H l (.lst (xs ++ [y])))
theorem mt_append : MtM X "list.append" rAppend := by
  intro pins s σ H x vs v us Q I rx rv h
  obtain ⟨l, xs, y, rfl, rfl, hH, hz, q⟩ := h
  cases rx
  obtain ⟨u, rfl, ru⟩ := rv.one
  obtain ⟨z, its, n, r, hl, e⟩ := I.lstM hH
  refine call_meets F.slot_list_append ⟨_, e, rfl⟩ F.entry_list_append (F.args_list_append_2 _ _) (PySem.list_append l its.toArray n u (by rw [List.size_toArray]; omega)) ⟨e, ?_⟩
  refine ⟨.non, _, I.lset (its' := its ++ [u]) hH e (by simp) (r.append (.cons ru .nil)) ?_, rfl, q⟩
  rw [List.length_append, List.length_singleton]
  omega

/-! ### list + list, list += list, list * int -/
def rCat : R2 := fun x y H Q => ∃ l b xs zs, x = .ref l ∧ y = .ref b ∧ H l = some (.lst xs) ∧ H b = some (.lst zs) ∧ xs.length + zs.length ≤ sizeLine ∧ ∀ p, H p = none → Q (.ref p) (upd H p (.lst (xs ++ zs)))
theorem op_cat : OpR X (binaryOp .Add) rCat := by
  intro pins s σ H x y v u Q I rx ry h
  obtain ⟨l, b, xs, zs, rfl, rfl, hH, hB, hz, q⟩ := h
  cases rx
  cases ry
  obtain ⟨z, its, n, r, hl, e⟩ := I.lstM hH
  obtain ⟨z2, its2, n2, r2, hl2, e2⟩ := I.lstM hB
  refine PySem.P.add_list e e2 ?_ (by rw [List.size_toArray, List.size_toArray]; omega)
  have ea : its.toArray ++ its2.toArray = (its ++ its2).toArray := by simp
  rw [ea]
  exact ⟨.ref _, _, I.lnew (t' := s.toks) (r.append r2) (by rw [List.length_append]; omega), rfl, q _ I.fresh⟩
/-! ### del xs[i] -/
end

/-! ### xs[a:b] = ys -/
section
variable {prog : Program} {w : World} {A : Around} {E : Value → Shared → Prop} {s : Shared}
end

section
variable {X : Cx}
end
end L2

namespace Att
open PySem PySem.W PySem.Calls PyProof.Rows

/-! ### the script -/
theorem ints_of_wellAll {P : Params} {h : Heap} : ∀ (ns : List Int) (vs : List Value), WellAll P h vs (ns.map WData.int) → IntsAre vs ns := by
  intro ns
  induction ns with
  | nil =>
    intro vs w
    rw [List.map_nil] at w
    cases w
    exact .nil
  | cons n ns ih =>
    intro vs w
    rw [List.map_cons] at w
    cases w with
    | cons a b =>
      cases a
      exact .cons _ _ (ih _ b)

theorem script_of {l : OpenLaw} {n : Nat} (hn : l.most = some n) {P : Params} {h : Heap} {args : List WData} {vals : List Value}
    (hpre : l.row.toRowW.claim.pre args = true) (hwl : WellAll P h vals args) :
    ∃ a vs ns, vals = [Value.ref a] ∧ args = [WData.list (ns.map WData.int)] ∧ h.get? a = some { cls := .type "list", data := .seq vs.toArray } ∧ IntsAre vs ns ∧ ns.length ≤ n := by
  have hsh : WShape.hasAll [] args [.list .int] = true := (pre_splitW hpre).1
  have hc : l.pre.holds [] { args := args } = true := (pre_splitW hpre).2
  obtain ⟨d, r, rfl, h1, h2⟩ := hasAllW_cons hsh
  obtain rfl := hasAllW_nil h2
  obtain ⟨xs, rfl, h3⟩ := hasW_list h1
  obtain ⟨ns, rfl⟩ := items_int h3
  have hlen : ns.length ≤ n := by
    unfold OpenLaw.pre at hc
    have h4 : (WTm.not (.lt (.lit (.int (n : Int))) (.len (.arg 0)))).holds [] { args := [.list (ns.map .int)] } = true := by
      have h4 := (holds_andW hc).1
      rw [hn] at h4
      exact h4
    have h5 := condW_of h4 (w_not (w_lt w_lit (w_len_list (w_arg rfl))))
    rw [List.length_map] at h5
    refine Nat.le_of_not_lt fun q => ?_
    have q' : (n : Int) < ((ns.length : Nat) : Int) := by omega
    first
      | (rw [decide_eq_true q'] at h5; exact absurd h5 (by decide))
      | (simp at h5; omega)
  cases hwl with
  | cons w1 w2 =>
    cases w2
    cases w1 with
    | list ho hall => exact ⟨_, _, ns, rfl, rfl, ho, ints_of_wellAll ns _ hall, hlen⟩

theorem post_true (l : OpenLaw) (args : List WData) : l.row.toRowW.claim.post args (.bool true) args = true :=
  postW_of (r := l.row.toRowW) (X := (true == true))
    (show WShape.has [] (.bool true) .bool = true by first | rfl | decide | simp [WShape.has, WShape.arms, WShape.armsAll])
    (show (WTm.eq .res (.lit (.bool true))).value [] { args := args, res := some (.bool true), after := args } = some (.bool (true == true)) from w_eq_bool (w_res rfl) w_lit) rfl

/-! ### the attachment: holds_open's last premise (the goal 'hc' behind k_head) from a wpAny of the law's body -/
/-- the same from a codeAny of the CALL (for a layer whose function contracts speak of calls) -/
theorem attach_call {l : OpenLaw} {n : Nat} {q : Program} {loose : List Str} {XP : (Str → Option Value) → Heap → Prop} {YP : World → Heap → Prop} {d : DefRec}
    (hn : l.most = some n) (hdf : d.params.defaults = [])
    (call : ∀ (w : World) (s₀ s₁ : Shared) (mg mb : Str → Option Value) (fa : Addr) (o : Obj) (pm cd doc : Value) (a : Addr) (vs : List Value) (ns : List Int),
      Ground q loose [] XP w s₀ mg mb s₁.heap → YP w s₁.heap →
      s₁.heap.get? fa = some o → o.data = .func (docDef d.name d.params d.body d.scope pm cd doc) → s₁.heap.CodeRec cd d.name → mg d.name = some (.ref fa) →
      s₁.heap.get? a = some { cls := .type "list", data := .seq vs.toArray } → IntsAre vs ns → ns.length ≤ n → s₁.gens = #[] →
      codeAny (model l.prog w) callerA (.call (.ref fa) ⟨[.ref a], []⟩) (fun r s' => r = .ok (.ret (.bool true)) ∧ OldK s₁.heap s'.heap ∧ s'.os = s₁.os ∧ AllBare s'.gens) s₁) :
    WalkO q loose XP YP l.row.toRowW d [] (fun f vs => PySem.call f vs) := by
  intro w s₀ s₁ mg mb G Y fa o pm cd doc dV kV ho hd hcd hD hmg hg args vals as hpre hlay hrd hwl hlo
  obtain rfl : dV = .none := Dflts.none hD hdf
  obtain rfl : kV = .none := Dflts.noKw hD
  obtain ⟨a, vs, ns, rfl, rfl, hobj, hints, hlen⟩ := script_of hn hpre hwl
  refine enter_call (codeAny_mono (call w s₀ s₁ mg mb fa o pm cd doc a vs ns G Y ho (fd_plain hd) hcd hmg hobj hints hlen hg) fun r s' hq => ?_)
  obtain ⟨rfl, h2, h3, h4⟩ := hq
  exact ⟨.inl ⟨.bool true, .bool true, [], rfl, fun _ => rfl, .bool true, post_true l _, fun _ => ⟨List.Pairwise.nil, fun _ hm => (nomatch hm)⟩⟩, h2, h3, h4⟩

/-! ### rules over ANY heap (no ledger) from facts about the written part K: the library's own take a ledger (News) for what they write -/
section
variable {prog : Program} {w : World} {A : Around} {E : Value → Shared → Prop} {s : Shared} {K : Frag}

/-! the whole heap as the ledger: makes every rule that writes through a ledger a rule over any heap -/
end
end Att

namespace L2
open PySem PySem.Spec PyProof.Rows

theorem vals_ints : ∀ {vs : List Value} {ns : List Int}, IntsAre vs ns → Vals (ns.map V.int) vs
  | _, _, .nil => .nil
  | _, _, .cons n t h => .cons ⟨t, rfl⟩ (vals_ints h)

/-- nothing is tracked but the script, known to the object (or it is an object of the module) -/
def Only (H : Hp) : Prop := ∀ b, H b = none ∨ ∃ o xs, H b = some (.frz o (.lst xs))

/-- THE HEAD: the law's promise, at the heap behind the top. F, the promise of the law's def, may use that base is part of the heap (so K.In base, base.Ns mainGlobals mg stand in Mod) -/
theorem law_call {P : Program} {w : World} {K : PySem.W.Frag} {mg mb : Str → Option Value} {CX : CXT} {k : Nat} {fa a : Addr} {fd : FuncData} {x : Str} {sp : Sp} {s₁ : Shared} {vs : List Value} {ns : List Int}
    (KX : K.In s₁.heap) (hns : s₁.heap.Ns mainGlobals mg) (hb : s₁.heap.Ns builtinsNs mb) (hbb : ∀ x : Str, x ≠ "__name__" → mb x = bootBuiltins x) (hlim : s₁.heap.NoLimit) (hg : s₁.gens = #[])
    (ha : s₁.heap.get? a = some { cls := .type "list", data := .seq vs.toArray }) (hi : IntsAre vs ns) (hl : ns.length ≤ sizeLine) (hr : Room k callerA)
    (F : ∀ base : Heap, K.In base → base.Ns mainGlobals mg → FnOk P w K mg base CX k fa fd [x] sp) (hbind : ∀ (s : Shared) (u : Value), BindsTo s fd ⟨[u], []⟩ [(x, u)])
    (hsp : ∀ H : Hp, Only H → SqL K H a (ns.map V.int) → sp [.ref a] H (fun v _ => v = .bl true) fun _ _ _ => False)
    (hCX : ∀ H e s', CX [] H s₁ (fun _ _ _ => False) e s' → False) :
    codeAny (model P w) callerA (.call (.ref fa) ⟨[.ref a], []⟩) (fun r s' => r = .ok (.ret (.bool true)) ∧ OldK s₁.heap s'.heap ∧ s'.os = s₁.os ∧ AllBare s'.gens) s₁ := by
  have rv := vals_ints hi
  have lenV := hi.length
  -- from an abstract heap in which nothing but the script may be tracked
  have core : ∀ H : Hp, Only H → SqL K H a (ns.map V.int) → HOk P w H s₁.heap → (∀ b, H b ≠ none → b = a) → (H a ≠ none → K.lookup a = none) →
      codeAny (model P w) callerA (.call (.ref fa) ⟨[.ref a], []⟩) (fun r s' => r = .ok (.ret (.bool true)) ∧ OldK s₁.heap s'.heap ∧ s'.os = s₁.os ∧ AllBare s'.gens) s₁ := by
    intro H hO hS hok hA hK
    have base_of : ∀ {b : Addr} {o : Obj}, s₁.heap.get? b = some o → H b = none → (hidT s₁.heap H).get? b = some o := fun e n => hidT_get e n
    have noA : ∀ {b : Addr} {o : Obj} {es : Array DictEntry} {ep : Nat}, s₁.heap.get? b = some o → o.data = .dict es ep → H b = none := fun {b o es ep} e d => by
      cases q : H b with
      | none => rfl
      | some u =>
        have e' : b = a := hA b (by rw [q]; simp)
        subst e'
        rw [ha] at e; cases e
        have d' : Data.seq vs.toArray _ = Data.dict es ep := d
        cases d'
    have nsK : ∀ {b : Addr} {m : Str → Option Value}, s₁.heap.Ns b m → (hidT s₁.heap H).Ns b m := fun {b m} ⟨o, es, ep, e, d, r⟩ => ⟨o, es, ep, base_of e (noA e d), d, r⟩
    have hKb : K.In (hidT s₁.heap H) := fun b o e => base_of (KX b o e) (by
      cases q : H b with
      | none => rfl
      | some u =>
        have e' : b = a := hA b (by rw [q]; simp)
        subst e'
        rw [hK (by rw [q]; simp)] at e; cases e)
    have hM : Mod K mg (hidT s₁.heap H) := ⟨hKb, nsK hns, ⟨mb, nsK hb, hbb⟩, let ⟨mc, h1, h2⟩ := hlim; ⟨mc, nsK h1, h2⟩⟩
    have e0 : Env0 P w K mg (hidT s₁.heap H) callerA [] s₁ H := ⟨rfl, hM, fun b o e => of_hidT e, Nat.le_of_eq (hidT_size _ _), trivial, fun b hb => absurd (show b ∈ ([] : List Addr) from hb) (by simp), hok, .of_eq hg⟩
    refine codeAny_mono ((F _ hKb (nsK hns)).run callerA [] s₁ H ⟨[.ref a], []⟩ [.ref a] [.ref a] _ _ hr e0 (hbind s₁ (.ref a)) (.cons rfl .nil) (hsp H hO hS)) fun r s' h => ?_
    cases r with
    | error e => exact (hCX H e s' h).elim
    | ok fl =>
      cases fl with
      | next => exact False.elim h
      | brk => exact False.elim h
      | cont => exact False.elim h
      | ret u =>
        obtain ⟨v, H', os, bare, un, hok', r', q⟩ := h
        have q' : v = .bl true := q
        subst q'
        obtain rfl : u = Value.bool true := r'
        refine ⟨rfl, OldK.of_keep fun b o e => ?_, os, bare⟩
        cases q : H b with
        | none => exact un.keep b o e q (by intro z; exact absurd (show b ∈ ([] : List Addr) from z) (by simp)) (by simp)
        | some u =>
          rcases hO b with z | ⟨ob, xs, z⟩
          · rw [q] at z; cases z
          · have z2 := un.frzs b ob _ z
            obtain ⟨e1, _⟩ := hok b _ z
            obtain ⟨e2, _⟩ := hok' b _ z2
            rw [e] at e1; cases e1
            exact e2
  cases hk : K.lookup a with
  | some o =>
    -- the script is one of the module's own objects
    have e := KX a o hk
    rw [ha] at e
    cases e
    refine core (fun _ => none) (fun _ => .inl rfl) (.inr ⟨_, vs.toArray, _, hk, rfl, rfl, rfl, by rw [List.size_toArray, lenV]; exact hl, by simpa using rv⟩) (fun b u z => by have z' : (none : Option HO) = some u := z; cases z') (fun b z => absurd rfl z) fun z => absurd rfl z
  | none =>
    refine core (fun b => if b = a then some (.frz { cls := .type "list", data := .seq vs.toArray } (.lst (ns.map V.int))) else none) (fun b => ?_) (.inl (.inr ⟨{ cls := .type "list", data := .seq vs.toArray }, if_pos rfl⟩)) (fun b u z => ?_) (fun b z => ?_) fun _ => hk
    · by_cases hb : b = a
      · exact .inr ⟨_, _, if_pos hb⟩
      · exact .inl (if_neg hb)
    · by_cases hb : b = a
      · have z' := (if_pos hb).symm.trans z
        cases z'
        subst hb
        exact ⟨ha, by rw [List.length_map]; exact hl, vs, _, rv, ha⟩
      · have z' := (if_neg hb).symm.trans z
        cases z'
    · by_cases hb : b = a
      · exact hb
      · exact absurd (if_neg hb) z
end L2

namespace L2
open PySem PySem.Spec PyProof.Rows

abbrev KOf {K : PySem.W.Frag} {h : Heap} (_ : K.In h) : PySem.W.Frag := K

/-- the goal that k_head leaves (case hc), from the law's promise. F gives the function object fd (K's own) once, then the promise over every base -/
theorem walk_of {l : PySem.W.OpenLaw} {n k : Nat} {q : Program} {loose : List Str} {XP : (Str → Option Value) → Heap → Prop} {YP : World → Heap → Prop} {d : DefRec} {K : Params → PySem.W.Frag} {CX : World → CXT} {sp : World → Sp} {x : Str}
    (hn : l.most = some n) (hn2 : n ≤ sizeLine) (hdf : d.params.defaults = []) (hr : Room k callerA)
    (hY : ∀ (w : World) (h : Heap), YP w h → (K w.params).In h)
    (F : ∀ (w : World) (mg : Str → Option Value) (fa : Addr) (h : Heap), (K w.params).In h → h.Ns mainGlobals mg → mg d.name = some (.ref fa) →
      ∃ fd : FuncData, (∀ (s : Shared) (u : Value), BindsTo s fd ⟨[u], []⟩ [(x, u)]) ∧
        ∀ base : Heap, (K w.params).In base → base.Ns mainGlobals mg → FnOk l.prog w (K w.params) mg base (CX w) k fa fd [x] (sp w))
    (hsp : ∀ (w : World) (H : Hp) (a : Addr) (ns : List Int), ns.length ≤ n → Only H → SqL (K w.params) H a (ns.map V.int) → sp w [.ref a] H (fun v _ => v = .bl true) fun _ _ _ => False)
    (hCX : ∀ (w : World) (H : Hp) (s : Shared) (e : Value) (s' : Shared), CX w [] H s (fun _ _ _ => False) e s' → False) :
    PySem.W.WalkO q loose XP YP l.row.toRowW d [] (fun f vs => PySem.call f vs) := by
  refine Att.attach_call hn hdf fun w s₀ s₁ mg mb fa o pm cd doc a vs ns G Y ho hd hcd hmg hobj hints hlen hg => ?_
  have KX := hY w _ Y
  obtain ⟨fd, hb, hF⟩ := F w mg fa _ KX G.T.g hmg
  exact law_call KX G.T.g G.T.b G.T.builtins G.T.nolimit hg hobj hints (Nat.le_trans hlen hn2) hr hF hb (fun H hO hS => hsp w H a ns hlen hO hS) fun H e s' => hCX w H s₁ e s'
end L2

/- THE LAST THEOREM (shape; LID, My.* are yours):
   My.Adr: a structure of the addresses that your layer names (classes, functions); My.Txt K t: a structure (Prop) of the equations over K;
   My.txt_mk : {K} {implicit addresses ..} (e1 : nsIn K mainGlobals "law" = some (some (.ref f))) (e2 : K.lookup f = some ⟨oc, od, .func (fnOf "law" "law" params body scope dV kV doc pm an cdv ct), sl⟩) (e3 : codeIn K cdv "law" = true) .. : ∃ t, My.Txt K t

set_option maxRecDepth 100000 in
set_option maxHeartbeats 0 in
theorem PySem.Challenge.cw_LID_holds : PySem.Challenge.rw_LID.Holds := by
  w_on; o_law; k_head; (case hw => w_witness2)
  k_fill
  refine L2.walk_of (l := PySem.Challenge.rw_LID) (n := 63) (k := 40) (x := "script") (CX := fun w => ..) (sp := fun _ => My.sp_law) rfl (by decide) rfl ⟨rfl, by decide, by decide⟩ (fun w h Y => PySem.W.kIn_of Y) ?F ?S ?C
  case F =>
    intro w mg fa h KX G hmg
    have T : ∃ t, My.Txt (L2.KOf KX) t := by
      dsimp only [L2.KOf]                          -- K must stand as «<heap const> w.params» for k_is
      refine' My.txt_mk ?e1 ?e2 ?e3 ..
      (case e1 => PySem.W.k_is)                    -- in the order: a name -> its address -> its object -> its parts
      (case e2 => PySem.W.k_is)
      ..
    obtain ⟨t, T⟩ := T
    have e0 := hmg.symm.trans (PySem.W.mg_of KX G T.law)
    cases e0                                       -- fa is the law's own address
    exact ⟨_, fun s u => .of_eq rfl, fun base kb nb => My.law_fn T kb nb⟩     -- if «.of_eq rfl» comes too early: refine' ⟨_, ?b, fun base kb nb => My.law_fn T kb nb⟩; exact fun s u => .of_eq rfl
  case S => exact fun w H a ns hl hO hS => ..
  case C => exact ..
(the tactic k_is has no namespace: write k_is) -/

/-! SHORT WORDS over the layer: a def of the text, its body, what a loop and a test want. -/
namespace L2
open PySem PySem.Spec PyProof.Rows

/-! ### the text by places -/
def defArgs (s : Stmt) : Arguments := match s with
  | .FunctionDef _ a _ _ _ _ _ _ _ _ => a
  | _ => { posonlyargs := [], args := [], vararg := none, kwonlyargs := [], kw_defaults := [], kwarg := none, defaults := [] }
def defBody (s : Stmt) : List Stmt := match s with
  | .FunctionDef _ _ b _ _ _ _ _ _ _ => b
  | _ => []
def defScope (s : Stmt) : Scope := match s with
  | .FunctionDef _ _ _ _ _ _ sc _ _ _ => sc
  | _ => { kind := .function, names := [], isGenerator := false, isCoroutine := false }

/-! ### no exception leaves a def -/
abbrev CX0 : CXT := fun _ _ _ _ _ _ => False
abbrev E0 : XK := fun _ _ _ => False
theorem pass0 {X : Cx} : Passes CX0 X E0 := fun _ _ _ _ _ _ _ h => h.elim

/-! ### a def (or method) of the text as it stands behind the top -/
structure Fun (K : PySem.W.Frag) (x qual : Str) (st : Stmt) (f : Addr) (fd : FuncData) : Prop where
  ex : ∃ (oc : Value) (od : Option Addr) (kV doc pm : Value) (an : Option Addr) (cdv ct : Value) (osl : Array (Option Value)),
    fd = PySem.W.fnOf x qual (defArgs st) (defBody st) (defScope st) .none kV doc pm an cdv ct ∧ K.lookup f = some ⟨oc, od, .func fd, osl⟩ ∧ PySem.W.codeIn K cdv qual = true
  kp : PySem.W.keepIn K (.ref f) = true
section
variable {P : Program} {w : World} {K : PySem.W.Frag} {mg : Str → Option Value} {base : Heap}
/-- THE RULE for a def: its body as a term of rules, and the reading of that term -/
theorem Fun.ok {x qual : Str} {st : Stmt} {f : Addr} {fd : FuncData} {N ps : List Str} {k : Nat} {sp : Sp} (F : Fun K x qual st f fd) (S : FnScope N ps (defScope st)) (len : ∀ vs H Q E, sp vs H Q E → vs.length = ps.length)
    (hbody : ∀ (cdv : Value) (A : Around) (outer : List Env) (s : Shared) (H : Hp) (vs : List V) (Q : VK) (E : XK), Room k (A.deeper (envOfC qual (defScope st) s.heap.objs.size f cdv)) → sp vs H Q E →
      ∃ t, PSs (cxOf CX0 P w K mg base N qual (defScope st) f cdv A outer s H E).nox (defBody st) t ∧ t { nx := fun _ H' => Q .non H', rt := Q } (start N vs) H) : FnOk P w K mg base CX0 (k + 1) f fd ps sp := by
  obtain ⟨oc, od, kV, doc, pm, an, cdv, ct, osl, rfl, lk, hcd⟩ := F.ex
  refine fn_of lk hcd S len fun A outer s H vs Q E hr hsp => ?_
  obtain ⟨t, h, q⟩ := hbody cdv A outer s H vs Q E hr hsp
  exact ⟨t, h.nox, q⟩
/-- how its arguments bind (no defaults): h is «fun _ _ _ _ _ _ us hl => match us, hl with | [_, _], _ => rfl», one _ a parameter -/
theorem Fun.binds {x qual : Str} {st : Stmt} {f : Addr} {fd : FuncData} {ps : List Str} (F : Fun K x qual st f fd)
    (h : ∀ (kV doc pm : Value) (an : Option Addr) (cdv ct : Value) (us : List Value), us.length = ps.length → bindArgs (PySem.W.fnOf x qual (defArgs st) (defBody st) (defScope st) .none kV doc pm an cdv ct) ⟨us, []⟩ = pure (ps.zip us)) : Binds K fd ps [] := by
  obtain ⟨oc, od, kV, doc, pm, an, cdv, ct, osl, rfl, lk, hcd⟩ := F.ex
  exact .all (h kV doc pm an cdv ct)
theorem fun_mk {x qual : Str} {st : Stmt} {f : Addr} {oc : Value} {od an : Option Addr} {osl : Array (Option Value)} {kV doc pm cdv ct : Value} (l : K.lookup f = some ⟨oc, od, .func (PySem.W.fnOf x qual (defArgs st) (defBody st) (defScope st) .none kV doc pm an cdv ct), osl⟩)
    (c : PySem.W.codeIn K cdv qual = true) (k : PySem.W.keepIn K (.ref f) = true) : Fun K x qual st f (PySem.W.fnOf x qual (defArgs st) (defBody st) (defScope st) .none kV doc pm an cdv ct) := ⟨⟨oc, od, kV, doc, pm, an, cdv, ct, osl, rfl, l, c⟩, k⟩
end
/-! ### expressions in short: the name that stands in the i-th slot -/
section
variable {X : Cx}
theorem pv (i : Nat) {x : Str} {pos : Pos} (hN : X.N[i]? = some x := by rfl) (hv : Vis X.env.scope x := by first | exact Or.inl rfl | exact Or.inr (Or.inl rfl) | exact Or.inr (Or.inr rfl)) (hd : (x == ("__debug__" : Str)) = false := by decide)
    (hcd : (x == ("__classdict__" : Str)) = false := by decide) : PE X (.Name x pos) (tVar i) := pe_var hN hv hd hcd
end

/-! ### tests -/
theorem iteF {A B : Prop} (h : B) : if false = true then A else B := by
  rw [if_neg Bool.false_ne_true]
  exact h
theorem iteT {A B : Prop} (h : A) : if true = true then A else B := by
  rw [if_pos rfl]
  exact h
theorem ite2 {c A B : Prop} [Decidable c] (h1 : c → A) (h2 : ¬ c → B) : if c then A else B := by
  by_cases h : c
  · rw [if_pos h]
    exact h1 h
  · rw [if_neg h]
    exact h2 h
/-! ### heaps -/
/-- all that was tracked is as it was -/
def Same (H H' : Hp) : Prop := ∀ b o, H b = some o → H' b = some o
theorem Same.refl (H : Hp) : Same H H := fun _ _ h => h
theorem Same.trans {H H1 H2 : Hp} (a : Same H H1) (b : Same H1 H2) : Same H H2 := fun c o h => b c o (a c o h)
theorem Same.free {H H' : Hp} (e : Same H H') {l : Addr} (h : H' l = Option.none) : H l = Option.none := by
  cases q : H l with
  | none => rfl
  | some o =>
    rw [e l o q] at h
    cases h
theorem Same.seq {K : PySem.W.Frag} {H H' : Hp} {a : Addr} {xs : List V} (e : Same H H') (h : SqL K H a xs) : SqL K H' a xs := by
  rcases h with (h | ⟨o, h⟩) | h
  · exact .inl (.inl (e _ _ h))
  · exact .inl (.inr ⟨o, e _ _ h⟩)
  · exact .inr h

end L2

set_option maxHeartbeats 4000000
/-! EvExc: refusals of own classes by hand: raise, a callee's refusal that passes, try with one except clause that names, isinstance of a refusal. Over the hand layer (namespace L2), which stands ahead of it. -/
namespace L2
open PySem PySem.Spec PyProof.Rows

theorem ObjOk.there {P : Program} {w : World} {H : Hp} {h : Heap} {a : Addr} {o : HO} (x : ObjOk P w H h a o) : ∃ ob, h.get? a = some ob := by
  cases o with
  | lst xs => obtain ⟨_, _, _, _, e⟩ := x; exact ⟨_, e⟩
  | tup xs => obtain ⟨_, _, _, ob, e, _⟩ := x; exact ⟨ob, e⟩
  | dK kvs => obtain ⟨_, _, _, _, ob, _, _, e, _⟩ := x; exact ⟨_, e⟩
  | dT kvs => obtain ⟨_, _, _, _, ob, _, _, e, _⟩ := x; exact ⟨_, e⟩
  | set S n => obtain ⟨ob, _, _, _, e, _⟩ := x; exact ⟨_, e⟩
  | ins C dx fs => obtain ⟨_, _, _, e, _⟩ := x; exact ⟨_, e⟩
  | own y => exact x
  | xd fs => obtain ⟨_, ⟨_, _, _, e, _⟩, _⟩ := x; exact ⟨_, e⟩
  | rng lo hi => obtain ⟨_, _, _, e⟩ := x; exact ⟨_, e⟩
  | frz ob u => obtain ⟨e, _⟩ := x; exact ⟨_, e⟩
  | tbl ps => exact ⟨_, (show h.get? a = some _ from x)⟩
  | met f y => exact ⟨_, (show h.get? a = some _ from x)⟩
  | ext φ => obtain ⟨_, e, _⟩ := x; exact e

/-- a refusal of the class C at a that has left a frame: its trace stands at T -/
structure FlyT (h0 : Heap) (H : Hp) (a T : Addr) (C : Value) (h : Heap) : Prop where
  na : h0.get? a = none
  fa : H a = none
  nT : h0.get? T = none
  fT : H T = none
  ob : ∃ oe vs a0 oT ts, h.get? a = some oe ∧ oe.cls = C ∧ oe.data = .fields vs ∧ vs[0]? = some a0 ∧ vs[1]? = some (.ref T) ∧ T ≠ a ∧ h.get? T = some oT ∧ oT.data = .fields ts ∧ ts[3]? = some .none
/-- one that was made just now -/
structure Fly0 (h0 : Heap) (H : Hp) (a : Addr) (C : Value) (h : Heap) : Prop where
  na : h0.get? a = none
  fa : H a = none
  ob : ∃ oe vs a0, h.get? a = some oe ∧ oe.cls = C ∧ oe.data = .fields vs ∧ vs[0]? = some a0 ∧ vs[1]? = some .none

/-- how a refusal lies behind a call -/
def CX1 (P : Program) (w : World) : CXT := fun outer H s E e s' => ∃ (a T : Addr) (C : Value) (H' : Hp), e = .ref a ∧ s'.os = s.os ∧ AllBare s'.gens ∧ Un (frs outer) [] H H' s.heap s'.heap ∧ HOk P w H' s'.heap ∧
  FlyT s.heap H' a T C s'.heap ∧ E C none H'
/-- how it lies within a body that lets it pass -/
def XE (X : Cx) (E : XK) : Value → Shared → Prop := fun e s' => ∃ (a : Addr) (C : Value) (H' : Hp) (σ : St), e = .ref a ∧ Inv X [] σ H' s' ∧ (Fly0 X.s₀.heap H' a C s'.heap ∨ ∃ T, FlyT X.s₀.heap H' a T C s'.heap) ∧ E C none H'
/-- how it lies within a try's body (it comes out of a callee) -/
def XT (X : Cx) (E : XK) : Value → Shared → Prop := fun e s' => ∃ (a T : Addr) (C : Value) (H' : Hp) (σ : St), e = .ref a ∧ Inv X [] σ H' s' ∧ FlyT X.s₀.heap H' a T C s'.heap ∧ (∀ p ∈ X.pn, p.1 ≠ a ∧ p.1 ≠ T) ∧ E C none H'

section
variable {X : Cx} {pins : List (Addr × Obj)} {σ : St} {H H' : Hp} {s s' : Shared}
theorem Inv.nopins (I : Inv X pins σ H s) : Inv X [] σ H s := I.pins_of fun p hp => nomatch hp
/-- what was not there at the call was not there at the entry -/
theorem Inv.new0 (I : Inv X pins σ H s) (hex : X.ex = []) {b : Addr} (n : s.heap.get? b = none) : X.s₀.heap.get? b = none := by
  cases q : X.s₀.heap.get? b with
  | none => rfl
  | some o =>
    obtain ⟨o', e⟩ := I.base.there b o q (by rw [hex]; simp)
    rw [n] at e; cases e
theorem Inv.newH (I : Inv X pins σ H s) {b : Addr} (n : s.heap.get? b = none) : H b = none := by
  cases q : H b with
  | none => rfl
  | some o =>
    obtain ⟨ob, e⟩ := (I.hok b o q).there
    rw [n] at e; cases e
theorem passT {E : XK} (hex : X.ex = []) : Passes (CX1 X.prog X.w) (X.wish (XT X E)) E := fun pins σ H s e s' I q => by
  obtain ⟨a, T, C, H', rfl, os, bare, un, hok, fl, qE⟩ := q
  have I0 : Inv X pins σ H s := I.unwish
  refine ⟨a, T, C, H', σ, rfl, (I0.call' os un hok bare (fun b z => absurd z (by simp))).nopins, ⟨I0.new0 hex fl.na, fl.fa, I0.new0 hex fl.nT, fl.fT, fl.ob⟩, fun p hp => ?_, qE⟩
  have e := (I0.pin p (List.mem_append_left _ hp)).1
  exact ⟨fun z => (by rw [z, fl.na] at e; cases e), fun z => (by rw [z, fl.nT] at e; cases e)⟩

/-- the frames' slots and the records at ts may change -/
structure Shift (X : Cx) (ts : List Addr) (h h' : Heap) : Prop where
  stays : (PySem.W.hideAll h (ts ++ frs X.stack)).StaysIn h'
  up : h.UpToSlots h'

theorem Shift.frame {ts : List Addr} {h' : Heap} (S : Shift X ts s.heap h') (I : Inv X pins σ H s) {b : Addr} (hb : b ∈ frs X.stack) {o : Obj} (e : s.heap.get? b = some o) : ∃ sl, h'.get? b = some { o with slots := sl } := by
  obtain ⟨_, o', e', nf⟩ := I.stack.mem hb
  rw [e] at e'; cases e'
  exact S.up b o e nf
theorem Shift.get {ts : List Addr} {h' : Heap} (S : Shift X ts s.heap h') {b : Addr} {o : Obj} (e : s.heap.get? b = some o) (h1 : b ∉ ts) (h2 : b ∉ frs X.stack) : h'.get? b = some o :=
  S.stays b o (PySem.W.hideAll_get _ e fun z => (List.mem_append.mp z).elim h1 h2)
theorem Shift.hok {ts : List Addr} {h' : Heap} (S : Shift X ts s.heap h') (I : Inv X pins σ H s) (hts : ∀ b ∈ ts, H b = none) : HOk X.prog X.w H h' := fun a o e => by
  refine (I.hok a o e).stay (fun b u hb q => S.get q (fun z => ?_) fun z => ?_) (fun _ q => q) fun _ _ q => q
  · have n := hts b z
    rcases hb with rfl | hb
    · rw [e] at n; cases n
    · rw [hb] at n; cases n
  · have n := I.stkFree b z
    rcases hb with rfl | hb
    · rw [e] at n; cases n
    · rw [hb] at n; cases n
/-- what stood at the entry is as a callee may leave it -/
theorem Shift.un {ts : List Addr} {h' : Heap} (S : Shift X ts s.heap h') (I : Inv X pins σ H s) (hts : ∀ b ∈ ts, X.s₀.heap.get? b = none) : Un X.fs X.ex X.H₀ H X.s₀.heap h' := by
  have nts : ∀ b o, X.s₀.heap.get? b = some o → b ∉ ts := fun b o e z => by rw [hts b z] at e; cases e
  have nL : ∀ b o, X.s₀.heap.get? b = some o → b ≠ X.env.locals := fun b o e => Nat.ne_of_lt (Nat.lt_of_lt_of_le (Heap.lt_size e) I.ok.above)
  have nst : ∀ b o, X.s₀.heap.get? b = some o → b ∉ X.fs → b ∉ frs X.stack := fun b o e hb z => (List.mem_cons.mp (I.stkSub b z)).elim (nL b o e) hb
  refine ⟨fun b o e n hb hx => S.get (I.base.keep b o e n hb hx) (nts b o e) (nst b o e hb), fun b o e n hb hx => ?_, fun b o e n hx => I.base.free b o e n hx, fun b o e hx => ?_, I.base.tups, I.base.frzs, I.base.tbls⟩
  · obtain ⟨sl, e1⟩ := I.base.slot b o e n hb hx
    obtain ⟨_, o', e', nf⟩ := I.funs.mem hb
    rw [e1] at e'; cases e'
    obtain ⟨sl2, e2⟩ := S.up b _ e1 nf
    exact ⟨sl2, e2⟩
  · obtain ⟨o', e1⟩ := I.base.there b o e hx
    by_cases z : b ∈ frs X.stack
    · obtain ⟨sl, e2⟩ := S.frame I z e1
      exact ⟨_, e2⟩
    · exact ⟨o', S.get e1 (nts b o e) z⟩
/-- the invariant goes over -/
theorem Shift.inv {ts : List Addr} {h' : Heap} {tk : Nat} (S : Shift X ts s.heap h') (I : Inv X pins σ H s) (hts : ∀ b ∈ ts, X.s₀.heap.get? b = none ∧ H b = none ∧ ∀ p ∈ X.pn ++ pins, p.1 ≠ b) : Inv X pins σ H { s with heap := h', toks := tk } := by
  have cellK : ∀ c v, s.heap.IsCell c v → h'.IsCell c v := fun c v ⟨o, ho, hd⟩ => by
    obtain ⟨sl, e⟩ := S.up c o ho (fun vs q => by rw [hd] at q; cases q)
    exact ⟨_, e, hd⟩
  refine ⟨I.ok, I.os, I.bare, S.un I fun b z => (hts b z).1, ?_, fun x c e => ?_, I.free, I.freeC, fun p hp => ?_, S.hok I fun b z => (hts b z).2.1, I.len⟩
  · obtain ⟨m, hn, hl⟩ := I.loc
    refine ⟨m, S.up.ns hn, fun i x v e1 e2 e3 => ?_⟩
    obtain ⟨u, r, l⟩ := hl i x v e1 e2 e3
    refine ⟨u, r, ?_⟩
    rcases l with l | ⟨k, c, e, z⟩
    · exact .inl l
    · exact .inr ⟨k, c, e, cellK c _ z⟩
  · obtain ⟨v, z⟩ := I.cell x c e
    exact ⟨v, cellK c v z⟩
  · obtain ⟨e, n, ne, nf, d⟩ := I.pin p hp
    exact ⟨S.get e (fun z => (hts p.1 z).2.2 p hp rfl) fun z => (List.mem_cons.mp (I.stkSub p.1 z)).elim ne nf, n, ne, nf, d⟩
/-- the trace that was laid -/
theorem Shift.fly {ts : List Addr} {h' : Heap} {a : Addr} {C a0 : Value} (I : Inv X pins σ H s) (hex : X.ex = []) (hts : ∀ b ∈ ts, X.s₀.heap.get? b = none ∧ H b = none) (ha : a ∈ ts)
    (hf : h'.FunFrames (PySem.W.hideAll s.heap (ts ++ frs X.stack)) X.stack) (tr : h'.TracedW (PySem.W.hideAll s.heap (ts ++ frs X.stack)) a C a0) :
    ∃ T, FlyT X.s₀.heap H a T C h' ∧ ∀ p : Addr × Obj, s.heap.get? p.1 = some p.2 → p.1 ∉ ts → p.1 ∉ frs X.stack → p.1 ≠ T := by
  obtain ⟨oe, vs, T, oT, tv, he, ⟨hc, h0⟩, hd, h1, hnT, hTe, hT, hdT, h3⟩ := tr
  have key : X.s₀.heap.get? T = none ∧ H T = none := by
    by_cases z : T ∈ ts
    · exact hts T z
    · have nf : T ∉ frs X.stack := fun q => by
        obtain ⟨_, o, ho, nf⟩ := hf.mem q
        rw [hT] at ho; cases ho
        exact nf _ hdT
      have nn : s.heap.get? T = none := by
        cases q : s.heap.get? T with
        | none => rfl
        | some o =>
          rw [PySem.W.hideAll_get _ q fun y => (List.mem_append.mp y).elim z nf] at hnT
          cases hnT
      exact ⟨I.new0 hex nn, I.newH nn⟩
  refine ⟨T, ⟨(hts a ha).1, (hts a ha).2, key.1, key.2, oe, vs, a0, oT, tv, he, hc, hd, h0, h1, hTe, hT, hdT, h3⟩, fun p e n1 n2 z => ?_⟩
  rw [z] at e n1 n2
  rw [PySem.W.hideAll_get _ e fun y => (List.mem_append.mp y).elim n1 n2] at hnT
  cases hnT
theorem fun_hide (I : Inv X pins σ H s) (ts : List Addr) : s.heap.FunFrames (PySem.W.hideAll s.heap (ts ++ frs X.stack)) X.stack :=
  PySem.W.funFrames_hide I.stack fun env he b hb => List.mem_append_right _ (List.mem_filterMap.mpr ⟨env, he, hb⟩)
theorem hide_stays (h : Heap) (l : List Addr) : (PySem.W.hideAll h l).StaysIn h := fun _ _ e => PySem.W.of_hideAll l e
end

section
variable {P : Program} {w : World} {K : PySem.W.Frag} {mg : Str → Option Value} {base : Heap} {N : List Str} {qual : Str} {scope : Scope} {f : Addr} {cd : Value} {A : Around} {outer : List Env} {s : Shared} {H : Hp} {E : XK}
/-- a refusal leaves the frame -/
theorem xe_of {e : Value} {s' : Shared} (h : XE (cxOf (CX1 P w) P w K mg base N qual scope f cd A outer s H E) E e s') : (cxOf (CX1 P w) P w K mg base N qual scope f cd A outer s H E).xe e s' := by
  obtain ⟨a, C, H', σ, rfl, I, fl, q⟩ := h
  have fin : ∀ (ts : List Addr) (a0 : Value) (h' : Heap), (∀ b ∈ ts, s.heap.get? b = none ∧ H' b = none) → a ∈ ts →
      Heap.LeftW (PySem.W.hideAll s'.heap (ts ++ frs (envOfC qual scope s.heap.objs.size f cd :: outer))) (envOfC qual scope s.heap.objs.size f cd :: outer) a C a0 s'.heap h' →
      CX1 P w outer H s E (.ref a) { s' with heap := h' } := fun ts a0 h' hts ha ⟨k1, k2, k3, k4⟩ => by
    have S : Shift (cxOf (CX1 P w) P w K mg base N qual scope f cd A outer s H E) ts s'.heap h' := ⟨k1, k4⟩
    obtain ⟨T, fT, _⟩ := Shift.fly I rfl hts ha k2 k3
    exact ⟨a, T, C, H', rfl, I.os, I.bare, S.un I fun b z => (hts b z).1, S.hok I fun b z => (hts b z).2, fT, q⟩
  have hfr : (A.deeper (envOfC qual scope s.heap.objs.size f cd)).frames = some (envOfC qual scope s.heap.objs.size f cd :: outer) := I.ok.frames
  rcases fl with fl | ⟨T, fl⟩
  · obtain ⟨oe, vs, a0, he, rfl, hd, h0, h1⟩ := fl.ob
    refine wpAny_leaving_firstW (base := PySem.W.hideAll s'.heap ([a] ++ frs (envOfC qual scope s.heap.objs.size f cd :: outer))) hfr (fun_hide I [a]) rfl he (hide_stays _ _) (PySem.W.hideAll_none _ (List.mem_append_left _ (by simp))) hd h1 h0 fun h' L => ?_
    exact fin [a] a0 h' (fun b hb => by cases (List.mem_singleton.mp hb); exact ⟨fl.na, fl.fa⟩) (by simp) L
  · obtain ⟨oe, vs, a0, oT, tv, he, hc, hd, h0, h1, hTe, hT, hdT, h3⟩ := fl.ob
    refine wpAny_leaving_nextW (base := PySem.W.hideAll s'.heap ([a, T] ++ frs (envOfC qual scope s.heap.objs.size f cd :: outer))) hfr (fun_hide I [a, T]) rfl
      ⟨oe, vs, T, oT, tv, he, ⟨hc, h0⟩, hd, h1, PySem.W.hideAll_none _ (List.mem_append_left _ (by simp)), hTe, hT, hdT, h3⟩ (hide_stays _ _) (PySem.W.hideAll_none _ (List.mem_append_left _ (by simp))) fun h' L => ?_
    refine fin [a, T] a0 h' (fun b hb => ?_) (by simp) L
    rcases List.mem_cons.mp hb with z | z
    · subst z; exact ⟨fl.na, fl.fa⟩
    · cases (List.mem_singleton.mp z); exact ⟨fl.nT, fl.fT⟩
end
/-- THE RULE for a def that may refuse: its body with the wish XE -/
theorem Fun.okX {P : Program} {w : World} {K : PySem.W.Frag} {mg : Str → Option Value} {base : Heap} {x qual : Str} {st : Stmt} {f : Addr} {fd : FuncData} {N ps : List Str} {k : Nat} {sp : Sp} (F : Fun K x qual st f fd) (S : FnScope N ps (defScope st))
    (len : ∀ vs H Q E, sp vs H Q E → vs.length = ps.length)
    (hbody : ∀ (cdv : Value) (A : Around) (outer : List Env) (s : Shared) (H : Hp) (vs : List V) (Q : VK) (E : XK), Room k (A.deeper (envOfC qual (defScope st) s.heap.objs.size f cdv)) → sp vs H Q E →
      ∃ t, PSs ((cxOf (CX1 P w) P w K mg base N qual (defScope st) f cdv A outer s H E).wish (XE (cxOf (CX1 P w) P w K mg base N qual (defScope st) f cdv A outer s H E) E)) (defBody st) t ∧ t { nx := fun _ H' => Q .non H', rt := Q } (start N vs) H) :
    FnOk P w K mg base (CX1 P w) (k + 1) f fd ps sp := by
  obtain ⟨oc, od, kV, doc, pm, an, cdv, ct, osl, rfl, lk, hcd⟩ := F.ex
  refine fn_of lk hcd S len fun A outer s H vs Q E hr hsp => ?_
  obtain ⟨t, h, q⟩ := hbody cdv A outer s H vs Q E hr hsp
  refine ⟨t, fun pins s1 σ H1 D I hw => ?_, q⟩
  exact wpAny_mono (h pins s1 σ H1 D (I.wish _) hw) (fun _ _ z => z.unwish) fun e s2 z => xe_of z
/-! ### raise -/
theorem exc_cls_of {K : PySem.W.Frag} {h : Heap} {C : Addr} {bmB : List Value} {newId : String} (X : K.In h) (q : PySem.W.excIn K C bmB newId = true) :
    ∃ bm N nm q bs hdct sn sub ab col dd k0 k1 k2 k3 k5 mN, h.get? C = some (excClassObj nm q C N bs bm hdct sn sub ab col dd k0 k1 k2 k3 k5 newId) ∧ h.Ns N mN ∧ mN "__init__" = none ∧ OwnTail h bmB bm := by
  unfold PySem.W.excIn at q
  split at q
  · rename_i dd cd sl ho
    split at q
    · rename_i C' bm k0 k1 k2 k3 n k5 hm hs
      simp only [Bool.and_eq_true, beq_iff_eq, Bool.not_eq_true'] at q
      obtain ⟨⟨⟨⟨⟨rfl, rfl⟩, hdel⟩, ht⟩, hok⟩, hni⟩ := q
      obtain ⟨nm, bs, mro, ns, qn, hd, sn, sub, ab, col, del⟩ := cd
      dsimp only at hm hdel hok hni
      subst hm hdel
      have hsl : sl = #[k0, k1, k2, k3, some (.builtin n), k5] := by
        obtain ⟨l⟩ := sl
        simp only at hs
        rw [hs]
      subst hsl
      exact ⟨bm, ns, nm, qn, bs, hd, sn, sub, ab, col, dd, k0, k1, k2, k3, k5, _, X _ _ ho, .of_isNs (PySem.W.isNs_of_in X hok), PySem.W.nsMap_none_of_in X hok hni, PySem.W.tail_of_in X ht⟩
    · cases q
  · cases q
abbrev bmVE : List Value := [.type "ValueError", .type "Exception", .type "BaseException", .type "object"]
abbrev newVE : String := "ValueError.__new__"
def tRaise (C : Addr) (E : XK) (t : TA) : TS := fun _ σ H => t σ H fun vs H1 => vs.length ≤ sizeLine ∧ E (.ref C) none H1
theorem ps_raise {X : Cx} {E : XK} {x : Str} {C : Addr} {np cpos pos : Pos} {e : Expr} {es : List Expr} {t : TA} (hx : PySem.W.excIn X.K C bmVE newVE = true) (hg : Gl X x) (hm : X.mg x = some (.ref C)) (hc : X.calm = true) (hex : X.ex = [])
    (ha : PA (X.wish (XE X E)) (e :: es) t) (hdb : (x == ("__debug__" : Str)) = false := by decide) (he : starEach (e :: es) X.env = (false, eval e X.env) :: starEach es X.env := by rfl) (hpl : (backTo cpos (starEach es X.env)).any (·.1) = false := by rfl) :
    PS (X.wish (XE X E)) (.Raise (some (.Call (.Name x np) (e :: es) [] cpos)) none pos) (tRaise C E t) := by
  intro pins s σ H D I h
  have FB := PySem.F.excBase_ValueError
  obtain ⟨tl, N, nm, q, bs, hdct, sn, sub, ab, col, dd, k0, k1, k2, k3, k5, mN, hC, hN, hni, T⟩ := exc_cls_of I.mod.kin hx
  have he' : starEach (e :: es) (X.wish (XE X E)).env = (false, eval e (X.wish (XE X E)).env) :: starEach es (X.wish (XE X E)).env := he
  refine wpAny_Raise_call_subT (C := C) (nm := nm) (q := q) (N := N) (bs := bs) (bm := tl) (hdct := hdct) (sn := sn) (sub := sub) (ab := ab) (col := col) (dd := dd) (k0 := k0) (k1 := k1) (k2 := k2) (k3 := k3) (k5 := k5)
    FB (mN := mN) (T.hasType FB.hasBase) (I.ok.hd hc) (by rw [he']; show (false || (backTo cpos (starEach es X.env)).any (·.1)) = false; rw [hpl]; rfl) hni (ld_glob I hg hm ⟨rfl, ?_⟩ hdb)
  have hA := ha cpos pins s σ H _ I h
  rw [he'] at hA ⊢
  refine Calls.evalArgs_plain (wpAny_mono hA (fun us s2 h2 => ?_) fun _ _ y => y)
  obtain ⟨vs, H1, I1, r, hz, qE⟩ := h2
  refine ⟨rfl, by show us.length ≤ sizeLine; rw [← r.length]; exact hz, I1.bk _ _ hC, hN.keeps I1.bk, T.keeps I1.bk, fun h' a hm' => ?_⟩
  obtain ⟨t0, hta, _, _⟩ := hm'.there
  have I0 : Inv X pins σ H1 s2 := I1.unwish
  exact ⟨a, .ref C, H1, σ, rfl, (I0.kept (t' := s2.toks) hm'.keeps).nopins, .inl ⟨I0.new0 hex hm'.new, I0.newH hm'.new, _, _, .ref t0, hta, rfl, rfl, rfl, rfl⟩, qE⟩
end L2
/-! EvTry: isinstance of a refusal, except clauses, defs called within an except suite. Behind EvExc. -/
namespace PySem.W
open PySem PySem.Calls PyProof.Rows Builtin Builtin.ObjectAttr Builtin.Getset_descriptor
/-- what is asked of an own class of refusals as the text has made it -/
structure ExcK (K : Frag) (C : Addr) : Prop where
  ex : excIn K C [.type "ValueError", .type "Exception", .type "BaseException", .type "object"] "ValueError.__new__" = true
  ga : findIn K (.ref C) "__getattribute__" = some (some (.builtin "BaseException.__getattribute__"))
  no : findIn K (.ref C) "__getattr__" = some none
  cl : findIn K (.ref C) "__class__" = some (some (.builtin "object.__class__"))
  ob : mroIn K C (.type "object") = some true
  be : mroIn K C (.type "BaseException") = some true
structure ClsK (K : Frag) : Prop where
  gt : specialIn K (.builtin "object.__class__") "__get__" = some (some (.builtin "getset_descriptor.__get__"))
  tk : takesIn K (.builtin "object.__class__") = some true
section
variable {prog : Program} {w : World} {A : Around} {E : Value → Shared → Prop} {s : Shared} {K : Frag} {x C D : Addr} {ox : Obj}
theorem exc_class_get {tp : Value} {R : Result → Shared → Prop} (X : K.In s.heap) (hx : s.heap.get? x = some ox) (hc : ox.cls = .ref C) (hm : mroIn K C (.type "object") = some true)
    (h : R (.ok (.ret (.ref C))) s) : codeAny (model prog w) A (.call (.builtin "getset_descriptor.__get__") ⟨[.builtin "object.__class__", .ref x, tp], []⟩) R s := by
  obtain ⟨hh, g, dr, t, os⟩ := s
  have Q0 : Looks (model prog w) hh (typeOf (.ref x)) (.ref C) := hc ▸ (Looks.ld hx).andThen .now
  have Q1 := looks_mroIn (M := model prog w) X hm
  refine codeAny_call_builtin KF.slot_gs.plain KF.entry_gs (KF.slot_gs.check _ _ _ _ _ _ _ _ KF.type_class (KF.args_gs _ _ _) ?_)
  unfold Builtin.«getset_descriptor.__get__» descrGet
  rw [dga_obj]
  refine wpAny_bind (wpAny_pure ?_)
  unfold descrGetter descrCheckInstance descrNameAndClass isInstance
  simp only [KF.owner_class]
  repeat lk
  refine ⟨Code.quiet_builtin _ (by decide +kernel), codeAny_builtin KF.entry_class ?_⟩
  unfold Builtin.«object.__class__» shownTypeOf
  repeat lk
  exact h
theorem wp_if_neg {α : Type} {M : Model} {A : Around} {c : Prop} [Decidable c] {a b : Sem α} {Q : α → Shared → Prop} {E : Value → Shared → Prop} {s : Shared} (h : ¬ c) (k : wpAny M A b Q E s) : wpAny M A (if c then a else b) Q E s := by
  rw [if_neg h]
  exact k
theorem ga_slot (x n : Value) : slotArgs "__getattribute__" 1 ⟨[x, n], []⟩ = pure (x, [n]) := by kernel_rfl
theorem ga_name (n : Str) (t : Tok) : attrName (.str n t) = pure n := by kernel_rfl
theorem exc_ga_check {M : Model} {nameV : Value} {Q : Unit → Shared → Prop} (hi : Looks M s.heap (isInstance (.ref x) (.type "BaseException")) true) (h : Q () s) : wpAny M A (checkBuiltinCall "BaseException.__getattribute__" ⟨[.ref x, nameV], []⟩) Q E s := by
  have hk : builtinKind "BaseException.__getattribute__" = some .slot := by decide +kernel
  have hsplit : splitId "BaseException.__getattribute__" = some ("BaseException", "__getattribute__") := by decide +kernel
  have ha := PySem.F.args_bexc_ga (.ref x) nameV
  obtain ⟨hh, g, d, t, os⟩ := s
  simp only [checkBuiltinCall, hk, hsplit]
  refine wpAny_bind (hi.at ?_)
  repeat (any_goals (first | assumption | wp_step))
theorem exc_ga_call {nameV : Value} {R : Result → Shared → Prop} (hi : Looks (model prog w) s.heap (isInstance (.ref x) (.type "BaseException")) true)
    (h : wpAny (model prog w) A.in1 (Builtin.«object.__getattribute__» ⟨[.ref x, nameV], []⟩) (fun fin s' => match fin with | .done (.ret v) => R (.ok (.ret v)) s' | _ => False) (fun e s' => R (.error e) s') s) :
    codeAny (model prog w) A (.call (.builtin "BaseException.__getattribute__") ⟨[.ref x, nameV], []⟩) R s :=
  codeAny_call_builtin PySem.F.attr_ValueError.ga.plain PySem.F.entry_bexc_ga (exc_ga_check hi (wpAny_mono h (fun fin s' z => by rcases fin with (_ | _ | _ | _) | _ <;> first | exact z | exact z.elim) fun _ _ z => z))
set_option maxHeartbeats 400000 in
theorem exc_ca {Q : Option Value → Shared → Prop} (T : ExcK K C) (G : ClsK K) (X : K.In s.heap) (hx : s.heap.get? x = some ox) (hc : ox.cls = .ref C) (h : Q (some (.ref C)) { s with toks := s.toks + 1 }) :
    wpAny (model prog w) A (getAttr? (.ref x) "__class__") Q E s := by
  obtain ⟨hh, g, d, t, os⟩ := s
  have Q0 : Looks (model prog w) hh (typeOf (.ref x)) (.ref C) := hc ▸ (Looks.ld hx).andThen .now
  have Q1 := looks_findIn (M := model prog w) X T.ga
  have Q2 := looks_findIn (M := model prog w) X T.no
  have Q3 := looks_findIn (M := model prog w) X T.cl
  have Q4 := looks_takesIn (M := model prog w) X G.tk
  have Q5 : Looks (model prog w) hh (getOf (some (.builtin "object.__class__"))) (some (.builtin "getset_descriptor.__get__")) := looks_specialIn (M := model prog w) X G.gt
  have Q6 : Looks (model prog w) hh (find (.ref x) (.ref C) "__class__") (.bind (.builtin "getset_descriptor.__get__") (.builtin "object.__class__")) :=
    Q3.andThen (Q5.andThen ((show Looks (model prog w) hh (dataDescriptor? (some (.builtin "object.__class__")) (some (.builtin "getset_descriptor.__get__"))) (some (.builtin "getset_descriptor.__get__", .builtin "object.__class__")) from Q4.andThen .now).andThen (Looks.tag .now)))
  have Q7 : Looks (model prog w) hh (isInstance (.ref x) (.type "BaseException")) true := Q0.andThen (looks_mroIn X T.be)
  have hx2 : (Value.builtin "BaseException.__getattribute__" == Value.builtin "object.__getattribute__") = false := by decide +kernel
  have hx1 : ¬ ((onTheHeap (Value.ref C) && Value.builtin "BaseException.__getattribute__" == Value.builtin "object.__getattribute__") = true) := by rw [hx2, Bool.and_false]; exact Bool.false_ne_true
  unfold getAttr? getAttrBy? getAttrBy
  refine wpAny_bind (wpAny_mkText (wpAny_bind (wpAny_attempt (wpAny_holding (wpAny_bind (Q0.at (wpAny_bind (Q1.at ?_))))))))
  refine wp_if_neg hx1 ?_
  unfold getAttrByItsOwn
  refine wpAny_bind ?_
  show wpAny _ _ (typeLookup (.ref C) "__getattr__") _ _ _
  refine Q2.at ?_
  refine wpAny_bind (wpAny_attempt (wpAny_holding ?_))
  show wpAny _ _ (boundAndCalled (.builtin "BaseException.__getattribute__") (.ref x) _) _ _ _
  unfold boundAndCalled
  refine wpAny_bind (wpAny_of_eq (PySem.F.attr_ValueError.ga.bind _) ?_)
  refine wpAny_call (exc_ga_call Q7 ?_)
  unfold Builtin.«object.__getattribute__»
  refine wpAny_bind (wpAny_of_eq (ga_slot _ _) ?_)
  refine wpAny_bind (wpAny_of_eq (ga_name _ _) ?_)
  refine wpAny_bind (Q0.at (wpAny_bind (Q6.at ?_)))
  show wpAny _ _ (bindTo (.builtin "getset_descriptor.__get__") (.builtin "object.__class__") (.ref x) (.ref C)) _ _ _
  unfold bindTo
  refine wpAny_bind (wpAny_holding (wpAny_call (exc_class_get X hx hc T.ob ?_)))
  refine wpAny_pure ?_
  exact handed_on rfl (wpAny_pure h)
theorem kitx_exc (T : ExcK K C) (G : ClsK K) : KitX K (.ref x) (.ref C) (fun h => ∃ o, h.get? x = some o ∧ o.cls = .ref C) where
  ty := fun _ _ _ ⟨_, hx, hc⟩ => hc ▸ (Looks.ld hx).andThen .now
  it := fun _ _ X _ => by
    obtain ⟨tl, N, nm, q, bs, hdct, sn, sub, ab, col, dd, k0, k1, k2, k3, k5, mN, hC, _⟩ := L2.exc_cls_of X T.ex
    intro A' Q' E' s' k q
    unfold isType loadHead
    exact wpAny_bind (wpAny_loadPart (k _ _ hC) (wpAny_pure q))
  ne := fun h tp dd its n sl X htp => by
    obtain ⟨tl, N, nm, q, bs, hdct, sn, sub, ab, col, dd, k0, k1, k2, k3, k5, mN, hC, _⟩ := L2.exc_cls_of X T.ex
    refine Bool.eq_false_iff.mpr fun q => ?_
    have e : C = tp := Value.ref.inj (beq_iff_eq.mp q)
    subst e
    exact absurd (Value.type.inj (congrArg Obj.cls (Option.some.inj (hC.symm.trans htp)))) (by decide)
  ca := fun X ⟨_, hx, hc⟩ k => exc_ca T G X hx hc k
theorem exc_matches {M : Model} {Q : Bool → Shared → Prop} (X : K.In s.heap) (hx : s.heap.get? x = some ox) (hc : ox.cls = .ref C) (T : ExcK K D) (m : mroIn K C (.ref D) = some true) (h : Q true s) :
    wpAny M A (excMatches (.ref x) (.ref D)) Q E s := by
  obtain ⟨hh, g, d, tk, os⟩ := s
  obtain ⟨tl, N, nm, q', bs, hdct, sn, sub, ab, col, dd, k0, k1, k2, k3, k5, mN, hD, _⟩ := L2.exc_cls_of X T.ex
  have Q1 := looks_mroIn (M := M) X m
  have Q2 := looks_mroIn (M := M) X T.be
  have f := tc_notTuple
  unfold excMatches
  repeat (first | (with_reducible refine wpAny_loadPart_at hx ?_; rw [hc]) | with_reducible refine wpAny_loadPart_at hD ?_ | with_reducible refine Q1.at ?_ | with_reducible refine Q2.at ?_ | wp_step)
  exact h
end
end PySem.W

namespace L2
open PySem PySem.Spec PyProof.Rows
/-! ### isinstance by values -/
/-- isinstance(x, c), c one class -/
theorem call_isinst {X : Cx} : CallR X (.builtin "isinstance") (fun xs H Q => ∃ x c t b, xs = [x, c] ∧ TyOf X.K H x t ∧ (∀ u, RelV c u → PySem.W.kitOne X.K t u = some b) ∧ Q (.bl b) H) := by
  intro pins s σ H xs us Q I r h
  obtain ⟨x, c, t, b, rfl, ty, k, q⟩ := h
  obtain ⟨u, w', rfl, r1, r2⟩ := vals2 r
  exact isinst_ok I r1 ty (k _ r2) fun tk => ⟨.bl b, H, I.tok tk, rfl, q⟩
/-- a refusal that is known by its class -/
def XO (a C : Addr) : HO := .ext fun h => ∃ o, h.get? a = some o ∧ o.cls = .ref C
theorem XO.at {P : Program} {w : World} {H : Hp} {h : Heap} {a C : Addr} (ok : HOk P w H h) (e : H a = some (XO a C)) : ∃ o, h.get? a = some o ∧ o.cls = .ref C := (ok a _ e).1
theorem call_isinstX {X : Cx} (G : PySem.W.ClsK X.K) : CallR X (.builtin "isinstance") (fun xs H Q => ∃ a C c b, xs = [.ref a, c] ∧ H a = some (XO a C) ∧ PySem.W.ExcK X.K C ∧ (∀ u, RelV c u → PySem.W.kitOne X.K (.ref C) u = some b) ∧ Q (.bl b) H) := by
  intro pins s σ H xs us Q I r h
  obtain ⟨a, C, c, b, rfl, e, T, k, q⟩ := h
  obtain ⟨u, w', rfl, r1, r2⟩ := vals2 r
  cases (show u = Value.ref a from r1)
  exact PySem.W.kia_one (PySem.W.kitx_exc T G) I.kIn (XO.at I.hok e) (k _ r2) (fun z => nomatch z) fun tk => ⟨.bl b, H, I.tok tk, rfl, q⟩
/-- .. c a tuple of classes -/
theorem call_isinstXT {X : Cx} (G : PySem.W.ClsK X.K) : CallR X (.builtin "isinstance") (fun xs H Q => ∃ a C p ys b, xs = [.ref a, .ref p] ∧ H a = some (XO a C) ∧ PySem.W.ExcK X.K C ∧ H p = some (.tup ys) ∧ (∀ us, Vals ys us → PySem.W.kitAny X.K (.ref C) us = some b) ∧ Q (.bl b) H) := by
  intro pins s σ H xs us Q I r h
  obtain ⟨a, C, p, ys, b, rfl, e, T, hp, k, q⟩ := h
  obtain ⟨u, w', rfl, r1, r2⟩ := vals2 r
  cases (show u = Value.ref a from r1)
  cases (show w' = Value.ref p from r2)
  obtain ⟨_, its, rv, o, ho, hc, n, hd⟩ := (show ObjOk X.prog X.w H s.heap p (.tup ys) from I.hok p _ hp)
  obtain ⟨oc, od, oda, osl⟩ := o
  dsimp only at hc hd
  subst hc hd
  exact PySem.W.kia_tup (PySem.W.kitx_exc T G) I.kIn (XO.at I.hok e) ho (k _ rv) (fun z => nomatch z) fun tk => ⟨.bl b, H, I.tok tk, rfl, q⟩

/-! ### try, one clause with a name -/
abbrev Cx.inH (X : Cx) (a : Addr) : Cx := { X with A := X.A.mark (some (.ref a)), calm := false, xe := fun _ _ => False }
abbrev Cx.pinned (X : Cx) (pn : List (Addr × Obj)) : Cx := { X with pn := pn }
section
variable {X : Cx} {pins : List (Addr × Obj)} {σ : St} {H : Hp} {s : Shared}
theorem Inv.inH (I : Inv X pins σ H s) (a : Addr) : Inv (X.inH a) pins σ H s :=
  ⟨⟨I.ok.mod, I.ok.kind, I.ok.glob, I.ok.blt, I.ok.above, I.ok.inj, I.ok.has, I.ok.cab, (fun h => nomatch h), I.ok.frames, I.ok.stk, I.ok.exf, I.ok.bs, I.ok.bsz, I.ok.noex, I.ok.exfs, I.ok.funs, I.ok.frf⟩, I.os, I.bare, I.base, I.loc, I.cell, I.free, I.freeC, I.pin, I.hok, I.len⟩
theorem Inv.ofH {a : Addr} (ok : X.Ok) (I : Inv (X.inH a) pins σ H s) : Inv X pins σ H s := ⟨ok, I.os, I.bare, I.base, I.loc, I.cell, I.free, I.freeC, I.pin, I.hok, I.len⟩
theorem Inv.toPn (I : Inv X pins σ H s) : Inv (X.pinned (X.pn ++ pins)) [] σ H s :=
  ⟨⟨I.ok.mod, I.ok.kind, I.ok.glob, I.ok.blt, I.ok.above, I.ok.inj, I.ok.has, I.ok.cab, I.ok.hd, I.ok.frames, I.ok.stk, I.ok.exf, I.ok.bs, I.ok.bsz, I.ok.noex, I.ok.exfs, I.ok.funs, I.ok.frf⟩, I.os, I.bare, I.base, I.loc, I.cell, I.free, I.freeC, fun p hp => I.pin p (by simpa using hp), I.hok, I.len⟩
theorem Inv.ofPn (ok : X.Ok) (I : Inv (X.pinned (X.pn ++ pins)) [] σ H s) : Inv X pins σ H s :=
  ⟨ok, I.os, I.bare, I.base, I.loc, I.cell, I.free, I.freeC, fun p hp => I.pin p (by simpa using hp), I.hok, I.len⟩
/-- an object that was not tracked is -/
theorem Inv.track {a : Addr} {o : HO} (I : Inv X pins σ H s) (hn : H a = none) (h0 : X.s₀.heap.get? a = none) (hL : a ≠ X.env.locals) (hc : ∀ x c, X.env.cells.lookup x = some c → c ≠ a) (hp : ∀ p ∈ X.pn ++ pins, p.1 ≠ a)
    (new : ObjOk X.prog X.w (upd H a o) s.heap a o) : Inv X pins σ (upd H a o) s := by
  have ne : ∀ b u, H b = some u → b ≠ a := fun b u e => ne_of_none e hn
  refine ⟨I.ok, I.os, I.bare, ⟨I.base.keep, I.base.slot, fun b ob e n hx => ?_, I.base.there, fun b xs e => ?_, fun b ob u e => ?_, fun b ps e => ?_⟩, I.loc, I.cell, ?_, fun x c e => ?_, fun p hp' => ?_, fun b u e => ?_, I.len⟩
  · rw [upd_ne (fun z => by rw [z, h0] at e; cases e)]
    exact I.base.free b ob e n hx
  · have q := I.base.tups b xs e
    rw [upd_ne (ne b _ q)]; exact q
  · have q := I.base.frzs b ob u e
    rw [upd_ne (ne b _ q)]; exact q
  · obtain ⟨m, q⟩ := I.base.tbls b ps e
    exact ⟨m, by rw [upd_ne (ne b _ q)]; exact q⟩
  · rw [upd_ne (Ne.symm hL)]; exact I.free
  · rw [upd_ne (hc x c e)]; exact I.freeC x c e
  · obtain ⟨e, n, r⟩ := I.pin p hp'
    exact ⟨e, by rw [upd_ne (hp p hp')]; exact n, r⟩
  · by_cases hb : b = a
    · subst hb; rw [upd_same] at e; cases e; exact new
    · rw [upd_ne hb] at e
      exact (I.hok b u e).stay (fun _ _ _ q => q) (fun c q => by rw [upd_ne (ne c _ q)]; exact q) fun c xs q => by rw [upd_ne (ne c _ q)]; exact q
theorem Inv.forget (I : Inv X pins σ H s) : Inv X pins (List.replicate X.N.length none) H s := I.weak (by rw [List.length_replicate]; exact I.len.symm) fun i v e => by
  rw [List.getElem?_replicate] at e
  split at e <;> cases e
end
/-! ### a def that is called within an except suite -/
end L2

namespace L2
open PySem PySem.Spec PyProof.Rows
theorem Inv.big {X : Cx} {pins : List (Addr × Obj)} {σ : St} {H : Hp} {s : Shared} (I : Inv X pins σ H s) : sysModules < s.heap.objs.size := by
  have h : mainGlobals < s.heap.objs.size := (I.mod.glob.keeps I.bk).lt
  exact Nat.lt_trans (by decide) h
theorem dk_empty {P : Program} {w : World} {H : Hp} (h : Heap) (hb : sysModules < h.objs.size) : ObjOk P w H (h.push { cls := .type "dict", data := .dict #[] }) h.objs.size (.dK []) :=
  ⟨Nat.zero_le _, beq_eq_false_iff_ne.mpr (Ne.symm (Nat.ne_of_lt hb)), [], .nil, Heap.DictOf.new h⟩
/-- {}, to be a dict of the kind that is wanted -/
def tDNewK : TE := fun _ H Q => ∀ p, H p = none → Q (.ref p) (upd H p (.dK []))
theorem pe_dnewK {X : Cx} {pos : Pos} : PE X (.Dict [] [] pos) tDNewK := fun pins s σ H Q I h =>
  wpAny_Dict_empty ⟨.ref s.heap.objs.size, _, I.laid (a := s.heap.objs.size) (o := .dK []) (t' := s.toks) (fun _ _ q => Heap.get?_push_of_some _ q) (Nat.le_refl _) (dk_empty s.heap I.big), rfl, h _ (I.hok.fresh (Nat.le_refl _))⟩
end L2
/-! EvStr: f-strings with ints, a while whose test need not be monotone. Behind EvTry. -/
namespace L2
open PySem PySem.Spec PyProof.Rows
/-! ### while -/
/-! ### tests that are known -/
theorem ifT {c A B : Prop} [Decidable c] (h : c) (k : A) : if decide c = true then A else B := by
  rw [if_pos (decide_eq_true h)]
  exact k
theorem ifF {c A B : Prop} [Decidable c] (h : ¬ c) (k : B) : if decide c = true then A else B := by
  rw [if_neg (fun z => h (of_decide_eq_true z))]
  exact k
theorem blT {Q : VK} {H : Hp} {c : Prop} [Decidable c] (h : c) (k : Q (.bl true) H) : Q (.bl (decide c)) H := by
  rw [decide_eq_true h]
  exact k
theorem blF {Q : VK} {H : Hp} {c : Prop} [Decidable c] (h : ¬ c) (k : Q (.bl false) H) : Q (.bl (decide c)) H := by
  rw [decide_eq_false h]
  exact k
/-! ### f-strings -/
end L2
/-! EvComp: a list comprehension with one for and at most one if, by hand. Behind EvStr. -/
namespace L2
open PySem PySem.Spec PyProof.Rows
/-! ### the closure -/
theorem cellOf_some {env : Env} {x : Str} {c : Addr} (h : env.cells.lookup x = some c) : cellOf env x = pure c := by
  unfold cellOf
  rw [h]
theorem closure_go {env : Env} : ∀ (names : List (Str × NameKind)) (cs : List (Str × Addr)), (∀ x, (x, NameKind.free) ∈ names → ∃ c, env.cells.lookup x = some c) →
    (∀ x c, cs.lookup x = some c → env.cells.lookup x = some c) →
    ∃ cl : List (Str × Addr), (forIn names cs fun (y : Str × NameKind) (r : List (Str × Addr)) => if (y.2 == .free) = true then (do let c ← cellOf env y.1; pure (ForInStep.yield ((y.1, c) :: r)) : Sem _) else pure (ForInStep.yield r)) = pure cl ∧
      (∀ x c, cl.lookup x = some c → env.cells.lookup x = some c) ∧ (∀ x, ((x, NameKind.free) ∈ names ∨ ∃ c, cs.lookup x = some c) → ∃ c, cl.lookup x = some c)
  | [], cs, _, h2 => ⟨cs, rfl, h2, fun x hx => hx.elim (fun z => nomatch z) id⟩
  | (y, k) :: names, cs, h1, h2 => by
    by_cases hk : k = .free
    · subst hk
      obtain ⟨c, hc⟩ := h1 y (List.mem_cons_self ..)
      obtain ⟨cl, e, a, b⟩ := closure_go names ((y, c) :: cs) (fun x hx => h1 x (List.mem_cons_of_mem _ hx)) (fun x c' hx => by
        rw [List.lookup_cons] at hx
        split at hx
        · rename_i hb
          have hb' : x = y := by simpa using hb
          cases hx
          rw [hb']
          exact hc
        · exact h2 x c' hx)
      refine ⟨cl, ?_, a, fun x hx => b x ?_⟩
      · rw [List.forIn_cons]
        simp only [beq_self_eq_true, if_true, cellOf_some hc]
        exact e
      · rcases hx with hx | ⟨c', hx⟩
        · rcases List.mem_cons.mp hx with z | z
          · cases z
            exact .inr ⟨c, by simp⟩
          · exact .inl z
        · by_cases hb : (x == y) = true
          · exact .inr ⟨c, by rw [List.lookup_cons, hb]⟩
          · exact .inr ⟨c', by rw [List.lookup_cons, Bool.not_eq_true _ |>.mp hb]; exact hx⟩
    · obtain ⟨cl, e, a, b⟩ := closure_go names cs (fun x hx => h1 x (List.mem_cons_of_mem _ hx)) h2
      have hb : (k == NameKind.free) = false := by simpa using hk
      refine ⟨cl, ?_, a, fun x hx => b x ?_⟩
      · rw [List.forIn_cons]
        simp only [hb, Bool.false_eq_true, if_false]
        exact e
      · rcases hx with hx | hx
        · rcases List.mem_cons.mp hx with z | z
          · cases z
            exact absurd rfl hk
          · exact .inl z
        · exact .inr hx
theorem closure_of {scope : Scope} {env : Env} (h : ∀ x, (x, NameKind.free) ∈ scope.names → ∃ c, env.cells.lookup x = some c) :
    ∃ cl, closureFor scope env = pure cl ∧ (∀ x c, cl.lookup x = some c → env.cells.lookup x = some c) ∧ ∀ x, (x, NameKind.free) ∈ scope.names → ∃ c, cl.lookup x = some c := by
  obtain ⟨cl, e, a, b⟩ := closure_go scope.names [] h (fun x c hx => nomatch hx)
  refine ⟨cl, ?_, a, fun x hx => b x (.inl hx)⟩
  refine Eq.trans (b := (forIn scope.names [] fun (y : Str × NameKind) (r : List (Str × Addr)) => if (y.2 == .free) = true then (do let c ← cellOf env y.1; pure (ForInStep.yield ((y.1, c) :: r)) : Sem _) else pure (ForInStep.yield r)) >>= fun r => pure r) rfl ?_
  rw [e]
  rfl
/-! ### the loop -/
section
variable {prog : Program} {w : World} {A : Around} {R : Result → Shared → Prop} {s : Shared}
theorem compLoop_anyX {elt target iter : Expr} {ifs : List Expr} {scope : Scope} {pos : Pos} {it acc : Value} {env : Env} (I : Nat → Shared → Prop)
    (turn : ∀ n s, I n s → wpAny (model prog w) A (pyNext it) (fun r s1 => match r with
      | none => R (.ok .next) s1
      | some v => wpAny (model prog w) A (letOwnedTupleGo target it v) (fun _ s1' => wpAny (model prog w) A (assign target env v) (fun _ s2 =>
          wpAny (model prog w) A (forIn ifs true fun c r => if r = true then do let ok ← isTrue c env (eval c env); pure (ForInStep.yield ok) else pure (ForInStep.yield r)) (fun ok s3 =>
            if ok = true then wpAny (model prog w) A (eval elt env) (fun x s4 =>
              wpAny (model prog w) A (call (.builtin "list.append") [acc, x]) (fun _ s5 => ∃ m, m < n ∧ I m s5) (fun _ _ => False) s4) (notedBy (model prog w) A env fun x s' => R (.error x) s') s3
            else ∃ m, m < n ∧ I m s3) (fun _ _ => False) s2) (fun _ _ => False) s1') (fun _ _ => False) s1) (fun _ _ => False) s)
    (n : Nat) (h : I n s) : codeAny (model prog w) A (.compLoop (.ListComp elt [⟨target, iter, ifs, 0⟩] scope pos) 0 it acc env) R s := by
  refine codeAny_loop rfl I (fun n s hI => ?_) n h
  show wpAny _ A ((compTurn (.ListComp elt [⟨target, iter, ifs, 0⟩] scope pos) 0 it acc env).onRaise (fun x => do noteFrame x env; theTreesLotGoes x)) _ _ s
  refine wpAny_noted ?_
  rw [compTurn_list]
  refine wpAny_bind (wpAny_standAt (wpAny_bind (wpAny_mono (turn n s hI) (fun r s1 h1 => ?_) fun _ _ h' => h'.elim)))
  cases r with
  | none => exact wpAny_pure h1
  | some v =>
    refine wpAny_bind (wpAny_mono h1 (fun _ s1' h1' => ?_) fun _ _ h' => h'.elim)
    refine wpAny_bind (wpAny_mono h1' (fun _ s2 h2 => wpAny_bind (wpAny_mono h2 (fun ok s3 h3 => ?_) fun _ _ h' => h'.elim)) fun _ _ h' => h'.elim)
    cases ok with
    | false => exact wpAny_pure ⟨rfl, h3⟩
    | true =>
      exact wpAny_bind (wpAny_bind (wpAny_mono h3 (fun x s4 h4 => wpAny_bind (wpAny_mono h4 (fun _ s5 h5 => wpAny_pure (wpAny_pure ⟨rfl, h5⟩)) fun _ _ h' => h'.elim)) fun _ _ h' => h'))
end
/-! ### the block's context -/
def cxC (X : Cx) (s : Shared) (H : Hp) (scope : Scope) (cl : List (Str × Addr)) (C : Addr) (N : List Str) (fp : List Addr) : Cx where
  prog := X.prog
  w := X.w
  K := X.K
  mg := X.mg
  base := X.base
  A := X.A
  N := N
  s₀ := s
  H₀ := H
  env := compEnvC scope cl C X.env
  outer := X.stack
  stack := X.stack
  ex := fp
  fn := fun x => scope.names.lookup x == some NameKind.cell
  calm := X.calm
  pn := []
  xe := fun _ _ => False
/-- slot i of the block is the outer slot, or the block's own -/
def seen (σ : St) (src : List (Option Nat)) : St := src.map fun o => match o with | some j => (σ[j]?).join | none => none
structure CompScope (X : Cx) (scope : Scope) (N : List Str) (src : List (Option Nat)) : Prop where
  kind : scope.kind = .function
  cells : ∀ y ∈ scope.names, y.2 = .cell → scope.names.lookup y.1 = some .cell
  own : ∀ y ∈ scope.names, y.2 = .local → scope.names.lookup y.1 = some .local
  has : ∀ x, (x, NameKind.free) ∈ scope.names → X.env.kindOf x = some .cell ∨ X.env.kindOf x = some .free
  len : src.length = N.length
  src : ∀ (i j : Nat) (x : Str), src[i]? = some (some j) → N[i]? = some x → X.N[j]? = some x ∧ (x, NameKind.free) ∈ scope.names ∧ scope.names.lookup x = some .free
theorem lookup_relabel_free {env : Env} : ∀ {names : List (Str × NameKind)} {x : Str}, names.lookup x = some .free →
    (names.map fun (n, k) => if (k == NameKind.free && env.scope.kind == .function && env.kindOf n == some .cell) then (n, NameKind.cell) else (n, k)).lookup x = some .cell ∨
    (names.map fun (n, k) => if (k == NameKind.free && env.scope.kind == .function && env.kindOf n == some .cell) then (n, NameKind.cell) else (n, k)).lookup x = some .free
  | [], _, h => by simp at h
  | (n, k) :: r, x, h => by
    have ih := @lookup_relabel_free env r x
    show List.lookup x ((if (k == NameKind.free && env.scope.kind == .function && env.kindOf n == some .cell) = true then (n, NameKind.cell) else (n, k)) :: _) = _ ∨ List.lookup x ((if (k == NameKind.free && env.scope.kind == .function && env.kindOf n == some .cell) = true then (n, NameKind.cell) else (n, k)) :: _) = _
    cases hx : x == n with
    | true =>
      simp only [List.lookup_cons, hx] at h
      cases h
      by_cases hc : (NameKind.free == NameKind.free && env.scope.kind == .function && env.kindOf n == some .cell) = true
      · rw [if_pos hc]; left; simp only [List.lookup_cons, hx]
      · rw [if_neg hc]; right; simp only [List.lookup_cons, hx]
    | false =>
      simp only [List.lookup_cons, hx] at h
      by_cases hc : (k == NameKind.free && env.scope.kind == .function && env.kindOf n == some .cell) = true
      · rw [if_pos hc]; simp only [List.lookup_cons, hx]; exact ih h
      · rw [if_neg hc]; simp only [List.lookup_cons, hx]; exact ih h
/-- a cell or a free name of the block was free in it -/
theorem relabel_cell {env : Env} : ∀ {names : List (Str × NameKind)} {x : Str},
    ((names.map fun (n, k) => if (k == NameKind.free && env.scope.kind == .function && env.kindOf n == some .cell) then (n, NameKind.cell) else (n, k)).lookup x = some .cell ∨
    (names.map fun (n, k) => if (k == NameKind.free && env.scope.kind == .function && env.kindOf n == some .cell) then (n, NameKind.cell) else (n, k)).lookup x = some .free) → (x, NameKind.free) ∈ names ∨ (x, NameKind.cell) ∈ names
  | [], _, h => by simp at h
  | (n, k) :: r, x, h => by
    have ih := @relabel_cell env r x
    change List.lookup x ((if (k == NameKind.free && env.scope.kind == .function && env.kindOf n == some .cell) = true then (n, NameKind.cell) else (n, k)) :: _) = _ ∨ List.lookup x ((if (k == NameKind.free && env.scope.kind == .function && env.kindOf n == some .cell) = true then (n, NameKind.cell) else (n, k)) :: _) = _ at h
    cases hx : x == n with
    | true =>
      have e : x = n := by simpa using hx
      by_cases hc : (k == NameKind.free && env.scope.kind == .function && env.kindOf n == some .cell) = true
      · have hk : k = .free := by
          simp only [Bool.and_eq_true, beq_iff_eq] at hc
          exact hc.1.1
        rw [e, hk]; exact .inl (List.mem_cons_self ..)
      · rw [if_neg hc] at h
        simp only [List.lookup_cons, hx, Option.some.injEq] at h
        rcases h with h | h
        · rw [e, h]; exact .inr (List.mem_cons_self ..)
        · rw [e, h]; exact .inl (List.mem_cons_self ..)
    | false =>
      by_cases hc : (k == NameKind.free && env.scope.kind == .function && env.kindOf n == some .cell) = true
      · rw [if_pos hc] at h; simp only [List.lookup_cons, hx] at h; exact (ih h).imp (List.mem_cons_of_mem _) (List.mem_cons_of_mem _)
      · rw [if_neg hc] at h; simp only [List.lookup_cons, hx] at h; exact (ih h).imp (List.mem_cons_of_mem _) (List.mem_cons_of_mem _)
def Weak (σ σ2 : St) : Prop := σ2.length = σ.length ∧ ∀ (i : Nat) (v : V), σ[i]? = some (some v) → σ2[i]? = some (some v)
theorem Weak.refl (σ : St) : Weak σ σ := ⟨rfl, fun _ _ h => h⟩
theorem Weak.set {σ : St} {i : Nat} {o : Option V} (h : ∀ v, σ[i]? ≠ some (some v)) : Weak σ (σ.set i o) := ⟨by simp, fun j v e => by
  have : i ≠ j := fun z => h v (z ▸ e)
  rw [List.getElem?_set_ne this]
  exact e⟩
/-- the tests -/
def PIf (X : Cx) (ifs : List Expr) (t : TT) : Prop := ∀ (pins : List (Addr × Obj)) (s : Shared) (σ : St) (H : Hp) (Q : Bool → Hp → Prop), Inv X pins σ H s → t σ H Q →
  wpAny (model X.prog X.w) X.A (forIn ifs true fun c r => if r = true then do let ok ← isTrue c X.env (eval c X.env); pure (ForInStep.yield ok) else pure (ForInStep.yield r)) (TP X pins σ Q) X.xe s
def tYes : TT := fun _ H Q => Q true H
theorem pif_nil {X : Cx} : PIf X [] tYes := fun _ _ _ H _ I h => wpAny_tests_nil ⟨H, I, h⟩
theorem pif_one {X : Cx} {c : Expr} {t : TT} (h : PT X c t) : PIf X [c] t := fun pins s σ H Q I q => wpAny_tests_one (h pins s σ H Q I q)
def tComp (src : List (Option Nat)) (wi : TI) (g : TG) (tc : TT) (te : TE) : TE := fun σ H Q => wi σ H fun J H1 => ∃ W : Nat → Nat → List V → Hp → Prop, (∃ m, W 0 m [] H1) ∧ ∀ i m ys H2, W i m ys H2 →
  (J.stop i H2 ∧ ys.length ≤ sizeLine ∧ ∀ p, H2 p = none → Q (.ref p) (upd H2 p (.lst ys))) ∨
  (J.go i H2 ∧ ∀ x H3, J.yld i H2 x H3 → g x (seen σ src) H3 fun σ2 H4 => Weak (seen σ src) σ2 ∧ tc σ2 H4 fun b H5 =>
    if b = true then te σ2 H5 fun y H6 => ys.length < sizeLine ∧ ∃ m', m' < m ∧ W (i + 1) m' (ys ++ [y]) H6 else ∃ m', m' < m ∧ W (i + 1) m' ys H5)
theorem cellsFrom_app : ∀ (names : List (Str × NameKind)) (n : Nat) (acc : List (Str × Addr)), cellsFrom n names acc = cellsFrom n names [] ++ acc
  | [], _, acc => rfl
  | (x, k) :: r, n, acc => by
    unfold cellsFrom
    split
    · rw [cellsFrom_app r (n + 1) ((x, n) :: acc), cellsFrom_app r (n + 1) [(x, n)], List.append_assoc]
      rfl
    · exact cellsFrom_app r n acc
theorem cellsFrom_mem : ∀ (names : List (Str × NameKind)) (n : Nat) (acc : List (Str × Addr)) (x : Str) (c : Addr), (x, c) ∈ cellsFrom n names acc → (x, c) ∈ acc ∨ (x, NameKind.cell) ∈ names
  | [], _, _, _, _, h => .inl h
  | (y, k) :: r, n, acc, x, c, h => by
    unfold cellsFrom at h
    split at h
    · rename_i hk
      have hk' : k = .cell := by simpa using hk
      rcases cellsFrom_mem r _ _ x c h with z | z
      · rcases List.mem_cons.mp z with z | z
        · cases z
          exact .inr (hk' ▸ List.mem_cons_self ..)
        · exact .inl z
      · exact .inr (List.mem_cons_of_mem _ z)
    · rcases cellsFrom_mem r _ _ x c h with z | z
      · exact .inl z
      · exact .inr (List.mem_cons_of_mem _ z)
theorem new_around {M : Model} {A : Around} {E : Value → Shared → Prop} {s : Shared} {scope : Scope} {globals : Addr} {cl : List (Str × Addr)} {qual : Str} {env : Env} {Q : Env → Shared → Prop}
    (h : ∀ h', h'.Ns s.heap.objs.size (fun _ => none) → (∀ b o, s.heap.get? b = some o → h'.get? b = some o) → CellsOk h' (s.heap.objs.size + 1) (cellsFrom (s.heap.objs.size + 1) scope.names []) →
      Q { scope, locals := s.heap.objs.size, globals, cells := cellsFrom (s.heap.objs.size + 1) scope.names [] ++ cl, qual, func := none, code := env.code, frame := env.frame, builtins := env.builtins } { s with heap := h' }) :
    wpAny M A (newFunctionEnv scope globals cl [] qual none .none (some env)) Q E s := by
  simp only [newFunctionEnv, Option.isSome_some, if_true]
  refine wpAny_bind (wpAny_alloc ?_)
  refine wpAny_bind (wpAny_layCells _ (fun name kind cells => by cases hkc : kind == NameKind.cell <;> simp [hkc]) _ _ _ _ ?_)
  have ok := cellsFrom_ok scope.names (s.heap.push { cls := .type "dict", data := .dict #[] }) (s.heap.objs.size + 1) [] ⟨fun _ _ hm => (nomatch hm), List.Pairwise.nil⟩ (by rw [Heap.size_push]; exact Nat.le_refl _)
  rw [Heap.size_push] at ok
  rw [show ({ s with heap := s.heap.push { cls := .type "dict", data := .dict #[] } } : Shared).heap.objs.size = s.heap.objs.size + 1 from Heap.size_push .., cellsFrom_app]
  rw [List.forIn_nil]
  exact wpAny_bind (wpAny_pure (wpAny_pure (h _ ((Heap.Ns.new s.heap (.type "dict")).keeps (pushCells_keeps _ _)) (fun b o e => pushCells_keeps _ _ b o (Heap.get?_push_of_some _ e)) ok)))
/-- a comprehension, whatever is done with its list; its element may refuse -/
theorem comp_coreX {X : Cx} {elt tg iter : Expr} {ifs : List Expr} {scope : Scope} {pos pos2 : Pos} {N : List Str} {src : List (Option Nat)} {wi : TI} {g : TG} {tc : TT} {te : TE} {use : Option (Value → Sem Unit)} {Post : Value → Shared → Prop} {pins : List (Addr × Obj)} {s : Shared} {σ : St} {H : Hp} {Q : VK}
    (hc : X.calm = true) (S : CompScope X scope N src) (hi : PI X tg iter wi)
    (hg : ∀ s H cl C fp, PG (cxC X s H scope cl C N fp) tg g) (hf : ∀ s H cl C fp, PIf (cxC X s H scope cl C N fp) ifs tc) (xc : Cx → Value → Shared → Prop) (he : ∀ s H cl C fp, (X.ex = [] → ∀ b o, X.s₀.heap.get? b = some o → b ∉ fp ∧ ∃ o', s.heap.get? b = some o') → PE ((cxC X s H scope cl C N fp).wish (xc (cxC X s H scope cl C N fp))) elt te)
    (hs : ∀ x, foldedSetIterable iter X.env x = pure x) (I : Inv X pins σ H s) (h : tComp src wi g tc te σ H Q)
    (fin : ∀ (C a : Addr) (H1 : Hp) (s' : Shared), (∀ h', Heap.SameBut C s'.heap h' → Inv X pins σ H1 { s' with heap := h' }) → FpOk X pins H1 C → (∃ m, s'.heap.Ns C m) → Q (.ref a) H1 → compPost (model X.prog X.w) X.A X.xe use Post (.ref a) C (.ok .next) s')
    (bad : ∀ (s2 : Shared) (H2 : Hp) (cl : List (Str × Addr)) (C : Addr) (fp : List Addr) (acc e : Value) (s' : Shared), (∀ σ' H' s', Inv (cxC X s2 H2 scope cl C N fp) [] σ' H' s' → ∀ h', Heap.SameBut C s'.heap h' → Inv X pins σ H' { s' with heap := h' }) → (X.ex = [] → ∀ b o, X.s₀.heap.get? b = some o → b ∉ fp ∧ ∃ o', s2.heap.get? b = some o') → xc (cxC X s2 H2 scope cl C N fp) e s' →
      notedBy (model X.prog X.w) X.A (compEnvC scope cl C X.env) (fun x s'' => compPost (model X.prog X.w) X.A X.xe use Post acc C (.error x) s'') e s') :
    wpAny (model X.prog X.w) X.A (comprehension (.ListComp elt [⟨tg, iter, ifs, 0⟩] scope pos) scope X.env pos2 (newList []) false (eval iter X.env) use) Post X.xe s := by
  obtain ⟨cl, hcl, cl1, cl2⟩ := closure_of (scope := scope) (env := X.env) (fun x hx => I.ok.has x (S.has x hx))
  refine wpAny_comprehension_free (use := use) rfl hs hcl S.kind S.own (thn (hi pins s σ H _ I h) fun v s1 h1 => thn h1 fun itv s2 h2 => ?_)
  obtain ⟨it, fp, tn, J, H2, rfl, I2, T, st2, f2, W, ⟨m0, w0⟩, turn⟩ := h2
  refine wpAny_newObj_type (new_around fun h3 hns hsb cok => ?_)
  dsimp only at hns hsb cok ⊢
  generalize hHd : s2.heap.push { cls := .type "list", dict := none, data := .seq ([] : List Value).toArray } = Hd at hns hsb cok ⊢
  have hCs : Hd.objs.size = s2.heap.objs.size + 1 := by rw [← hHd, Heap.size_push]
  have hDC : s2.heap.objs.size ≠ Hd.objs.size := by rw [hCs]; exact Nat.ne_of_lt (Nat.lt_succ_self _)
  have below : ∀ b, b < s2.heap.objs.size → b ≠ Hd.objs.size ∧ b ≠ s2.heap.objs.size := fun b hb => ⟨by rw [hCs]; exact Nat.ne_of_lt (Nat.lt_succ_of_lt hb), Nat.ne_of_lt hb⟩
  have old : ∀ b o, s2.heap.get? b = some o → h3.get? b = some o := fun b o e => hsb b o (hHd ▸ Heap.get?_push_of_some _ e)
  have hacc : h3.get? s2.heap.objs.size = some { cls := .type "list", dict := none, data := .seq ([] : List Value).toArray } := hsb _ _ (hHd ▸ Heap.get?_push_size _ rfl)
  have fpObj := T.obj 0 _ st2
  have fpLt : ∀ b ∈ fp, b < s2.heap.objs.size := fun b hb => by
    obtain ⟨o, e, _⟩ := fpObj b hb
    exact Heap.lt_size e
  generalize hown : cellsFrom (Hd.objs.size + 1) scope.names [] = own at cok ⊢
  have ownC : ∀ x c, (x, c) ∈ own → scope.names.lookup x = some .cell := fun x c hm => by
    rw [← hown] at hm
    rcases cellsFrom_mem _ _ _ _ _ hm with z | z
    · exact nomatch z
    · exact S.cells _ z rfl
  have two : ∀ x c, (own ++ cl).lookup x = some c → (cl.lookup x = some c ∧ c < s2.heap.objs.size) ∨ ((x, c) ∈ own ∧ h3.IsCell c none ∧ Hd.objs.size < c) := fun x c e => by
    rw [List.lookup_append] at e
    cases ho : own.lookup x with
    | none =>
      rw [ho, Option.none_or] at e
      obtain ⟨v, q⟩ := I2.cell x c (cl1 x c e)
      exact .inl ⟨e, q.lt⟩
    | some c' =>
      rw [ho, Option.some_or] at e
      cases e
      have hm := mem_of_lookup ho
      exact .inr ⟨hm, (cok.empty x c hm).1, (cok.empty x c hm).2⟩
  have cellNe : ∀ x c, (own ++ cl).lookup x = some c → c ≠ s2.heap.objs.size ∧ ∀ b ∈ fp, c ≠ b := fun x c e => by
    rcases two x c e with ⟨e, lt⟩ | ⟨_, _, lt⟩
    · exact ⟨Nat.ne_of_lt lt, fun b hb => (f2 b hb).2.2.2.2.1 x c (cl1 x c e)⟩
    · rw [hCs] at lt
      exact ⟨Nat.ne_of_gt (Nat.lt_trans (Nat.lt_succ_self _) lt), fun b hb => Nat.ne_of_gt (Nat.lt_trans (fpLt b hb) (Nat.lt_trans (Nat.lt_succ_self _) lt))⟩
  have fresh : ∀ a, s2.heap.objs.size ≤ a → s2.heap.get? a = none := fun a ha => by
    cases e : s2.heap.get? a with
    | none => rfl
    | some o' => exact absurd (Heap.lt_size e) (Nat.not_lt.mpr ha)
  -- the context
  have okY : (cxC X s2 H2 scope (own ++ cl) Hd.objs.size N fp).Ok := by
    refine ⟨I2.ok.mod, S.kind, I2.ok.glob, I2.ok.blt, ?_, ?_, ?_, ?_, fun hcc => I2.ok.hd hcc, I2.ok.frames, .inl rfl, fun b hb => ⟨(below b (fpLt b hb)).1, fun x c e => (cellNe x c e).2 b hb⟩,
      I2.bs, Nat.le_trans I2.ok.bsz I2.sz, fun b o e hb => ?_, fun b hb z => (List.mem_cons.mp (I2.stkSub b z)).elim (f2 b hb).2.1 (f2 b hb).2.2.1, I2.stack, I2.stkFree⟩
    · show s2.heap.objs.size ≤ Hd.objs.size
      rw [hCs]; exact Nat.le_succ _
    · intro x y c e1 e2
      rcases two x c e1 with ⟨e1, l1⟩ | ⟨m1, _, l1⟩ <;> rcases two y c e2 with ⟨e2, l2⟩ | ⟨m2, _, l2⟩
      · exact I2.ok.inj x y c (cl1 x c e1) (cl1 y c e2)
      · rw [hCs] at l2; exact absurd (Nat.lt_trans l1 (Nat.lt_trans (Nat.lt_succ_self _) l2)) (Nat.lt_irrefl _)
      · rw [hCs] at l1; exact absurd (Nat.lt_trans l2 (Nat.lt_trans (Nat.lt_succ_self _) l1)) (Nat.lt_irrefl _)
      · exact name_of_addr cok.apart m1 m2
    · intro x hx
      show ∃ c, (own ++ cl).lookup x = some c
      rw [List.lookup_append]
      cases ho : own.lookup x with
      | some c => exact ⟨c, rfl⟩
      | none =>
        rw [Option.none_or]
        rcases relabel_cell hx with z | z
        · exact cl2 x z
        · have := PySem.W.cellsFrom_some scope.names (Hd.objs.size + 1) [] (.inl (S.cells _ z rfl))
          rw [hown, ho] at this
          cases this
    · intro x c hf e
      have hf' : scope.names.lookup x = some .cell := by simpa [cxC] using hf
      have := PySem.W.cellsFrom_some scope.names (Hd.objs.size + 1) [] (.inl hf')
      rw [hown] at this
      obtain ⟨c', ho⟩ := Option.isSome_iff_exists.mp this
      have e' : (own ++ cl).lookup x = some c := e
      rw [List.lookup_append, ho, Option.some_or] at e'
      cases e'
      have := (cok.empty x c (mem_of_lookup ho)).2
      show s2.heap.objs.size ≤ c
      rw [hCs] at this
      omega
    · rcases (f2 b hb).2.2.2.1 with z | z
      · exact I2.ok.noex b o e z
      · exact absurd (Nat.lt_of_lt_of_le (Heap.lt_size e) (Nat.le_trans I2.ok.bsz z)) (Nat.lt_irrefl _)
  have IY : Inv (cxC X s2 H2 scope (own ++ cl) Hd.objs.size N fp) [] (seen σ src) H2 { s2 with heap := h3 } := by
    refine ⟨okY, rfl, I2.bare, Un.kept old, ⟨_, hns, fun i x v e1 e2 _ => ?_⟩, fun x c e => ?_, I2.hok.fresh (by show s2.heap.objs.size ≤ Hd.objs.size; rw [hCs]; exact Nat.le_succ _), ?_, fun p hp => (nomatch hp), I2.hok.kept old, ?_⟩
    · unfold seen at e2
      rw [List.getElem?_map] at e2
      cases hsr : src[i]? with
      | none => rw [hsr] at e2; cases e2
      | some oj =>
        rw [hsr] at e2
        cases oj with
        | none => cases e2
        | some j =>
          obtain ⟨hN, hfr, hlk⟩ := S.src i j x hsr e1
          have e3 : σ[j]? = some (some v) := by
            have : (σ[j]?).join = some v := Option.some.inj e2
            cases hj : σ[j]? with
            | none => rw [hj] at this; cases this
            | some o => rw [hj] at this; cases this; rfl
          have hk := S.has x hfr
          have vis : Vis X.env.scope x := by
            rcases hk with z | z
            · exact .inr (.inl z)
            · exact .inr (.inr z)
          obtain ⟨m, hnm, hl⟩ := I2.loc
          obtain ⟨u, r, l⟩ := hl j x v hN e3 vis
          refine ⟨u, r, .inr ⟨lookup_relabel_free hlk, ?_⟩⟩
          rcases l with ⟨l1, _⟩ | ⟨_, c, ec, ic⟩
          · rcases hk with z | z <;> (rw [l1] at z; cases z)
          · obtain ⟨c', ec'⟩ := cl2 x hfr
            have := cl1 x c' ec'
            rw [ec] at this
            cases this
            obtain ⟨o, ho, hd⟩ := ic
            have hno : own.lookup x = none := by
              cases ho : own.lookup x with
              | none => rfl
              | some c2 =>
                have := ownC x c2 (mem_of_lookup ho)
                rw [hlk] at this
                cases this
            exact ⟨c, by show (own ++ cl).lookup x = some c; rw [List.lookup_append, hno, Option.none_or]; exact ec', o, old _ _ ho, hd⟩
    · rcases two x c e with ⟨e, _⟩ | ⟨_, q, _⟩
      · obtain ⟨v, o, ho, hd⟩ := I2.cell x c (cl1 x c e)
        exact ⟨v, o, old _ _ ho, hd⟩
      · exact ⟨none, q⟩
    · intro x c e
      rcases two x c e with ⟨e, _⟩ | ⟨_, _, lt⟩
      · exact I2.freeC x c (cl1 x c e)
      · exact I2.hok.fresh (by rw [hCs] at lt; omega)
    · show (seen σ src).length = N.length
      unfold seen
      rw [List.length_map, S.len]
  have dFs : s2.heap.objs.size ∉ frs X.stack := fun z => by
    obtain ⟨_, o, ho, _⟩ := I2.stack.mem z
    exact absurd (Heap.lt_size ho) (Nat.lt_irrefl _)
  have cFs : Hd.objs.size ∉ frs X.stack := fun z => by
    obtain ⟨_, o, ho, _⟩ := I2.stack.mem z
    have z2 := Heap.lt_size ho
    rw [hCs] at z2
    exact absurd z2 (Nat.not_lt.mpr (Nat.le_succ _))
  have stat : ∀ {H' : Hp} {pn : List (Addr × Obj)}, (∀ b ∈ fp, H' b = none) → (∀ p ∈ pn, p.1 = s2.heap.objs.size) → ∀ b ∈ fp, FpOk (cxC X s2 H2 scope (own ++ cl) Hd.objs.size N fp) pn H' b := fun hn hp b hb =>
    ⟨hn b hb, (below b (fpLt b hb)).1, okY.exfs b hb, .inl hb, fun x c e => (cellNe x c e).2 b hb, fun p q z => (below b (fpLt b hb)).2 (z ▸ hp p q)⟩
  have neC : ∀ b o, s2.heap.get? b = some o → b ≠ Hd.objs.size := fun b o e => (below b (Heap.lt_size e)).1
  have key : ∀ σ' H' s', Inv (cxC X s2 H2 scope (own ++ cl) Hd.objs.size N fp) [] σ' H' s' → ∀ h', Heap.SameBut Hd.objs.size s'.heap h' → Inv X pins σ H' { s' with heap := h' } := fun σ' H' s4 I6 h' hsb' => by
    have kp : ∀ b o, b ≠ Hd.objs.size → s4.heap.get? b = some o → h'.get? b = some o := fun b o hb e => (hsb'.2 b hb).trans e
    have un : Un (frs X.stack) fp H2 H' s2.heap h' := by
      have u0 : Un (frs X.stack) fp H2 H' s2.heap s4.heap := I6.base
      refine ⟨fun b o e n' hb hx => kp b o (neC b o e) (u0.keep b o e n' hb hx), fun b o e n' hb hx => ?_, u0.free, fun b o e hx => ?_, u0.tups, u0.frzs, u0.tbls⟩
      · obtain ⟨sl, e1⟩ := u0.slot b o e n' hb hx
        exact ⟨sl, kp b _ (neC b o e) e1⟩
      · obtain ⟨o', e1⟩ := u0.there b o e hx
        exact ⟨o', kp b o' (neC b o e) e1⟩
    have nC : H' Hd.objs.size = none := I6.free
    have hok : HOk X.prog X.w H' h' := fun a o e => (I6.hok a o e).stay (fun b u hb q' => kp b u (fun z => by
      rcases hb with rfl | hb
      · rw [z, nC] at e; cases e
      · rw [z, nC] at hb; cases hb) q') (fun _ q' => q') fun _ _ q' => q'
    exact I2.call' (s' := { s4 with heap := h' }) I6.os un hok I6.bare (fun b hb => ⟨(f2 b hb).2.2.2.1, (f2 b hb).2.1, (f2 b hb).2.2.2.2.1, (f2 b hb).2.2.2.2.2⟩)
  have olds : X.ex = [] → ∀ b o, X.s₀.heap.get? b = some o → b ∉ fp ∧ ∃ o', s2.heap.get? b = some o' := fun hex b o e => by
    refine ⟨fun hb => ?_, I2.base.there b o e (by rw [hex]; simp)⟩
    rcases (f2 b hb).2.2.2.1 with z | z
    · rw [hex] at z
      cases z
    · exact absurd (Heap.lt_size e) (Nat.not_lt.mpr z)
  have loop : ∀ sA : Shared, sA = { s2 with heap := h3 } →
      codeAny (model X.prog X.w) X.A (.compLoop (.ListComp elt [⟨tg, iter, ifs, 0⟩] scope pos) 0 (.ref it) (.ref s2.heap.objs.size) (compEnvC scope (own ++ cl) Hd.objs.size X.env))
        (compPost (model X.prog X.w) X.A X.xe use Post (.ref s2.heap.objs.size) Hd.objs.size) sA := by
    rintro sA rfl
    refine compLoop_anyX (fun n s' => ∃ (i : Nat) (ys : List V) (its : List Value) (k : Nat) (σ3 : St) (H3 : Hp), Inv (cxC X s2 H2 scope (own ++ cl) Hd.objs.size N fp) [] σ3 H3 s' ∧ Weak (seen σ src) σ3 ∧ tn i s'.heap ∧ (∀ b ∈ fp, H3 b = none) ∧ W i n ys H3 ∧
        s'.heap.get? s2.heap.objs.size = some { cls := .type "list", data := .seq its.toArray k } ∧ Vals ys its ∧ H3 s2.heap.objs.size = none) ?_ m0
      ⟨0, [], [], 0, _, H2, IY, Weak.refl _, T.keep 0 _ _ st2 (fun b hb o e => old b o e), fun b hb => (f2 b hb).1, w0, hacc, .nil, I2.fresh⟩
    rintro n s3 ⟨i, ys, its, k, σ3, H3, I3, wk, st3, fr3, w3, hD, rv, nD⟩
    have I4 : Inv (cxC X s2 H2 scope (own ++ cl) Hd.objs.size N fp) [] (seen σ src) H3 s3 := I3.weak wk.1.symm wk.2
    have I5 : Inv (cxC X s2 H2 scope (own ++ cl) Hd.objs.size N fp) [(s2.heap.objs.size, { cls := .type "list", data := .seq its.toArray k })] (seen σ src) H3 s3 := I4.pins_of fun p hp => by
      cases List.mem_singleton.mp hp
      exact ⟨hD, nD, hDC, dFs, fun v z => nomatch z⟩
    have one : ∀ p ∈ [((s2.heap.objs.size, { cls := .type "list", data := .seq its.toArray k }) : Addr × Obj)], p.1 = s2.heap.objs.size := fun p hp => by
      cases List.mem_singleton.mp hp
      rfl
    rcases turn i n ys H3 w3 with ⟨stop, hlen, q⟩ | ⟨go, step⟩
    · refine thn (T.done (cxC X s2 H2 scope (own ++ cl) Hd.objs.size N fp) rfl rfl rfl hc i _ s3 _ H3 _ I5 (stat fr3 one) st3 stop) fun r s4 ⟨hr, I6⟩ => ?_
      subst hr
      have hD4 := (I6.pin _ (List.mem_append_right _ (List.mem_singleton.mpr rfl))).1
      obtain ⟨m, hn4, _⟩ := I6.loc
      refine fin Hd.objs.size s2.heap.objs.size (upd H3 s2.heap.objs.size (.lst ys)) s4 (fun h' hsb' => ?_) (I2.fpOk (by rw [hCs]; exact Nat.le_succ _) (by rw [upd_ne (Ne.symm hDC)]; exact I6.free)) ⟨m, hn4⟩ (q _ nD)
      have kp : ∀ b o, b ≠ Hd.objs.size → s4.heap.get? b = some o → h'.get? b = some o := fun b o hb e => (hsb'.2 b hb).trans e
      have I7 : Inv X pins σ H3 { s4 with heap := h' } := key _ _ s4 I6.nopins h' hsb'
      have e0 : X.s₀.heap.get? s2.heap.objs.size = none := by
        cases e : X.s₀.heap.get? s2.heap.objs.size with
        | none => rfl
        | some o => exact absurd (Nat.lt_of_lt_of_le (Heap.lt_size e) I2.sz) (Nat.lt_irrefl _)
      have I8 : Inv X pins σ (upd H3 s2.heap.objs.size (.lst ys)) { s4 with heap := h' } := I7.track nD e0 (fun z => Nat.lt_irrefl _ (z ▸ I2.lt)) (fun x c e z => by
        obtain ⟨v, q'⟩ := I2.cell x c e
        exact Nat.lt_irrefl _ (z ▸ q'.lt)) (fun p hp z => Nat.lt_irrefl _ (z ▸ Heap.lt_size (I2.pin p hp).1)) ⟨hlen, its, k, rv, kp _ _ hDC hD4⟩
      exact I8
    · refine thn (T.item (cxC X s2 H2 scope (own ++ cl) Hd.objs.size N fp) rfl rfl rfl hc i _ s3 _ H3 _ I5 (stat fr3 one) st3 go) fun r s4 ⟨u, hr, h4⟩ => ?_
      subst hr
      refine thn h4 fun _ s5 ⟨x, H5, I6, r5, y5, st5, fr5⟩ => ?_
      have I6' := I6.pinned (stat fr5 one) (T.obj _ _ st5)
      refine thn (hg _ _ _ _ _ _ s5 _ H5 x u _ I6' r5 (step x H5 y5)) fun _ s6 ⟨σ6, H6, I7, wk6, q6⟩ => ?_
      refine thn (hf _ _ _ _ _ _ s6 σ6 H6 _ I7 q6) fun ok s7 ⟨H7, I8, q7⟩ => ?_
      have back : ∀ {σ' : St} {H' : Hp} {s' : Shared}, Inv (cxC X s2 H2 scope (own ++ cl) Hd.objs.size N fp) ([(s2.heap.objs.size, { cls := .type "list", data := .seq its.toArray k })] ++ pinsAt fp s5.heap) σ' H' s' →
          tn (i + 1) s'.heap ∧ (∀ b ∈ fp, H' b = none) ∧ s'.heap.get? s2.heap.objs.size = some { cls := .type "list", data := .seq its.toArray k } ∧ H' s2.heap.objs.size = none := fun {σ' H' s'} J => by
        have jD := J.pin (s2.heap.objs.size, { cls := .type "list", data := .seq its.toArray k }) (by simp)
        refine ⟨T.keep _ _ _ st5 fun b hb o e => (J.pin (b, o) (List.mem_append_right _ (List.mem_append_right _ (mem_pinsAt hb e)))).1, fun b hb => ?_, jD.1, jD.2.1⟩
        obtain ⟨o, e, d⟩ := T.obj _ _ st5 b hb
        exact (J.pin (b, o) (List.mem_append_right _ (List.mem_append_right _ (mem_pinsAt hb e)))).2.1
      cases ok with
      | false =>
        rw [if_neg Bool.false_ne_true] at q7
        rw [if_neg Bool.false_ne_true]
        obtain ⟨m', hm, w'⟩ := q7
        obtain ⟨b1, b2, b3, b4⟩ := back I8
        exact ⟨m', hm, i + 1, ys, its, k, σ6, H7, I8.nopins, wk6, b1, b2, w', b3, rv, b4⟩
      | true =>
        rw [if_pos rfl] at q7
        rw [if_pos rfl]
        refine wpAny_mono (he _ _ _ _ _ olds _ s7 σ6 H7 _ (I8.wish _) q7) (fun u2 s8 ⟨y, H8, I9', r9, hlt, m', hm, w'⟩ => ?_) fun e s8 z => bad _ _ _ _ _ _ e s8 key olds z
        have I9 := I9'.unwish
        obtain ⟨b1, b2, b3, b4⟩ := back I9
        have hl := rv.length
        refine call_meets F.slot_list_append ⟨_, b3, rfl⟩ F.entry_list_append (F.args_list_append_2 _ _) (PySem.list_append s2.heap.objs.size its.toArray k u2 (by rw [List.size_toArray]; omega)) ⟨b3, ?_⟩
        have qu := PySem.IsL.update b3 (·.push u2)
        rw [show its.toArray.push u2 = (its ++ [u2]).toArray by simp] at qu
        refine ⟨m', hm, i + 1, ys ++ [y], its ++ [u2], _, σ6, H8, ?_, wk6, ?_, b2, w', qu, rv.append (.cons r9 .nil), b4⟩
        · exact I9.nopins.turned (it := s2.heap.objs.size) (fun b o hb e => (Heap.get?_update_other s8.heap (Obj.mapSeq _) (Ne.symm hb)).trans e) b4 hDC (.inr (Nat.le_refl _)) (fun x c e z => (cellNe x c e).1 z) (fun p hp => nomatch hp)
        · exact T.keep _ _ _ b1 fun b hb o e => (Heap.get?_update_other s8.heap (Obj.mapSeq _) ((below b (fpLt b hb)).2.symm)).trans e
  exact codeAny_compStart_list (loop _ rfl) (T.self _ 0 _ _ _ (T.keep 0 _ _ st2 (fun b hb o e => old b o e)) (loop _ rfl))
/-- a comprehension, whatever is done with its list -/
theorem comp_core {X : Cx} {elt tg iter : Expr} {ifs : List Expr} {scope : Scope} {pos pos2 : Pos} {N : List Str} {src : List (Option Nat)} {wi : TI} {g : TG} {tc : TT} {te : TE} {use : Option (Value → Sem Unit)} {Post : Value → Shared → Prop} {pins : List (Addr × Obj)} {s : Shared} {σ : St} {H : Hp} {Q : VK}
    (hc : X.calm = true) (S : CompScope X scope N src) (hi : PI X tg iter wi)
    (hg : ∀ s H cl C fp, PG (cxC X s H scope cl C N fp) tg g) (hf : ∀ s H cl C fp, PIf (cxC X s H scope cl C N fp) ifs tc) (he : ∀ s H cl C fp, PE (cxC X s H scope cl C N fp) elt te)
    (hs : ∀ x, foldedSetIterable iter X.env x = pure x) (I : Inv X pins σ H s) (h : tComp src wi g tc te σ H Q)
    (fin : ∀ (C a : Addr) (H1 : Hp) (s' : Shared), (∀ h', Heap.SameBut C s'.heap h' → Inv X pins σ H1 { s' with heap := h' }) → FpOk X pins H1 C → (∃ m, s'.heap.Ns C m) → Q (.ref a) H1 → compPost (model X.prog X.w) X.A X.xe use Post (.ref a) C (.ok .next) s') :
    wpAny (model X.prog X.w) X.A (comprehension (.ListComp elt [⟨tg, iter, ifs, 0⟩] scope pos) scope X.env pos2 (newList []) false (eval iter X.env) use) Post X.xe s :=
  comp_coreX hc S hi hg hf (fun _ _ _ => False) (fun s H cl C fp _ => he s H cl C fp) hs I h fin fun _ _ _ _ _ _ _ _ _ _ z => z.elim
theorem pe_comp {X : Cx} {elt tg iter : Expr} {ifs : List Expr} {scope : Scope} {pos : Pos} {N : List Str} {src : List (Option Nat)} {wi : TI} {g : TG} {tc : TT} {te : TE} (hc : X.calm = true) (S : CompScope X scope N src) (hi : PI X tg iter wi)
    (hg : ∀ s H cl C fp, PG (cxC X s H scope cl C N fp) tg g) (hf : ∀ s H cl C fp, PIf (cxC X s H scope cl C N fp) ifs tc) (he : ∀ s H cl C fp, PE (cxC X s H scope cl C N fp) elt te)
    (hs : ∀ x, foldedSetIterable iter X.env x = pure x := by intro _; rfl) : PE X (.ListComp elt [⟨tg, iter, ifs, 0⟩] scope pos) (tComp src wi g tc te) := by
  intro pins s σ H Q I h
  rw [eval_ListComp]
  refine comp_core (use := none) hc S hi hg hf he hs I h fun C a H1 s' key _ ⟨m, hn⟩ q => ⟨m, hn, fun h' sb => ⟨.ref a, H1, key h' sb, rfl, q⟩⟩
/-- x = [.. for ..], x a local name on the same row: stored before the block's names are let go -/
theorem ps_setComp {X : Cx} {elt tg iter : Expr} {ifs : List Expr} {scope : Scope} {pos spos pos' : Pos} {x : Str} {i : Nat} {N : List Str} {src : List (Option Nat)} {wi : TI} {g : TG} {tc : TT} {te : TE} (hc : X.calm = true) (S : CompScope X scope N src) (hi : PI X tg iter wi)
    (hg : ∀ s H cl C fp, PG (cxC X s H scope cl C N fp) tg g) (hf : ∀ s H cl C fp, PIf (cxC X s H scope cl C N fp) ifs tc) (he : ∀ s H cl C fp, PE (cxC X s H scope cl C N fp) elt te) (ht : PG X (.Name x pos') (gName i))
    (hsw : swapsWith (.ListComp elt [⟨tg, iter, ifs, 0⟩] scope pos) (some (.Name x pos')) spos.line X.env = pure true := by rfl)
    (hs : ∀ x, foldedSetIterable iter X.env x = pure x := by intro _; rfl) : PS X (.Assign [.Name x pos'] (.ListComp elt [⟨tg, iter, ifs, 0⟩] scope pos) spos) (tAsg (tComp src wi g tc te) (gName i)) := by
  intro pins s σ H D I h
  rw [exec_Assign_Name_used _ _ _ _ hsw]
  refine wpAny_bind (wpAny_standAt (wpAny_bind ?_))
  rw [arm_evalThenUse_ListComp]
  refine wpAny_bind ?_
  refine comp_core (use := some (assign (.Name x pos') X.env)) hc S hi hg hf he hs I h fun C a H1 s' key fp ⟨m, o, es, ep, ho, hd, hk⟩ q => ?_
  have I1 : Inv X pins σ H1 s' := key s'.heap (Heap.SameBut.refl _ _)
  have I2 := I1.pinned (fp := [C]) (fun b hb => by rw [List.mem_singleton.mp hb]; exact fp) (fun b hb => by rw [List.mem_singleton.mp hb]; exact ⟨o, ho, fun v z => by rw [hd] at z; cases z⟩)
  refine thn (ht _ s' σ H1 (.ref a) (.ref a) _ I2 rfl q) fun _ s5 ⟨σ5, H5, I5, q5⟩ => ?_
  have pC := I5.pin (C, o) (List.mem_append_right _ (List.mem_append_right _ (mem_pinsAt (List.mem_singleton.mpr rfl) ho)))
  obtain ⟨f0, f1, f2, f3, f4, f5⟩ := fp
  refine ⟨m, ⟨o, es, ep, pC.1, hd, hk⟩, fun h' sb => ?_⟩
  exact wpAny_pure (wpAny_pure ⟨σ5, H5, I5.unpinned.turned (it := C) (t' := s5.toks) (fun b o' hb e => (sb.2 b hb).trans e) pC.2.1 f1 f3 f4 f5, q5⟩)
/-! ### a scope that is written -/
def compOkB (osc sc : Scope) (oN N : List Str) (src : List (Option Nat)) : Bool :=
  sc.names.all (fun y => decide (y.2 ≠ .cell) || decide (sc.names.lookup y.1 = some .cell)) && sc.names.all (fun y => decide (y.2 ≠ .local) || decide (sc.names.lookup y.1 = some .local)) &&
  sc.names.all (fun y => decide (y.2 ≠ .free) || decide (osc.names.lookup y.1 = some .cell) || decide (osc.names.lookup y.1 = some .free)) && decide (src.length = N.length) &&
  (List.range src.length).all (fun i => match src[i]?, N[i]? with | some (some j), some x => decide (oN[j]? = some x) && decide ((x, NameKind.free) ∈ sc.names) && decide (sc.names.lookup x = some .free) | _, _ => true)
theorem comp_scope {X : Cx} {scope : Scope} {N : List Str} {src : List (Option Nat)} (osc : Scope) (oN : List Str) (e1 : X.env.scope = osc) (e2 : X.N = oN) (c : compOkB osc scope oN N src = true) (k : scope.kind = .function) : CompScope X scope N src := by
  unfold compOkB at c
  simp only [Bool.and_eq_true, List.all_eq_true, decide_eq_true_eq, Bool.or_eq_true] at c
  obtain ⟨⟨⟨⟨c1, c2⟩, c3⟩, c4⟩, c5⟩ := c
  refine ⟨k, fun y hy e => (c1 y hy).resolve_left fun z => z e, fun y hy e => ?_, fun x hx => ?_, c4, fun i j x h1 h2 => ?_⟩
  · rcases c2 y hy with z | z
    · exact absurd e z
    · exact z
  · show X.env.scope.names.lookup x = _ ∨ X.env.scope.names.lookup x = _
    rw [e1]
    rcases c3 (x, .free) hx with (z | z) | z
    · exact absurd rfl z
    · exact .inl z
    · exact .inr z
  · have hi : i < src.length := (List.getElem?_eq_some_iff.mp h1).1
    have z := c5 i (List.mem_range.mpr hi)
    rw [h1, h2] at z
    simp only [Bool.and_eq_true, decide_eq_true_eq] at z
    rw [e2]
    exact ⟨z.1.1, z.1.2, z.2⟩
/-- the same inside another comprehension, whose scope is no closed text -/
theorem comp_scopeX {X : Cx} {scope : Scope} {N : List Str} {src : List (Option Nat)} (oN : List Str) (e2 : X.N = oN) (c : compOkB X.env.scope scope oN N src = true) (k : scope.kind = .function) : CompScope X scope N src := comp_scope X.env.scope oN rfl e2 c k
end L2
/-! EvMore: data read off the abstract heap and compared, any, all; promises of defs in bundles. Behind EvComp. -/
namespace L2
open PySem PySem.Spec PyProof.Rows
/-! ### data -/
mutual
def IsD (K : PySem.W.Frag) (H : Hp) : PyData → V → Prop
  | .none, v => v = .non
  | .bool b, v => v = .bl b
  | .int i, v => v = .int i
  | .str x, v => v = .str x
  | .list ds, v => ∃ a xs, v = .ref a ∧ SqL K H a xs ∧ IsDs K H ds xs
  | .tuple ds, v => ∃ a xs, v = .ref a ∧ SqT K H a xs ∧ IsDs K H ds xs
  | .dict _, _ => False
def IsDs (K : PySem.W.Frag) (H : Hp) : List PyData → List V → Prop
  | [], xs => xs = []
  | d :: ds, xs => ∃ x r, xs = x :: r ∧ IsD K H d x ∧ IsDs K H ds r
end
theorem isTup_reads {h : Heap} {a : Addr} {its : Array Value} (t : IsTup h a its) : ∃ o n, h.get? a = some o ∧ o.cls = .type "tuple" ∧ o.data = .seq its n := by
  obtain ⟨o, ho, hc, n, hd⟩ := t
  exact ⟨o, n, ho, hc, hd⟩
section
variable {X : Cx} {pins : List (Addr × Obj)} {σ : St} {H : Hp} {s : Shared}
mutual
theorem IsD.reads (I : Inv X pins σ H s) : ∀ (d : PyData) {v : V} {u : Value}, IsD X.K H d v → RelV v u → ∃ as, Reads s.heap u d as
  | .none, v, u, h, r => by
    simp only [IsD] at h; subst h
    cases (show u = .none from r); exact ⟨_, .none⟩
  | .bool b, v, u, h, r => by
    simp only [IsD] at h; subst h
    cases (show u = .bool b from r); exact ⟨_, .bool b⟩
  | .int i, v, u, h, r => by
    simp only [IsD] at h; subst h
    obtain ⟨t, rfl⟩ := r; exact ⟨_, .int i t⟩
  | .str x, v, u, h, r => by
    simp only [IsD] at h; subst h
    obtain ⟨t, rfl⟩ := r; exact ⟨_, .str x t⟩
  | .list ds, v, u, h, r => by
    simp only [IsD] at h
    obtain ⟨a, xs, rfl, hs, hd⟩ := h
    cases (show u = .ref a from r)
    obtain ⟨its, rv, p, _⟩ := I.list hs
    obtain ⟨o, ho, hc, n, hdd⟩ := p.isList
    obtain ⟨as, ra⟩ := IsDs.reads I ds hd rv
    exact ⟨_, .list ho hc hdd (by simpa using ra)⟩
  | .tuple ds, v, u, h, r => by
    simp only [IsD] at h
    obtain ⟨a, xs, rfl, hs, hd⟩ := h
    cases (show u = .ref a from r)
    obtain ⟨its, rv, p, _⟩ := I.tuple hs
    obtain ⟨o, n, ho, hc, hdd⟩ := isTup_reads p
    obtain ⟨as, ra⟩ := IsDs.reads I ds hd rv
    exact ⟨_, .tuple ho hc hdd (by simpa using ra)⟩
  | .dict _, v, u, h, r => by
    simp only [IsD] at h
theorem IsDs.reads (I : Inv X pins σ H s) : ∀ (ds : List PyData) {vs : List V} {us : List Value}, IsDs X.K H ds vs → Vals vs us → ∃ as, ReadsAll s.heap us ds as
  | [], vs, us, h, r => by
    simp only [IsDs] at h; subst h
    cases r; exact ⟨_, .nil⟩
  | d :: ds, vs, us, h, r => by
    simp only [IsDs] at h
    obtain ⟨x, rr, rfl, hx, hr⟩ := h
    cases r with
    | cons r1 r2 =>
      obtain ⟨as, ra⟩ := IsD.reads I d hx r1
      obtain ⟨bs, rb⟩ := IsDs.reads I ds hr r2
      exact ⟨_, .cons ra rb⟩
end
end
mutual
theorem IsD.imp {K : PySem.W.Frag} {H H' : Hp} (sl : ∀ a xs, SqL K H a xs → SqL K H' a xs) (st : ∀ a xs, SqT K H a xs → SqT K H' a xs) : ∀ (d : PyData) {v : V}, IsD K H d v → IsD K H' d v
  | .none, v, h => by simp only [IsD] at h ⊢; exact h
  | .bool b, v, h => by simp only [IsD] at h ⊢; exact h
  | .int i, v, h => by simp only [IsD] at h ⊢; exact h
  | .str x, v, h => by simp only [IsD] at h ⊢; exact h
  | .list ds, v, h => by
    simp only [IsD] at h ⊢
    obtain ⟨a, xs, e, hs, hd⟩ := h
    exact ⟨a, xs, e, sl a xs hs, IsDs.imp sl st ds hd⟩
  | .tuple ds, v, h => by
    simp only [IsD] at h ⊢
    obtain ⟨a, xs, e, hs, hd⟩ := h
    exact ⟨a, xs, e, st a xs hs, IsDs.imp sl st ds hd⟩
  | .dict _, v, h => by simp only [IsD] at h
theorem IsDs.imp {K : PySem.W.Frag} {H H' : Hp} (sl : ∀ a xs, SqL K H a xs → SqL K H' a xs) (st : ∀ a xs, SqT K H a xs → SqT K H' a xs) : ∀ (ds : List PyData) {vs : List V}, IsDs K H ds vs → IsDs K H' ds vs
  | [], vs, h => by simp only [IsDs] at h ⊢; exact h
  | d :: ds, vs, h => by
    simp only [IsDs] at h ⊢
    obtain ⟨x, r, e, hx, hr⟩ := h
    exact ⟨x, r, e, IsD.imp sl st d hx, IsDs.imp sl st ds hr⟩
end
/-! ### == and != of data -/
def rEqD (K : PySem.W.Frag) (neg : Bool) : R2 := fun x y H Q => ∃ da db, IsD K H da x ∧ IsD K H db y ∧ PySem.SeqAt.shaped da = true ∧ PySem.SeqAt.shaped db = true ∧ Q (.bl (if neg then !PyData.eqv da db else PyData.eqv da db)) H
theorem op_neD {X : Cx} (hu : X.A.units + 64 < cLine) : OpR X (compareOp .NotEq) (rEqD X.K true) := by
  intro pins s σ H x y v u Q I rx ry h
  obtain ⟨da, db, ha, hb, sa, sb, q⟩ := h
  obtain ⟨as, ra⟩ := IsD.reads I da ha rx
  obtain ⟨bs, rb⟩ := IsD.reads I db hb ry
  exact PySem.SeqAt.compareNe_shaped ra rb sa sb hu ⟨.bl _, H, I, rfl, q⟩
/-! ### any, all -/
theorem bools_of : ∀ {bs : List Bool} {us : List Value}, Vals (bs.map V.bl) us → LSm.BoolsAre us bs
  | [], _, .nil => .nil
  | b :: bs, _, .cons h t => by
    cases (show _ = Value.bool b from h)
    exact .cons b (bools_of t)
theorem call_all {X : Cx} (hc : X.calm = true) : CallR X (.builtin "all") (fun xs H Q => ∃ (a : Addr) (bs : List Bool), xs = [.ref a] ∧ SqL X.K H a (bs.map V.bl) ∧ Q (.bl (bs.all id)) H) := by
  intro pins s σ H xs us Q I r h
  obtain ⟨a, bs, rfl, hS, q⟩ := h
  obtain ⟨u, rfl, ru⟩ := r.one
  cases (show u = Value.ref a from ru)
  obtain ⟨its, rv, p, _⟩ := I.list hS
  have hl := p.isList
  have hb := bools_of rv
  have hlt : a < s.heap.objs.size := by obtain ⟨_, e, _⟩ := hl; exact Heap.lt_size e
  refine call_all_walk (wpAny_pyIter_list hl ?_)
  refine ⟨s.heap.objs.size, [s.heap.objs.size, a], [s.heap.objs.size], its.toArray.size, _, _, fun i => (bs[i]?).getD true, rfl, Walks.list (A := X.A.in1) (I.ok.hd hc) _ a (Nat.ne_of_lt hlt) its.toArray,
    ⟨⟨_, Heap.get?_push_size _ rfl, rfl, rfl⟩, hl.push _⟩, fun i v s' Q' E' hP hQ => ?_, fun h' tk hk => ?_⟩
  · obtain ⟨b, e, rfl⟩ := hb.get i v (by simpa using hP)
    simp only [e, Option.getD_some] at hQ
    exact wpAny_truthy_bool hQ
  · have e : ((List.range its.toArray.size).all fun i => (bs[i]?).getD true) = bs.all id := by
      rw [List.size_toArray, hb.length]; exact LSm.range_all bs
    rw [e]
    exact ⟨.bl _, H, I.kept (LSm.kept_iter hk), rfl, q⟩
/-! ### a def with its promise, in one -/
def Pm (P : Program) (w : World) (K : PySem.W.Frag) (mg : Str → Option Value) (base : Heap) (CX : CXT) (k : Nat) (x : Str) (ps : List Str) (sp : Sp) : Prop :=
  ∃ (f : Addr) (fd : FuncData), mg x = some (.ref f) ∧ PySem.W.keepIn K (.ref f) = true ∧ Binds K fd ps [] ∧ FnOk P w K mg base CX k f fd ps sp
theorem pe_callP {X : Cx} {CX : CXT} {k : Nat} {x : Str} {ps : List Str} {sp : Sp} {E : XK} {p pos : Pos} {e : Expr} {es : List Expr} {t : TA} (h : Pm X.prog X.w X.K X.mg X.base CX k x ps sp) (hr : Room k X.A) (hg : Gl X x) (hx : Passes CX X E) (ha : PA X (e :: es) t)
    (hdb : (x == ("__debug__" : Str)) = false := by decide) (he : starEach (e :: es) X.env = (false, eval e X.env) :: starEach es X.env := by rfl) (hpl : (backTo pos (starEach es X.env)).any (·.1) = false := by rfl) :
    PE X (.Call (.Name x p) (e :: es) [] pos) (tCall sp [] E t) := by
  obtain ⟨f, fd, hm, hk, hb, F⟩ := h
  exact pe_call F hr hg hm hk hb .nil hx ha hdb he hpl
end L2
/-! EvQ: made by mkq.py. The rules over structures. -/
namespace L2
open PySem PySem.Spec PyProof.Rows
set_option autoImplicit true
set_option relaxedAutoImplicit true
structure QE (X : Cx) (e : Expr) (t : TE) : Prop where
  h : PE X e t
structure QT (X : Cx) (e : Expr) (t : TT) : Prop where
  h : PT X e t
structure QW (X : Cx) (e : Expr) (t : TT) : Prop where
  h : PW X e t
structure QA (X : Cx) (e : List Expr) (t : TA) : Prop where
  h : PA X e t
structure QS (X : Cx) (e : Stmt) (t : TS) : Prop where
  h : PS X e t
structure QSs (X : Cx) (e : List Stmt) (t : TS) : Prop where
  h : PSs X e t
structure QGs (X : Cx) (e : List Expr) (t : TGs) : Prop where
  h : PGs X e t
structure QG (X : Cx) (e : Expr) (t : TG) : Prop where
  h : PG X e t
structure QIf (X : Cx) (e : List Expr) (t : TT) : Prop where
  h : PIf X e t
structure QO (X : Cx) (e : Option Expr) (t : TO) : Prop where
  h : PO X e t
structure QI (X : Cx) (tg iter : Expr) (t : TI) : Prop where
  h : PI X tg iter t
theorem QW.pt {X : Cx} {e : Expr} {t : TT} (k : QW X e t) : QT X e t := ⟨k.h.pt⟩
theorem qe_int {i j pos} : QE X (.Constant (.int i) j pos) (tC (.int i)) := ⟨pe_int ⟩
theorem qe_bl {b j pos} : QE X (.Constant (.bool b) j pos) (tC (.bl b)) := ⟨pe_bl ⟩
theorem qe_non {j pos} : QE X (.Constant .none j pos) (tC .non) := ⟨pe_non ⟩
theorem qe_str {x j pos} : QE X (.Constant (.str x) j pos) (tC (.str x)) := ⟨pe_str ⟩
theorem qe_glob {x : Str} {v : V} {u : Value} {pos : Pos} (hg : Gl X x) (hm : X.mg x = some u) (r : RelV v u) (hd : (x == ("__debug__" : Str)) = false := by decide) : QE X (.Name x pos) (tC v) := ⟨pe_glob (hg) (hm) (r) (hd)⟩
theorem qe_bltn {x : Str} {v : V} {u : Value} {pos : Pos} (hg : Gl X x) (hm : X.mg x = none) (hv : bootBuiltins x = some u) (r : RelV v u) (hn : x ≠ "__name__" := by decide) (hd : (x == ("__debug__" : Str)) = false := by decide) : QE X (.Name x pos) (tC v) := ⟨pe_bltn (hg) (hm) (hv) (r) (hn) (hd)⟩
theorem qt_val {e : Expr} {t : TE} (h : QE X e t) (he : ∀ whole, isTrue e X.env whole = (do let v ← whole; standAt e.pos; holding [v] (truthy v)) := by intro _; rfl) : QT X e (tB t) := ⟨pt_val h.h (he)⟩
theorem qw_and1 (ha : QT X a tA) : QW X (.BoolOp .And [a] pos) tA := ⟨pw_and1 ha.h⟩
theorem qw_or1 (ha : QT X a tA) : QW X (.BoolOp .Or [a] pos) tA := ⟨pw_or1 ha.h⟩
theorem qw_and (ha : QT X a tA) (hb : QW X (.BoolOp .And (b :: restq) pos) tB') : QW X (.BoolOp .And (a :: b :: restq) pos) (tAnd tA tB') := ⟨pw_and ha.h hb.h⟩
theorem qw_or (ha : QT X a tA) (hb : QW X (.BoolOp .Or (b :: restq) pos) tB') : QW X (.BoolOp .Or (a :: b :: restq) pos) (tOr tA tB') := ⟨pw_or ha.h hb.h⟩
theorem qt_not (ha : QT X a tA) : QT X (.UnaryOp .Not a pos) (tNot tA) := ⟨pt_not ha.h⟩
theorem qe_one {op} {t : TE} (h : QE X a t) : QE X (.BoolOp op [a] pos) t := ⟨pe_one h.h⟩
theorem qe_and (ha : QE X a ta) (hb : QE X (.BoolOp .And (b :: restq) pos) tb) : QE X (.BoolOp .And (a :: b :: restq) pos) (tAndV ta tb) := ⟨pe_and ha.h hb.h⟩
theorem qe_not (ha : QE X a ta) : QE X (.UnaryOp .Not a pos) (tNotV ta) := ⟨pe_not ha.h⟩
theorem qss_nil  : QSs X [] tNext := ⟨pss_nil ⟩
theorem qss_cons (h1 : QS X stq t) (h2 : QSs X restq u) : QSs X (stq :: restq) (tSeq t u) := ⟨pss_cons h1.h h2.h⟩
theorem qss_one (h1 : QS X stq t) : QSs X [stq] t := ⟨pss_one h1.h⟩
theorem qs_expr (he : QE X e te) (hs : swapsWith e none pos.line X.env = pure false := by rfl) : QS X (.Expr e pos) (tDrop te) := ⟨ps_expr he.h (hs)⟩
theorem qs_ret (he : QE X e te) : QS X (.Return (some e) pos) (tRet te) := ⟨ps_ret he.h⟩
theorem qs_if {c : Expr} {a b : List Stmt} {tc : TT} (hc : QT X c tc) (ha : QSs X a t) (hb : QSs X b u) : QS X (.If c a b pos) (tIfS tc t u) := ⟨ps_if hc.h ha.h hb.h⟩
theorem qg_name {i : Nat} {x : Str} (hN : X.N.Nodup) (hiq : X.N[i]? = some x) (hx : Loc X.env.scope x) (hf : X.fn x = true ∨ X.env.scope.names.lookup x = some .local := by first | exact .inl rfl | exact .inr rfl | assumption) : QG X (.Name x pos) (gName i) := ⟨pg_name (hN) (hiq) (hx) (hf)⟩
theorem qgs_nil  : QGs X [] gNil := ⟨pgs_nil ⟩
theorem qgs_cons {e : Expr} {es : List Expr} {t : TG} {u : TGs} (h1 : QG X e t) (h2 : QGs X es u) (hs : (assignEach (e :: es) X.env).map (·.2) = assign e X.env :: (assignEach es X.env).map (·.2) := by rfl) : QGs X (e :: es) (gCons t u) := ⟨pgs_cons h1.h h2.h (hs)⟩
theorem qg_tup {es : List Expr} {k : Nat} {t : TGs} {n : Nat} (hc : X.calm = true) (h : QGs X es t) (hn : (assignEach es X.env).length = n := by rfl) (hst : (assignEach es X.env).findIdx? (·.1) = none := by rfl) : QG X (.Tuple es k pos) (gTup X.K n t) := ⟨pg_tup (hc) h.h (hn) (hst)⟩
theorem qs_asg {tg e : Expr} {te : TE} {g : TG} (he : QE X e te) (hg : QG X tg g) (hs : swapsWithSole [tg] e pos.line X.env = pure false := by rfl) (hw : swappedStores [tg] e X.env = pure none := by rfl) (h1 : (assignEach [tg] X.env).map (·.2) = [assign tg X.env] := by rfl) : QS X (.Assign [tg] e pos) (tAsg te g) := ⟨ps_asg he.h hg.h (hs) (hw) (h1)⟩
theorem qs_set {i : Nat} {x : Str} {e : Expr} {te : TE} {pos' : Pos} (hN : X.N.Nodup) (hiq : X.N[i]? = some x) (hx : Loc X.env.scope x) (he : QE X e te) (hs : swapsWith e (some (.Name x pos')) pos.line X.env = pure false := by rfl) (hf : X.fn x = true ∨ X.env.scope.names.lookup x = some .local := by first | exact .inl rfl | exact .inr rfl | assumption) : QS X (.Assign [.Name x pos'] e pos) (tAsg te (gName i)) := ⟨ps_set (hN) (hiq) (hx) he.h (hs) (hf)⟩
theorem qi_list {l : Expr} {tl : TE} (hl : QE X l tl) : QI X tg l (iList X.K tl) := ⟨pi_list hl.h⟩
theorem qi_tup {l : Expr} {tl : TE} (hl : QE X l tl) : QI X tg l (iTup X.K tl) := ⟨pi_tup hl.h⟩
theorem qi_range1 {a : Expr} {ta : TA} {p pos : Pos} (hg : Gl X "range") (hm : X.mg "range" = none) (ha : QA X [a] ta) (hs : starEach [a] X.env = [(false, eval a X.env)] := by rfl) : QI X tg (.Call (.Name "range" p) [a] [] pos) (iRng1 ta) := ⟨pi_range1 (hg) (hm) ha.h (hs)⟩
theorem qs_for {iter : Expr} {body : List Stmt} {wi : TI} {g : TG} {tb : TS} {pos : Pos} (hp : PassesOwn (model X.prog X.w) X.A X.env X.xe) (hc : X.calm = true) (hiq : QI X tg iter wi) (hg : QG X tg g) (hb : QSs X body tb) (hs : ∀ x, foldedSetIterable iter X.env x = pure x := by intro _; rfl) : QS X (.For tg iter body [] pos) (tFor wi g tb) := ⟨ps_for (hp) (hc) hiq.h hg.h hb.h (hs)⟩
theorem qe_op {op : Operator} {r : R2} (ho : OpR X (binaryOp op) r) (ha : QE X a ta) (hb : QE X b tb) : QE X (.BinOp a op b pos) (tOp r ta tb) := ⟨pe_op (ho) ha.h hb.h⟩
theorem qe_un {op : UnaryOp} {r : V → Hp → VK → Prop} (ho : UnR X (unaryOp op) r) (ha : QE X a ta) : QE X (.UnaryOp op a pos) (tUn r ta) := ⟨pe_un (ho) ha.h⟩
theorem qe_cmpR {op : CmpOp} {r : R2} (ho : OpR X (compareOp op) r) (ha : QE X a ta) (hb : QE X b tb) (hm : behindInMarks op b = false) : QE X (.Compare a [op] [b] pos) (tOp r ta tb) := ⟨pe_cmpR (ho) ha.h hb.h (hm)⟩
theorem qt_cmpR {op : CmpOp} {r : R2} (ho : OpR X (compareOp op) r) (ha : QE X a ta) (hb : QE X b tb) (hm : behindInMarks op b = false) : QT X (.Compare a [op] [b] pos) (tTest (tOp r ta tb)) := ⟨pt_cmpR (ho) ha.h hb.h (hm)⟩
theorem qe_chain {op op' : CmpOp} {r r' : R2} (ho : OpR X (compareOp op) r) (ho' : OpR X (compareOp op') r') (ha : QE X a ta) (hb : QE X b tb) (hc : QE X c tc) (hm : lastMarks [op, op'] [b, c] = false := by with_unfolding_all rfl) : QE X (.Compare a [op, op'] [b, c] pos) (tChain r r' ta tb tc) := ⟨pe_chain (ho) (ho') ha.h hb.h hc.h (hm)⟩
theorem qa_nil  : QA X [] tNil := ⟨pa_nil ⟩
theorem qe_tup {x1} (h : QA X es t) : QE X (.Tuple es x1 pos) (tTup t) := ⟨pe_tup h.h⟩
theorem qe_lst (h : QA X es t) : QE X (.List es pos) (tLst t) := ⟨pe_lst h.h⟩
theorem qe_callB (hc : CallR X (.builtin idq) r) (hg : Gl X x) (hm : X.mg x = none) (hv : bootBuiltins x = some (.builtin idq)) (ha : QA X (e :: es) t) (hn : x ≠ "__name__" := by decide) (hdb : (x == ("__debug__" : Str)) = false := by decide) (he : starEach (e :: es) X.env = (false, eval e X.env) :: starEach es X.env := by rfl) (hpl : (backTo pos (starEach es X.env)).any (·.1) = false := by rfl) : QE X (.Call (.Name x p) (e :: es) [] pos) (tCB r t) := ⟨pe_callB (hc) (hg) (hm) (hv) ha.h (hn) (hdb) (he) (hpl)⟩
theorem qe_callTy (hc : CallR X (.type T) r) (hg : Gl X x) (hm : X.mg x = none) (hv : bootBuiltins x = some (.type T)) (ha : QA X (e :: es) t) (hn : x ≠ "__name__" := by decide) (hdb : (x == ("__debug__" : Str)) = false := by decide) (he : starEach (e :: es) X.env = (false, eval e X.env) :: starEach es X.env := by rfl) (hpl : (backTo pos (starEach es X.env)).any (·.1) = false := by rfl) : QE X (.Call (.Name x p) (e :: es) [] pos) (tCB r t) := ⟨pe_callTy (hc) (hg) (hm) (hv) ha.h (hn) (hdb) (he) (hpl)⟩
theorem qo_none  : QO X none tNoPart := ⟨po_none ⟩
theorem qo_some (h : QE X e te) : QO X (some e) (tPart te) := ⟨po_some h.h⟩
theorem qe_slice {r : V → Option Int → Option Int → Hp → VK → Prop} (hr : SlR X r) (he : QE X e te) (hl : QO X loq tl) (hu : QO X hiq th) : QE X (.Subscript e (.Slice loq hiq none p2) pos) (tSl r te tl th) := ⟨pe_slice (hr) he.h hl.h hu.h⟩
theorem qe_ix {r : R2} (hr : IxR X r) (ha : QE X a ta) (hb : QE X b tb) (hs : PlainIx b) : QE X (.Subscript a b pos) (tOp r ta tb) := ⟨pe_ix (hr) ha.h hb.h (hs)⟩
theorem qe_bm (pa : PlainAttrs T) (slot : Slot T nameq idq) (hty : typeOf (.builtin idq) = pure (.type "method_descriptor")) (hm : MtR X idq r) (ho : QE X o to) (ha : QA X (e :: es) t) (hbase : attributeBase o nameq X.env (eval o X.env) = eval o X.env := by rfl) (hfew : ((backTo cpos (starEach (e :: es) X.env)).all (fun x => !x.1) && (backToKw cpos (keywordEach [] X.env)).all (fun x => x.1.isSome)
      && decide ((e :: es).length + ([] : List Keyword).length + (if ([] : List Keyword).isEmpty then 0 else 1) < 30)) = true := by rfl) (hline : (apos.endLine == cpos.line) = true := by rfl) (hs : starEach (e :: es) X.env = (false, eval e X.env) :: starEach es X.env := by rfl) (hplain : (backTo cpos (starEach es X.env)).any (·.1) = false := by rfl) : QE X (.Call (.Attribute o nameq apos) (e :: es) [] cpos) (tBM X.K T r to t) := ⟨pe_bm (pa) (slot) (hty) (hm) ho.h ha.h (hbase) (hfew) (hline) (hs) (hplain)⟩
theorem qv (i : Nat) {x : Str} {pos : Pos} (hN : X.N[i]? = some x := by rfl) (hv : Vis X.env.scope x := by first | exact Or.inl rfl | exact Or.inr (Or.inl rfl) | exact Or.inr (Or.inr rfl)) (hd : (x == ("__debug__" : Str)) = false := by decide) (hcd : (x == ("__classdict__" : Str)) = false := by decide) : QE X (.Name x pos) (tVar i) := ⟨pv (i) (hN) (hv) (hd) (hcd)⟩
theorem qs_raise {X : Cx} {E : XK} {x : Str} {C : Addr} {np cpos pos : Pos} {e : Expr} {es : List Expr} {t : TA} (hx : PySem.W.excIn X.K C bmVE newVE = true) (hg : Gl X x) (hm : X.mg x = some (.ref C)) (hc : X.calm = true) (hex : X.ex = []) (ha : QA (X.wish (XE X E)) (e :: es) t) (hdb : (x == ("__debug__" : Str)) = false := by decide) (he : starEach (e :: es) X.env = (false, eval e X.env) :: starEach es X.env := by rfl) (hpl : (backTo cpos (starEach es X.env)).any (·.1) = false := by rfl) : QS (X.wish (XE X E)) (.Raise (some (.Call (.Name x np) (e :: es) [] cpos)) none pos) (tRaise C E t) := ⟨ps_raise (hx) (hg) (hm) (hc) (hex) ha.h (hdb) (he) (hpl)⟩
theorem qe_dnewK {X : Cx} {pos : Pos} : QE X (.Dict [] [] pos) tDNewK := ⟨pe_dnewK ⟩
theorem qif_nil {X : Cx} : QIf X [] tYes := ⟨pif_nil ⟩
theorem qif_one {X : Cx} {c : Expr} {t : TT} (h : QT X c t) : QIf X [c] t := ⟨pif_one h.h⟩
theorem qe_callP {X : Cx} {CX : CXT} {k : Nat} {x : Str} {ps : List Str} {sp : Sp} {E : XK} {p pos : Pos} {e : Expr} {es : List Expr} {t : TA} (h : Pm X.prog X.w X.K X.mg X.base CX k x ps sp) (hr : Room k X.A) (hg : Gl X x) (hx : Passes CX X E) (ha : QA X (e :: es) t) (hdb : (x == ("__debug__" : Str)) = false := by decide) (he : starEach (e :: es) X.env = (false, eval e X.env) :: starEach es X.env := by rfl) (hpl : (backTo pos (starEach es X.env)).any (·.1) = false := by rfl) : QE X (.Call (.Name x p) (e :: es) [] pos) (tCall sp [] E t) := ⟨pe_callP (h) (hr) (hg) (hx) ha.h (hdb) (he) (hpl)⟩
/-- an argument, by a test that is small -/
def notStar : Expr → Bool
  | .Starred .. => false
  | _ => true
theorem starEach_cons {e : Expr} {es : List Expr} {env : Env} (h : notStar e = true) : starEach (e :: es) env = (false, eval e env) :: starEach es env := by
  cases e <;> first | rfl | cases h
theorem qac {X : Cx} {e : Expr} {es : List Expr} {te : TE} {t : TA} (ha : QE X e te) (hr : QA X es t) (hs : notStar e = true := by rfl) : QA X (e :: es) (tCons te t) := ⟨pa_cons ha.h hr.h (starEach_cons hs)⟩
theorem qe_comp {X : Cx} {elt tg iter : Expr} {ifs : List Expr} {scope : Scope} {pos : Pos} {N : List Str} {src : List (Option Nat)} {wi : TI} {g : TG} {tc : TT} {te : TE} (hc : X.calm = true) (S : CompScope X scope N src) (hi : QI X tg iter wi)
    (hg : ∀ s H cl C fp, QG (cxC X s H scope cl C N fp) tg g) (hf : ∀ s H cl C fp, QIf (cxC X s H scope cl C N fp) ifs tc) (he : ∀ s H cl C fp, QE (cxC X s H scope cl C N fp) elt te)
    (hs : ∀ x, foldedSetIterable iter X.env x = pure x := by intro _; rfl) : QE X (.ListComp elt [⟨tg, iter, ifs, 0⟩] scope pos) (tComp src wi g tc te) :=
  ⟨pe_comp hc S hi.h (fun s H cl C fp => (hg s H cl C fp).h) (fun s H cl C fp => (hf s H cl C fp).h) (fun s H cl C fp => (he s H cl C fp).h) hs⟩
theorem qs_setComp {X : Cx} {elt tg iter : Expr} {ifs : List Expr} {scope : Scope} {pos spos pos' : Pos} {x : Str} {i : Nat} {N : List Str} {src : List (Option Nat)} {wi : TI} {g : TG} {tc : TT} {te : TE} (hc : X.calm = true) (S : CompScope X scope N src) (hi : QI X tg iter wi)
    (hg : ∀ s H cl C fp, QG (cxC X s H scope cl C N fp) tg g) (hf : ∀ s H cl C fp, QIf (cxC X s H scope cl C N fp) ifs tc) (he : ∀ s H cl C fp, QE (cxC X s H scope cl C N fp) elt te) (ht : QG X (.Name x pos') (gName i))
    (hsw : swapsWith (.ListComp elt [⟨tg, iter, ifs, 0⟩] scope pos) (some (.Name x pos')) spos.line X.env = pure true := by rfl)
    (hs : ∀ x, foldedSetIterable iter X.env x = pure x := by intro _; rfl) : QS X (.Assign [.Name x pos'] (.ListComp elt [⟨tg, iter, ifs, 0⟩] scope pos) spos) (tAsg (tComp src wi g tc te) (gName i)) :=
  ⟨ps_setComp hc S hi.h (fun s H cl C fp => (hg s H cl C fp).h) (fun s H cl C fp => (hf s H cl C fp).h) (fun s H cl C fp => (he s H cl C fp).h) ht.h hsw hs⟩
theorem qss_never {X : Cx} {sts : List Stmt} : QSs X sts tNever := ⟨pss_never⟩
/-! ### defs -/
section
variable {P : Program} {w : World} {K : PySem.W.Frag} {mg : Str → Option Value} {base : Heap} {x qual : Str} {st : Stmt} {f : Addr} {fd : FuncData} {N ps : List Str} {k : Nat} {sp : Sp}
theorem Fun.okQ (F : Fun K x qual st f fd) (S : FnScope N ps (defScope st)) (len : ∀ vs H Q E, sp vs H Q E → vs.length = ps.length)
    (hbody : ∀ (cdv : Value) (A : Around) (outer : List Env) (s : Shared) (H : Hp) (vs : List V) (Q : VK) (E : XK), Room k (A.deeper (envOfC qual (defScope st) s.heap.objs.size f cdv)) → sp vs H Q E →
      ∃ t, QSs (cxOf CX0 P w K mg base N qual (defScope st) f cdv A outer s H E).nox (defBody st) t ∧ t { nx := fun _ H' => Q .non H', rt := Q } (start N vs) H) : FnOk P w K mg base CX0 (k + 1) f fd ps sp :=
  F.ok S len fun cdv A outer s H vs Q E hr h => let ⟨t, a, b⟩ := hbody cdv A outer s H vs Q E hr h; ⟨t, a.h, b⟩
theorem Fun.okXQ (F : Fun K x qual st f fd) (S : FnScope N ps (defScope st)) (len : ∀ vs H Q E, sp vs H Q E → vs.length = ps.length)
    (hbody : ∀ (cdv : Value) (A : Around) (outer : List Env) (s : Shared) (H : Hp) (vs : List V) (Q : VK) (E : XK), Room k (A.deeper (envOfC qual (defScope st) s.heap.objs.size f cdv)) → sp vs H Q E →
      ∃ t, QSs ((cxOf (CX1 P w) P w K mg base N qual (defScope st) f cdv A outer s H E).wish (XE (cxOf (CX1 P w) P w K mg base N qual (defScope st) f cdv A outer s H E) E)) (defBody st) t ∧ t { nx := fun _ H' => Q .non H', rt := Q } (start N vs) H) :
    FnOk P w K mg base (CX1 P w) (k + 1) f fd ps sp :=
  F.okX S len fun cdv A outer s H vs Q E hr h => let ⟨t, a, b⟩ := hbody cdv A outer s H vs Q E hr h; ⟨t, a.h, b⟩
end

end L2
/-! EvRange: range with a step. Behind EvQ. -/
namespace L2
open PySem PySem.Spec PyProof.Rows
section
variable {X : Cx} {tg : Expr}
end
theorem comp_rng {lo : Int} {n : Nat} {g : TG} {tc : TT} {te : TE} {σ' : St} {H : Hp} {G : Addr → Hp → List V → Prop} (Pv : Nat → List V → Hp → Prop) (h0 : Pv 0 [] H)
    (hs : ∀ i ys H (N : List V → Hp → Prop), i < n → Pv i ys H → (∀ ys' H', Pv (i + 1) ys' H' → N ys' H') → g (.int (lo + i)) σ' H fun σ2 H4 => Weak σ' σ2 ∧ tc σ2 H4 fun b H5 => if b = true then te σ2 H5 fun y H6 => ys.length < sizeLine ∧ N (ys ++ [y]) H6 else N ys H5)
    (hd : ∀ ys H, Pv n ys H → ys.length ≤ sizeLine ∧ ∀ p, H p = none → G p H ys) :
    ∃ W : Nat → Nat → List V → Hp → Prop, (∃ m, W 0 m [] H) ∧ ∀ i m ys H2, W i m ys H2 →
      ((Itr lo n).stop i H2 ∧ ys.length ≤ sizeLine ∧ ∀ p, H2 p = none → G p H2 ys) ∨
      ((Itr lo n).go i H2 ∧ ∀ x H3, (Itr lo n).yld i H2 x H3 → g x σ' H3 fun σ2 H4 => Weak σ' σ2 ∧ tc σ2 H4 fun b H5 =>
        if b = true then te σ2 H5 fun y H6 => ys.length < sizeLine ∧ ∃ m', m' < m ∧ W (i + 1) m' (ys ++ [y]) H6 else ∃ m', m' < m ∧ W (i + 1) m' ys H5) := by
  refine ⟨fun i m ys H => m = n - i ∧ i ≤ n ∧ Pv i ys H, ⟨n, rfl, Nat.zero_le _, h0⟩, ?_⟩
  rintro i m ys H2 ⟨rfl, hi, p⟩
  by_cases hlt : i < n
  · refine .inr ⟨hlt, fun x H' y => ?_⟩
    obtain ⟨e, rfl⟩ := y
    subst e
    exact hs i ys _ (fun ys' H'' => ∃ m', m' < n - i ∧ m' = n - (i + 1) ∧ i + 1 ≤ n ∧ Pv (i + 1) ys' H'') hlt p (fun ys' H'' p' => ⟨_, by omega, rfl, hlt, p'⟩)
  · have e : i = n := by omega
    subst e
    exact .inl ⟨Nat.le_refl _, hd ys H2 p⟩
end L2
/-! EvMath: the mathematics of primes, by naturals; core alone. -/
namespace EM
/-! ### lists of primes with how often -/
/-! ### plain parts -/
/-! ### roots -/
end EM
/-! EvEuler: Fermat and Euler for a prime, by naturals and ints; core alone. Behind EvMath. -/
namespace EM
/-! ### lists without repeats -/
/-! ### roots of a sum of powers, the highest one once -/
/-! ### Euler -/
/-! ### rests of squares -/
/-! ### powers by squaring -/
/-! ### small primes by looking -/
/-! ### plain parts are told in one way -/
/-! ### what shuts a form -/
/-! ### the plain part by looking -/
/-! ### odd primes by looking -/
end EM
/-! EvBase: what every row of stage 1 shares; no row is named here. Behind EvTry, EvMath. -/
namespace E1
open PySem L2
/-! ### whole numbers by their kinds -/
inductive WholeIs (K : PySem.W.Frag) (H : Hp) : V → Bool → Prop where
  | int (i : Int) : WholeIs K H (.int i) true
  | bl (x : Bool) : WholeIs K H (.bl x) false
  | odd {v : V} {T : String} (ty : TyOf K H v (.type T)) (k : PySem.W.kitOne K (.type T) (.type "int") = some false) : WholeIs K H v false
theorem ty_same {K : PySem.W.Frag} {H H' : Hp} {v : V} {T : String} (s : Same H H') (ty : TyOf K H v (.type T)) : TyOf K H' v (.type T) := by
  cases ty with
  | non => exact .non
  | bl x => exact .bl x
  | int i => exact .int i
  | str x => exact .str x
  | flt x => exact .flt x
  | lst e => exact .lst (s _ _ e)
  | frz e => exact .frz (s _ _ e)
  | tup e => exact .tup (s _ _ e)
  | dK e => exact .dK (s _ _ e)
  | dT e => exact .dT (s _ _ e)
theorem WholeIs.same {K : PySem.W.Frag} {H H' : Hp} {v : V} {b : Bool} (s : Same H H') (h : WholeIs K H v b) : WholeIs K H' v b := by
  cases h with
  | int i => exact .int i
  | bl x => exact .bl x
  | odd ty k => exact .odd (ty_same s ty) k
section
variable (K : PySem.W.Frag)
theorem kit_int_int : PySem.W.kitOne K (.type "int") (.type "int") = some true := by kernel_rfl
theorem kit_int_bool : PySem.W.kitOne K (.type "int") (.type "bool") = some false := by kernel_rfl
theorem kit_bool_int : PySem.W.kitOne K (.type "bool") (.type "int") = some true := by kernel_rfl
theorem kit_bool_bool : PySem.W.kitOne K (.type "bool") (.type "bool") = some true := by kernel_rfl
theorem kit_none_int : PySem.W.kitOne K (.type "NoneType") (.type "int") = some false := by kernel_rfl
theorem kit_str_int : PySem.W.kitOne K (.type "str") (.type "int") = some false := by kernel_rfl
theorem kit_lst_int : PySem.W.kitOne K (.type "list") (.type "int") = some false := by kernel_rfl
end
theorem rel_ty {n : String} {K : PySem.W.Frag} {t : Value} {b : Bool} (h : PySem.W.kitOne K t (.type n) = some b) : ∀ u, RelV (.ty n) u → PySem.W.kitOne K t u = some b := fun u r => by
  cases (show u = Value.type n from r)
  exact h
theorem rel_ref {c : Addr} {K : PySem.W.Frag} {t : Value} {b : Bool} (h : PySem.W.kitOne K t (.ref c) = some b) : ∀ u, RelV (.ref c) u → PySem.W.kitOne K t u = some b := fun u r => by
  cases (show u = Value.ref c from r)
  exact h
/-! ### the promises -/
def spWhole (K : PySem.W.Frag) : Sp := fun vs H Q _ => ∃ v b, vs = [v] ∧ WholeIs K H v b ∧ Q (.bl b) H
theorem same_new {q : Addr} {H : Hp} {o : HO} (n : H q = none) : Same H (upd H q o) := fun b u h => by rw [upd_ne (ne_of_none h n)]; exact h
theorem abs_nn (i : Int) : 0 ≤ (if i < 0 then -i else i) := by split <;> omega
theorem cut_ints {ns : List Int} {lo hi : Option Int} : ∀ x ∈ cutV (ns.map V.int) lo hi, ∃ z, x = V.int z := fun x hx => by
  unfold cutV at hx
  obtain ⟨z, _, e⟩ := List.mem_map.mp (List.mem_of_mem_drop (List.mem_of_mem_take hx))
  exact ⟨z, e.symm⟩
/-! ### primes as tuples in a list -/
theorem same_upd {H H' : Hp} {l : Addr} {o : HO} (s : Same H H') (hl : H l = none) : Same H (upd H' l o) := fun b u e => by
  rw [upd_ne (ne_of_none e hl)]
  exact s _ _ e
/-! ### primes as data -/
/-! ### forms -/
/-! ### a law's loop over its cells -/
theorem fn_mk {K : PySem.W.Frag} {x : Str} {st : Stmt} {f : Addr} {oc : Value} {od an : Option Addr} {osl : Array (Option Value)} {kV doc pm cdv ct : Value}
    (a : PySem.W.nsIn K mainGlobals x = some (some (.ref f)))
    (l : K.lookup f = some ⟨oc, od, .func (PySem.W.fnOf x x (defArgs st) (defBody st) (defScope st) .none kV doc pm an cdv ct), osl⟩)
    (c : PySem.W.codeIn K cdv x = true) (k : PySem.W.keepIn K (.ref f) = true) :
    ∃ (f : Addr) (fd : FuncData), PySem.W.nsIn K mainGlobals x = some (some (.ref f)) ∧ Fun K x x st f fd := ⟨f, _, a, fun_mk l c k⟩
def spLaw (K : PySem.W.Frag) : Sp := fun vs H Q _ => ∃ (a : Addr) (ns : List Int), vs = [.ref a] ∧ SqL K H a (ns.map V.int) ∧ ns.length ≤ 63 ∧ ∀ H', Q (.bl true) H'
theorem walk {l : PySem.W.OpenLaw} {q : Program} {loose : List Str} {XP : (Str → Option Value) → Heap → Prop} {YP : World → Heap → Prop} {d : DefRec} {K : Params → PySem.W.Frag} {k : Nat} (hr : Room k PySem.callerA) (hn : l.most = some 63) (hdf : d.params.defaults = [])
    (hY : ∀ (w : World) (h : Heap), YP w h → (K w.params).In h)
    (F : ∀ (w : World) (mg : Str → Option Value) (fa : Addr) (h : Heap), (K w.params).In h → h.Ns mainGlobals mg → mg d.name = some (.ref fa) →
      ∃ fd : FuncData, (∀ (s : Shared) (u : Value), BindsTo s fd ⟨[u], []⟩ [("_law_script", u)]) ∧ ∀ base : Heap, (K w.params).In base → base.Ns mainGlobals mg → FnOk l.prog w (K w.params) mg base CX0 k fa fd ["_law_script"] (spLaw (K w.params))) :
    PySem.W.WalkO q loose XP YP l.row.toRowW d [] (fun f vs => PySem.call f vs) :=
  L2.walk_of (n := 63) (k := k) (x := "_law_script") (CX := fun _ => CX0) (sp := fun w => spLaw (K w.params)) hn (by decide) hdf hr hY F (fun _ _ a ns hl _ hS => ⟨a, ns, rfl, hS, hl, fun _ => rfl⟩) fun _ _ _ _ _ z => z
abbrev At (K : PySem.W.Frag) (x : Str) (st : Stmt) : Prop := ∃ (f : Addr) (fd : FuncData), PySem.W.nsIn K mainGlobals x = some (some (.ref f)) ∧ Fun K x x st f fd

end E1
/-! EvLay: rules for sorted numbers, sets of numbers, lists taken so often, turned about, made of a range. Behind EvRange. -/
namespace L2
open PySem PySem.Spec PyProof.Rows
theorem ints_of_vals {ns : List Int} {us : List Value} (r : Vals (ns.map V.int) us) : IntsAre us ns := intsAre_of r
theorem vals_of_ints : ∀ {ns : List Int} {us : List Value}, IntsAre us ns → Vals (ns.map V.int) us
  | _, _, .nil => .nil
  | _, _, .cons n tk t => .cons ⟨tk, rfl⟩ (vals_of_ints t)
/-- sorted(list of numbers) -/
def rSortI (K : PySem.W.Frag) : List V → Hp → VK → Prop := fun xs H Q => ∃ (a : Addr) (ns : List Int), xs = [.ref a] ∧ SqL K H a (ns.map V.int) ∧ ns.length < 64 ∧ ∀ (l : Addr) (ns' : List Int), H l = none → ns'.Perm ns → ns'.Pairwise (· ≤ ·) → Q (.ref l) (upd H l (.lst (ns'.map V.int)))
theorem call_sortI {X : Cx} : CallR X (.builtin "sorted") (rSortI X.K) := by
  intro pins s σ H xs us Q I r h
  obtain ⟨a, ns, rfl, hq, h64, q⟩ := h
  obtain ⟨u, rfl, rx⟩ := vals1 r
  cases rx
  obtain ⟨its, r', pl, hz⟩ := I.list hq
  have hlen := r'.length
  rw [List.length_map] at hlen
  refine sorted_ints pl.isList (ints_of_vals r') (by omega) fun out ns' a1 a2 a3 => ?_
  obtain ⟨e, he⟩ := sortedAll_at s.heap its out
  have hl2 := a2.length_eq
  refine ⟨.ref (s.heap.objs.size + 1), _, I.laid (t' := s.toks) (o := .lst (ns'.map V.int)) (fun b o => sortedAll_old) (Nat.le_succ _) ?_, rfl, q _ _ (I.hok.fresh (Nat.le_succ _)) a2 a3⟩
  refine ⟨by rw [List.length_map, hl2]; exact Nat.le_trans (Nat.le_of_lt h64) (by decide), out.toList, e, vals_of_ints a1, ?_⟩
  rw [Array.toArray_toList]
  exact he
theorem firstMet_nodup {ns : List Int} (h : ns.Nodup) : ∀ i, i ≤ ns.length → firstMet (fun i => ns.getD i 0) i = ns.take i
  | 0, _ => by rw [firstMet_zero, List.take_zero]
  | i + 1, hi => by
    have hlt : i < ns.length := hi
    have ev : ns.getD i 0 = ns[i] := by simp [hlt]
    rw [firstMet_succ, firstMet_nodup h i (Nat.le_of_lt hlt)]
    show step_dedup (ns.take i) (ns.getD i 0) = _
    rw [ev]
    unfold step_dedup
    rw [if_neg]
    · rw [List.take_add_one, List.getElem?_eq_getElem hlt]
      rfl
    · intro z
      obtain ⟨x, hx, e⟩ := List.any_eq_true.mp z
      have e' : x = ns[i] := by simpa using e
      subst e'
      obtain ⟨j, hj, ej⟩ := List.mem_iff_getElem.mp hx
      rw [List.length_take] at hj
      rw [List.getElem_take] at ej
      have := (List.getElem_inj h).mp ej
      omega
theorem firstMet_len_iff {ns : List Int} : (firstMet (fun i => ns.getD i 0) ns.length).length = ns.length ↔ ns.Nodup := by
  constructor
  · intro h
    have key : ∀ i, i ≤ ns.length → ((firstMet (fun i => ns.getD i 0) i).length = i → (ns.take i).Nodup ∧ firstMet (fun i => ns.getD i 0) i = ns.take i) := by
      intro i
      induction i with
      | zero => intro _ _; exact ⟨by simp, by rw [firstMet_zero, List.take_zero]⟩
      | succ i ih =>
        intro hi hl
        have hlt : i < ns.length := hi
        have ev : ns.getD i 0 = ns[i] := by simp [hlt]
        rw [firstMet_succ] at hl ⊢
        have hle := firstMet_length_le (fun i => ns.getD i 0) i
        unfold step_dedup at hl ⊢
        by_cases z : (firstMet (fun i => ns.getD i 0) i).any (· == (fun i => ns.getD i 0) i) = true
        · rw [if_pos z] at hl
          omega
        · rw [if_neg z] at hl ⊢
          rw [List.length_append, List.length_singleton] at hl
          obtain ⟨h1, h2⟩ := ih (Nat.le_of_lt hlt) (by omega)
          have et : ns.take (i + 1) = ns.take i ++ [ns[i]] := by rw [List.take_add_one, List.getElem?_eq_getElem hlt]; rfl
          rw [et]
          refine ⟨?_, by rw [h2]; show _ ++ [ns.getD i 0] = _; rw [ev]⟩
          rw [List.nodup_append]
          refine ⟨h1, by simp, fun a ha b hb e => z ?_⟩
          rw [List.mem_singleton.mp hb] at e
          rw [List.any_eq_true]
          exact ⟨a, h2 ▸ ha, by show (a == ns.getD i 0) = true; rw [ev, e]; simp⟩
    have := (key ns.length (Nat.le_refl _) h).1
    rwa [List.take_length] at this
  · intro h
    rw [firstMet_nodup h _ (Nat.le_refl _), List.take_length]
/-- set(list of numbers): its size -/
def rSetI (K : PySem.W.Frag) : List V → Hp → VK → Prop := fun xs H Q => ∃ (a : Addr) (ns : List Int), xs = [.ref a] ∧ SqL K H a (ns.map V.int) ∧ ns.length ≤ 1000 ∧ ∀ (l : Addr) (S : Int → Bool) (n : Nat), H l = none → (n = ns.length ↔ ns.Nodup) → Q (.ref l) (upd H l (.set S n))
theorem call_setI {X : Cx} (hc : X.calm = true) : CallR X (.type "set") (rSetI X.K) := by
  intro pins s σ H xs us Q I r h
  obtain ⟨a, ns, rfl, hq, h64, q⟩ := h
  obtain ⟨u, rfl, rx⟩ := vals1 r
  cases rx
  obtain ⟨its, r', pl, hz⟩ := I.list hq
  have hlen := r'.length
  rw [List.length_map] at hlen
  refine call_set_list (ns := ns) (I.ok.hd hc) pl.isList (by simpa using ints_of_vals r') (by rw [List.size_toArray, ← hlen]; exact Nat.lt_of_le_of_lt (Nat.succ_le_succ h64) (by decide)) fun h' tk hS kp => ?_
  refine ⟨.ref s.heap.objs.size, _, I.laid (t' := tk) (fun b o e => kp b o (Heap.lt_size e) e) (Nat.le_refl _) (show ObjOk X.prog X.w _ h' _ (.set _ _) from hS), rfl, q _ _ _ (I.hok.fresh (Nat.le_refl _)) ?_⟩
  rw [List.size_toArray, ← hlen]
  exact firstMet_len_iff
theorem call_len_setI {X : Cx} : CallR X (.builtin "len") (fun xs H Q => ∃ (p : Addr) (S : Int → Bool) (n : Nat), xs = [.ref p] ∧ H p = some (.set S n) ∧ Q (.int n) H) := by
  intro pins s σ H xs us Q I r h
  obtain ⟨p, S, n, rfl, hp, q⟩ := h
  obtain ⟨u, rfl, rx⟩ := vals1 r
  cases rx
  obtain ⟨o, es, ep, t, ho, hex, hd, _, _, hb, hf, rfl⟩ := (show s.heap.SetOf (intKind X.prog X.w) p S n from I.hok p _ hp)
  refine call_len_set ho hex hd hf ?_ ⟨.int es.size, H, I.tok _, ⟨_, rfl⟩, q⟩
  have : es.size < 4096 := hb
  omega
/-- a[::-1] -/
def rRev (K : PySem.W.Frag) : V → Hp → VK → Prop := fun x H Q => ∃ (a : Addr) (xs : List V), x = .ref a ∧ SqL K H a xs ∧ ∀ l, H l = none → Q (.ref l) (upd H l (.lst xs.reverse))
def tRev (K : PySem.W.Frag) (te : TE) : TE := fun σ H Q => te σ H fun x H1 => rRev K x H1 Q
theorem vals_rev : ∀ {xs : List V} {us : List Value}, Vals xs us → Vals xs.reverse us.reverse
  | _, _, .nil => .nil
  | _, _, .cons h t => by
    rw [List.reverse_cons, List.reverse_cons]
    exact (vals_rev t).append (.cons h .nil)
theorem pe_rev {X : Cx} {e : Expr} {te : TE} {j : Nat} {p1 p2 p3 pos : Pos} (he : PE X e te) : PE X (.Subscript e (.Slice none none (some (.UnaryOp .USub (.Constant (.int 1) j p1) p2)) p3) pos) (tRev X.K te) := by
  intro pins s σ H Q I h
  refine Subscript_ (thn (he pins s σ H _ I h) fun v s1 ⟨x, H1, I1, r1, q1⟩ => ?_)
  obtain ⟨a, xs, rfl, hx, q⟩ := q1
  cases r1
  refine wpAny_Slice ?_
  rw [evalPart_none]
  refine wpAny_pure ?_
  refine wpAny_pure ?_
  rw [evalPart_some]
  refine thn (pe_un un_neg pe_int pins s1 σ H1 (fun x H' => x = .int (-1) ∧ H' = H1) I1 ⟨1, rfl, rfl, rfl⟩) fun vk s3 ⟨x3, H3, I3, r3, e3, e4⟩ => ?_
  subst e3 e4
  obtain ⟨tk, rfl⟩ := r3
  have I4 : Inv X pins σ H3 { s3 with heap := s3.heap.push { cls := .type "slice", data := .fields #[.none, .none, .int (-1) tk] } } := I3.kept (t' := s3.toks) fun b ob q => Heap.get?_push_of_some _ q
  obtain ⟨its, r, ht, hz⟩ := I4.list hx
  have hlen := r.length
  show wpAny (model X.prog X.w) X.A (subscriptTail e (.Slice none none (some (.UnaryOp .USub (.Constant (.int 1) j p1) p2)) p3) (.ref a) (.ref s3.heap.objs.size)) (EP X pins σ Q) X.xe { s3 with heap := s3.heap.push { cls := .type "slice", data := .fields #[.none, .none, .int (-1) tk] } }
  refine tail_any (ops := [.ref a, .ref s3.heap.objs.size]) ht.isList.typeIs slot_list_getitem.lookup ?_ (by with_unfolding_all rfl)
  refine wpAny_getItem_list_slice ht.isList (Heap.IsSliceOf.new ..) .none .none (.int (-1) tk) (by simp) ?_ (by rw [List.size_toArray] <;> omega)
  rw [PySem.W.krv_pick, List.toList_toArray]
  exact ⟨.ref _, _, I4.laid (t' := s3.toks) (o := .lst xs.reverse) (fun b ob q => Heap.get?_push_of_some _ q) (Nat.le_refl _) ⟨by rw [List.length_reverse]; exact hz, its.reverse, 0, vals_rev r, Heap.get?_push_size _ rfl⟩, rfl, q _ (I4.hok.fresh (Nat.le_refl _))⟩
theorem qe_rev {X : Cx} {e : Expr} {te : TE} {j : Nat} {p1 p2 p3 pos : Pos} (he : QE X e te) : QE X (.Subscript e (.Slice none none (some (.UnaryOp .USub (.Constant (.int 1) j p1) p2)) p3) pos) (tRev X.K te) := ⟨pe_rev he.h⟩
/-! ### enumerate(list) -/
theorem Inv.turnedL {X : Cx} {pins : List (Addr × Obj)} {σ : St} {H : Hp} {s : Shared} {h' : Heap} {t' : Nat} {wr : List Addr} (I : Inv X pins σ H s) (k : ∀ b o, b ∉ wr → s.heap.get? b = some o → h'.get? b = some o) (hf : ∀ b ∈ wr, FpOk X pins H b) : Inv X pins σ H { s with heap := h', toks := t' } := by
  have nit : ∀ b u, H b = some u → b ∉ wr := fun b u e z => by rw [(hf b z).1] at e; cases e
  refine I.step (g' := s.gens) (d' := s.drawn) (ch := wr) (fun b hb => ?_) (fun b o _ _ hc e _ => k b o hc e) (fun b o _ _ hc e _ => ⟨o.slots, k b o hc e⟩) (fun _ _ _ _ n => n) (fun b o hc e => ⟨o, k b o hc e⟩) (fun _ _ e => e) (fun _ _ _ e => e) (fun b ps e => ⟨#[], by rw [e]; simp⟩) (fun m hm => ?_) (fun b u e => ?_) I.bare
  · obtain ⟨_, f1, _, f3, f4, f5⟩ := hf b hb
    exact ⟨f3, f1, f4, f5⟩
  · obtain ⟨o, es, ep, ho, r⟩ := hm
    exact ⟨o, es, ep, k _ o (fun z => (hf _ z).2.1 rfl) ho, r⟩
  · refine (I.hok b u e).stay (fun c v hc q => k c v ?_ q) (fun _ q => q) fun _ _ q => q
    rcases hc with z | z
    · exact z ▸ nit b u e
    · exact nit c _ z
/-- the pairs (number, item) of a list -/
def Ite (K : PySem.W.Frag) (a : Addr) : It :=
  ⟨fun i H => ∃ xs x, SqL K H a xs ∧ xs[i]? = some x, fun i H v H' => ∃ T x, (∀ xs, SqL K H a xs → xs[i]? = some x) ∧ H T = none ∧ v = .ref T ∧ H' = upd H T (.tup [.int (i : Nat), x]), fun i H => ∃ xs, SqL K H a xs ∧ xs.length ≤ i⟩
theorem Inv.tracked {X : Cx} {pins : List (Addr × Obj)} {σ : St} {H : Hp} {s s' : Shared} {T : Addr} {o : HO} (I0 : Inv X pins σ H s) (I : Inv X pins σ H s') (hT : s.heap.objs.size ≤ T) (new : ObjOk X.prog X.w (upd H T o) s'.heap T o) : Inv X pins σ (upd H T o) s' := by
  obtain ⟨f0, f1, f2, f3, f4, f5⟩ := I0.fpOk (H' := H) hT (I0.hok.fresh hT)
  refine I.track f0 ?_ f1 f4 f5 new
  cases e : X.s₀.heap.get? T with
  | none => rfl
  | some ob => exact absurd (Nat.lt_of_lt_of_le (Heap.lt_size e) (Nat.le_trans I0.sz hT)) (Nat.lt_irrefl _)
theorem turn_enum {P : Program} {w : World} {K : PySem.W.Frag} {elts : List Expr} {k : Nat} {tp : Pos} (l e it : Addr) (hei : e ≠ it) : Turn P w K (.Tuple elts k tp) (Ite K l) [e, it] e (fun i h => (∃ old, IsEnum h e it ((i : Nat) : Int) old) ∧ h.IsListIter it l i) where
  mem := by simp
  obj := fun i h st b hb => by
    obtain ⟨⟨old, he⟩, o, ho, hc, hd⟩ := st
    simp only [List.mem_cons, List.not_mem_nil, or_false] at hb
    rcases hb with rfl | rfl
    · exact ⟨_, he, fun v z => by cases z⟩
    · exact ⟨o, ho, fun v z => by rw [hd] at z; cases z⟩
  keep := fun i h h' st kp => ⟨⟨_, kp e (by simp) _ st.1.choose_spec⟩, st.2.at fun o q => kp it (by simp) o q⟩
  item := by
    intro X hP hw hK hc i pins s σ H E I hf st hg
    subst hP hw hK
    obtain ⟨xs, x, hq, hx⟩ := hg
    obtain ⟨its, rv, p, hz⟩ := I.list hq
    obtain ⟨u, hu, ru⟩ := rv.get hx
    obtain ⟨⟨old, he⟩, hit⟩ := st
    have hlt : ∀ b ∈ [e, it], b ≠ s.heap.objs.size := fun b hb z => by
      simp only [List.mem_cons, List.not_mem_nil, or_false] at hb
      rcases hb with rfl | rfl
      · exact absurd (z ▸ Heap.lt_size he) (Nat.lt_irrefl _)
      · obtain ⟨_, ho, _⟩ := hit
        exact absurd (z ▸ Heap.lt_size ho) (Nat.lt_irrefl _)
    have fr : H s.heap.objs.size = none := I.hok.fresh (Nat.le_refl _)
    refine wpAny_pyNext_enum_item he hit p.isList (x := u) (by simpa using hu) hei fun h' ho hit' hT hsz hk => ?_
    have I1 : Inv X pins σ H { s with heap := h', toks := s.toks + 1 } := I.turnedL (wr := [e, it]) (fun b o hb q => hk b o (fun z => hb (by simp [z])) (fun z => hb (by simp [z])) q) hf
    have I2 : Inv X pins σ (upd H s.heap.objs.size (.tup [.int (i : Nat), x])) { s with heap := h', toks := s.toks + 1 } := I.tracked I1 (Nat.le_refl _) ⟨by show 2 ≤ sizeLine; decide, [.int i s.toks, u], .cons ⟨_, rfl⟩ (.cons ru .nil), ⟨_, hT, rfl, _, rfl⟩⟩
    have hf2 : ∀ b ∈ [e, it], FpOk X pins (upd H s.heap.objs.size (.tup [.int (i : Nat), x])) b := fun b hb => by
      obtain ⟨f0, f1, f2, f3, f4, f5⟩ := hf b hb
      exact ⟨by rw [upd_ne (hlt b hb)]; exact f0, f1, f2, f3, f4, f5⟩
    refine ⟨_, rfl, wpAny_letOwnedTupleGo_enum ho fun h'' he' hs' => ?_⟩
    refine ⟨.ref s.heap.objs.size, _, I2.turnedL (wr := [e]) (t' := s.toks + 1) (fun b o hb q => (hs'.2 b (fun z => hb (by simp [z]))).trans q) (fun b hb => hf2 b (by rw [List.mem_singleton.mp hb]; simp)), rfl, ⟨_, x, fun ys hy => by rw [I.list_inj hy hq]; exact hx, fr, rfl, rfl⟩, ⟨⟨_, by simpa using he'⟩, hit'.at fun o q => (hs'.2 it hei.symm).trans q⟩, fun b hb => (hf2 b hb).1⟩
  done := by
    intro X hP hw hK hc i pins s σ H E I hf st hg
    subst hP hw hK
    obtain ⟨xs, hq, hx⟩ := hg
    obtain ⟨its, rv, p, hz⟩ := I.list hq
    have hl := rv.length
    obtain ⟨⟨old, he⟩, hit⟩ := st
    exact wpAny_pyNext_enum_end (I.ok.hd hc) he hit p.isList (by simp; omega) fun h' eb => ⟨rfl, I.turnedL (wr := [it]) (t' := s.toks) (fun b o hb q => eb b o (fun z => hb (by simp [z])) q) (fun b hb => hf b (by rw [List.mem_singleton.mp hb]; simp))⟩
  self := fun _ _ _ _ _ st h => wpAny_pyIter_enum st.1.choose_spec h
section
variable {X : Cx} {elts : List Expr} {k : Nat} {tp : Pos}
def iEnum (K : PySem.W.Frag) (ta : TA) : TI := fun σ H R => ta σ H fun vs H1 => ∃ a, vs = [.ref a] ∧ (∃ xs, SqL K H1 a xs) ∧ R (Ite K a) H1
theorem pi_enum {a : Expr} {ta : TA} {p pos : Pos} (hg : Gl X "enumerate") (hm : X.mg "enumerate" = none) (ha : PA X [a] ta) (hs : starEach [a] X.env = [(false, eval a X.env)] := by rfl) : PI X (.Tuple elts k tp) (.Call (.Name "enumerate" p) [a] [] pos) (iEnum X.K ta) := by
  intro pins s σ H R I h
  refine Call_ (ld_blt I hg hm (show bootBuiltins "enumerate" = some (.type "enumerate") by decide +kernel) (PyProof.Rows.callWith_type1 (thn (ha pos pins s σ H _ I h) fun us s1 ⟨vs, H1, I1, r1, q1⟩ => ?_) (by rw [hs]; rfl) (by rfl)))
  obtain ⟨a, e, ⟨xs, hq⟩, q⟩ := q1
  subst e
  obtain ⟨u, rfl, rx⟩ := vals1 r1
  cases rx
  obtain ⟨its, rv, pl, hz⟩ := I1.list hq
  refine call_enumerate_list pl.isList fun h' he hit hsz kp => ?_
  have I2 : Inv X pins σ H1 { s1 with heap := h' } := I1.kept (t' := s1.toks) kp
  refine wpAny_pyIter_enum he ?_
  refine ⟨s1.heap.objs.size + 1, [s1.heap.objs.size + 1, s1.heap.objs.size], _, _, H1, rfl, I2, turn_enum a _ _ (Nat.succ_ne_self _), ⟨⟨_, he⟩, hit⟩, fun b hb => ?_, q⟩
  simp only [List.mem_cons, List.not_mem_nil, or_false] at hb
  rcases hb with rfl | rfl
  · exact I1.fpOk (Nat.le_succ _) (I1.hok.fresh (Nat.le_succ _))
  · exact I1.fpOk (Nat.le_refl _) (I1.hok.fresh (Nat.le_refl _))
theorem qi_enum {a : Expr} {ta : TA} {p pos : Pos} (hg : Gl X "enumerate") (hm : X.mg "enumerate" = none) (ha : QA X [a] ta) (hs : starEach [a] X.env = [(false, eval a X.env)] := by rfl) : QI X (.Tuple elts k tp) (.Call (.Name "enumerate" p) [a] [] pos) (iEnum X.K ta) := ⟨pi_enum hg hm ha.h hs⟩
end
theorem for_enum {K : PySem.W.Frag} {a : Addr} {xs : List V} {g : TG} {tb : TS} {D : Ends} {σ : St} {H : Hp} (Pv : Nat → St → Hp → Prop) (h0 : Pv 0 σ H) (hl : ∀ i σ H, i ≤ xs.length → Pv i σ H → SqL K H a xs)
    (hs : ∀ i x T σ H, xs[i]? = some x → Pv i σ H → H T = none → g (.ref T) σ (upd H T (.tup [.int (i : Nat), x])) fun σ2 H2 => tb { D with nx := Pv (i + 1), ct := Pv (i + 1), bk := D.nx } σ2 H2) (hd : ∀ σ H, Pv xs.length σ H → D.nx σ H) :
    ∃ W : Nat → Nat → St → Hp → Prop, (∃ m, W 0 m σ H) ∧ ∀ i m σ H, W i m σ H →
      ((Ite K a).stop i H ∧ D.nx σ H) ∨ ((Ite K a).go i H ∧ ∃ N : St → Hp → Prop, (∀ σ' H', N σ' H' → ∃ m', m' < m ∧ W (i + 1) m' σ' H') ∧ ∀ x H', (Ite K a).yld i H x H' → g x σ H' fun σ2 H2 => tb { D with nx := N, ct := N, bk := D.nx } σ2 H2) := by
  refine ⟨fun i m σ H => m = xs.length - i ∧ i ≤ xs.length ∧ Pv i σ H, ⟨xs.length, by simp, Nat.zero_le _, h0⟩, ?_⟩
  rintro i m σ H ⟨rfl, hi, p⟩
  have q := hl i σ H hi p
  by_cases hlt : i < xs.length
  · refine .inr ⟨⟨xs, xs[i], q, by simp [hlt]⟩, Pv (i + 1), fun σ' H' p' => ⟨xs.length - (i + 1), by omega, rfl, hlt, p'⟩, fun v H' y => ?_⟩
    obtain ⟨T, x, hx, hT, rfl, rfl⟩ := y
    exact hs i x T σ _ (hx xs q) p hT
  · have e : i = xs.length := by omega
    subst e
    exact .inl ⟨⟨xs, q, Nat.le_refl _⟩, hd σ H p⟩
/-- range(n) as a thing -/
theorem call_rng1 {X : Cx} : CallR X (.type "range") (fun xs H Q => ∃ n : Int, xs = [.int n] ∧ ∀ r, H r = none → Q (.ref r) (upd H r (.rng 0 n))) := by
  intro pins s σ H xs us Q I r h
  obtain ⟨n, rfl, q⟩ := h
  obtain ⟨u, rfl, rx⟩ := vals1 r
  obtain ⟨t, rfl⟩ := rx
  exact call_range_1 ⟨.ref s.heap.objs.size, _, I.laid (t' := s.toks + 1 + 1) (o := .rng 0 n) (fun b o e => Heap.get?_push_of_some _ e) (Nat.le_refl _) ⟨_, _, _, Heap.get?_push_size _ rfl⟩, rfl, q _ (I.hok.fresh (Nat.le_refl _))⟩
theorem items_nats {acc : Array Value} {n : Nat} (h : ItemsOf (fun i v => ∃ t, v = .int (0 + (i : Nat) * 1) t) acc n) : Vals ((List.range n).map fun p => V.int ((p : Nat) : Int)) acc.toList := by
  obtain ⟨hs, hv⟩ := h
  have key : ∀ (k : Nat) (l : List Value), (∀ (j : Nat) (v : Value), l[j]? = some v → ∃ t, v = Value.int ((k : Int) + (j : Int)) t) → Vals ((List.range' k l.length).map fun p => V.int ((p : Nat) : Int)) l := by
    intro k l
    induction l generalizing k with
    | nil => intro _; exact .nil
    | cons x l ih =>
      intro h
      rw [List.length_cons, List.range'_succ, List.map_cons]
      refine .cons ?_ (ih (k + 1) fun j v e => ?_)
      · obtain ⟨t, e⟩ := h 0 x rfl
        exact ⟨t, by rw [e]; simp⟩
      · obtain ⟨t, e'⟩ := h (j + 1) v e
        exact ⟨t, by rw [e']; congr 1; omega⟩
  have := key 0 acc.toList fun j v e => by
    obtain ⟨t, e'⟩ := hv j v (by simpa using e)
    exact ⟨t, by rw [e']; congr 1; omega⟩
  rw [Array.length_toList, hs] at this
  rw [List.range_eq_range']
  exact this
/-- list(range(n)) -/
theorem call_list_rng {X : Cx} (hc : X.calm = true) : CallR X (.type "list") (fun xs H Q => ∃ (r : Addr) (n : Nat), xs = [.ref r] ∧ H r = some (.rng 0 (n : Nat)) ∧ n ≤ 100000 ∧ ∀ l, H l = none → Q (.ref l) (upd H l (.lst ((List.range n).map fun p => V.int ((p : Nat) : Int))))) := by
  intro pins s σ H xs us Q I r h
  obtain ⟨a, n, rfl, ha, hn, q⟩ := h
  obtain ⟨u, rfl, rx⟩ := vals1 r
  cases rx
  obtain ⟨t, u, v, ho⟩ := (show ∃ t u v, s.heap.get? a = some { cls := .type "range", data := .fields #[.int 0 t, .int (n : Nat) u, .int 1 v] } from I.hok a _ ha)
  refine call_list_range (n := n) (I.ok.hd hc) ho (small_one (by decide) (by decide) (by omega) (by omega)) (by rw [rangeSize_one]; split <;> omega) (Nat.le_trans hn (by decide)) fun h' tk acc c kp hg hit => ?_
  refine ⟨.ref s.heap.objs.size, _, I.laid (t' := tk) kp (Nat.le_refl _) (show ObjOk X.prog X.w _ h' _ (.lst _) from ⟨by rw [List.length_map, List.length_range]; exact Nat.le_trans hn (by decide), acc.toList, c, items_nats hit, by rw [Array.toArray_toList]; exact hg⟩), rfl, q _ (I.hok.fresh (Nat.le_refl _))⟩
theorem iteV {c : Bool} {t1 t2 : TS} {D : Ends} {σ : St} {H : Hp} (J : St → Hp → Prop) (hJ : ∀ σ' H', J σ' H' → D.nx σ' H') (h1 : c = true → (∀ σ' H', J σ' H' → D.nx σ' H') → t1 D σ H) (h2 : ¬ c = true → (∀ σ' H', J σ' H' → D.nx σ' H') → t2 D σ H) : if c = true then t1 D σ H else t2 D σ H := by
  by_cases h : c = true
  · rw [if_pos h]; exact h1 h hJ
  · rw [if_neg h]; exact h2 h hJ
/-- names of builtins that the text does not give -/
structure TxtB (mg : Str → Option Value) : Prop where
  isi : mg "isinstance" = none
  int : mg "int" = none
  bool : mg "bool" = none
  abs : mg "abs" = none
  len : mg "len" = none
  range : mg "range" = none
  tup : mg "tuple" = none
  lst : mg "list" = none
  sor : mg "sorted" = none
  all : mg "all" = none
  set : mg "set" = none
  zip : mg "zip" = none
  enu : mg "enumerate" = none
  any : mg "any" = none
  max : mg "max" = none
  min : mg "min" = none
  str : mg "str" = none
  sum : mg "sum" = none
/-- a block: a list of numbers -/
def nats (L : List Nat) : List V := L.map fun p => V.int ((p : Nat) : Int)
theorem nats_ints (L : List Nat) : nats L = (L.map fun p => ((p : Nat) : Int)).map V.int := by simp [nats]
theorem nats_snoc (L : List Nat) (j : Nat) : nats (L ++ [j]) = nats L ++ [V.int (j : Int)] := by unfold nats; rw [List.map_append]; rfl
theorem nats_len (L : List Nat) : (nats L).length = L.length := by unfold nats; rw [List.length_map]
/-- lists of blocks -/
def BlAt (H : Hp) : List V → List (List Nat) → Prop
  | [], [] => True
  | v :: vs, b :: bs => (∃ a, v = .ref a ∧ H a = some (.lst (nats b))) ∧ BlAt H vs bs
  | _, _ => False
theorem BlAt.len {H : Hp} : ∀ {vs : List V} {bs : List (List Nat)}, BlAt H vs bs → vs.length = bs.length
  | [], [], _ => rfl
  | _ :: _, _ :: _, h => by rw [List.length_cons, List.length_cons, BlAt.len h.2]
theorem BlAt.imp {H H' : Hp} : ∀ {vs : List V} {bs : List (List Nat)}, BlAt H vs bs → (∀ a xs, V.ref a ∈ vs → H a = some (.lst xs) → H' a = some (.lst xs)) → BlAt H' vs bs
  | [], [], _, _ => trivial
  | v :: vs, b :: bs, ⟨⟨a, e, q⟩, r⟩, k => ⟨⟨a, e, k a _ (e ▸ List.mem_cons_self ..) q⟩, r.imp fun a xs h1 h2 => k a xs (List.mem_cons_of_mem _ h1) h2⟩
theorem BlAt.same {H H' : Hp} (s : Same H H') {vs : List V} {bs : List (List Nat)} (h : BlAt H vs bs) : BlAt H' vs bs := h.imp fun a xs _ q => s _ _ q
theorem BlAt.snoc {H : Hp} {a : Addr} {b : List Nat} (e : H a = some (.lst (nats b))) : ∀ {vs : List V} {bs : List (List Nat)}, BlAt H vs bs → BlAt H (vs ++ [.ref a]) (bs ++ [b])
  | [], [], _ => ⟨⟨a, rfl, e⟩, trivial⟩
  | _ :: _, _ :: _, h => ⟨h.1, h.2.snoc e⟩
theorem BlAt.get {H : Hp} : ∀ {vs : List V} {bs : List (List Nat)} {i : Nat} {v : V}, BlAt H vs bs → vs[i]? = some v → ∃ a b, v = .ref a ∧ bs[i]? = some b ∧ H a = some (.lst (nats b))
  | v :: vs, b :: bs, 0, _, h, e => by
    cases e
    obtain ⟨a, e, q⟩ := h.1
    exact ⟨a, b, e, rfl, q⟩
  | _ :: vs, _ :: bs, i + 1, v, h, e => BlAt.get (i := i) h.2 e
/-- tuples of blocks, rising -/
def TpAt (H : Hp) : List V → List (List Nat) → Prop
  | [], [] => True
  | v :: vs, b :: bs => (∃ a, v = .ref a ∧ H a = some (.tup (nats b))) ∧ TpAt H vs bs
  | _, _ => False
theorem TpAt.len {H : Hp} : ∀ {vs : List V} {bs : List (List Nat)}, TpAt H vs bs → vs.length = bs.length
  | [], [], _ => rfl
  | _ :: _, _ :: _, h => by rw [List.length_cons, List.length_cons, TpAt.len h.2]
theorem TpAt.same {H H' : Hp} (s : ∀ a xs, H a = some (.tup xs) → H' a = some (.tup xs)) : ∀ {vs : List V} {bs : List (List Nat)}, TpAt H vs bs → TpAt H' vs bs
  | [], [], _ => trivial
  | v :: vs, b :: bs, ⟨⟨a, e, q⟩, r⟩ => ⟨⟨a, e, s _ _ q⟩, r.same s⟩
theorem TpAt.snoc {H : Hp} {a : Addr} {b : List Nat} (e : H a = some (.tup (nats b))) : ∀ {vs : List V} {bs : List (List Nat)}, TpAt H vs bs → TpAt H (vs ++ [.ref a]) (bs ++ [b])
  | [], [], _ => ⟨⟨a, rfl, e⟩, trivial⟩
  | _ :: _, _ :: _, h => ⟨h.1, h.2.snoc e⟩
theorem TpAt.get {H : Hp} : ∀ {vs : List V} {bs : List (List Nat)} {i : Nat} {v : V}, TpAt H vs bs → vs[i]? = some v → ∃ a b, v = .ref a ∧ bs[i]? = some b ∧ H a = some (.tup (nats b))
  | v :: vs, b :: bs, 0, _, h, e => by
    cases e
    obtain ⟨a, e, q⟩ := h.1
    exact ⟨a, b, e, rfl, q⟩
  | _ :: vs, _ :: bs, i + 1, v, h, e => TpAt.get (i := i) h.2 e
/-- sorted, block by block -/
def Srt : List (List Nat) → List (List Nat) → Prop
  | [], [] => True
  | c :: cs, b :: bs => (c.Perm b ∧ c.Pairwise (· ≤ ·)) ∧ Srt cs bs
  | _, _ => False
theorem Srt.snoc {c b : List Nat} (h1 : c.Perm b) (h2 : c.Pairwise (· ≤ ·)) : ∀ {cs bs : List (List Nat)}, Srt cs bs → Srt (cs ++ [c]) (bs ++ [b])
  | [], [], _ => ⟨⟨h1, h2⟩, trivial⟩
  | _ :: _, _ :: _, h => ⟨h.1, h.2.snoc h1 h2⟩
theorem Srt.len : ∀ {cs bs : List (List Nat)}, Srt cs bs → cs.length = bs.length
  | [], [], _ => rfl
  | _ :: _, _ :: _, h => by rw [List.length_cons, List.length_cons, Srt.len h.2]
theorem srt_eq {c c' b : List Nat} (h1 : c.Perm b) (h2 : c.Pairwise (· ≤ ·)) (h1' : c'.Perm b) (h2' : c'.Pairwise (· ≤ ·)) : c = c' :=
  (h1.trans h1'.symm).eq_of_pairwise (fun a b _ _ x y => Nat.le_antisymm x y) h2 h2'
/-- a block below p -/
structure Blk (p : Nat) (b : List Nat) : Prop where
  nd : b.Nodup
  lt : ∀ x ∈ b, x < p
theorem nodup_le : ∀ (n : Nat) (b : List Nat), b.Nodup → (∀ x ∈ b, x < n) → b.length ≤ n
  | 0, [], _, _ => Nat.le_refl _
  | 0, x :: b, _, h => absurd (h x (List.mem_cons_self ..)) (Nat.not_lt_zero _)
  | n + 1, b, hn, hl => by
    have h1 := nodup_le n (b.filter (fun x => decide (x ≠ n))) (hn.filter _) (fun x hx => by
      have := List.mem_filter.mp hx
      have h2 := hl x this.1
      have h3 : x ≠ n := of_decide_eq_true this.2
      omega)
    by_cases hm : n ∈ b
    · have e : b.length = (b.filter (fun x => decide (x ≠ n))).length + 1 := by
        clear h1 hl
        induction b with
        | nil => cases hm
        | cons y b ih =>
          rw [List.nodup_cons] at hn
          by_cases hy : y = n
          · subst hy
            rw [List.filter_cons_of_neg (by simp)]
            have : b.filter (fun x => decide (x ≠ y)) = b := List.filter_eq_self.mpr fun x hx => decide_eq_true fun z => hn.1 (z ▸ hx)
            rw [this]; rfl
          · rw [List.filter_cons_of_pos (by simpa using hy)]
            have hm' : n ∈ b := (List.mem_cons.mp hm).resolve_left (fun z => hy z.symm)
            simp only [List.length_cons]
            rw [ih hn.2 hm']
      omega
    · have : b.filter (fun x => decide (x ≠ n)) = b := List.filter_eq_self.mpr fun x hx => decide_eq_true fun z => hm (z ▸ hx)
      rw [this] at h1
      omega
theorem Blk.len {p : Nat} {b : List Nat} (h : Blk p b) : b.length ≤ p := nodup_le p b h.nd h.lt
theorem Blk.perm {p : Nat} {b c : List Nat} (h : Blk p b) (e : c.Perm b) : Blk p c := ⟨e.nodup_iff.mpr h.nd, fun x hx => h.lt x (e.mem_iff.mp hx)⟩
theorem Blk.snoc {i : Nat} {b : List Nat} (hb : Blk i b) : Blk (i + 1) (b ++ [i]) := by
  refine ⟨?_, fun x hx => ?_⟩
  · rw [List.nodup_append]
    exact ⟨hb.nd, by simp, fun x hx y hy e => by
      have := hb.lt x hx
      rw [List.mem_singleton.mp hy] at e
      omega⟩
  · rcases List.mem_append.mp hx with z | z
    · exact Nat.lt_succ_of_lt (hb.lt x z)
    · rw [List.mem_singleton.mp z]
      exact Nat.lt_succ_self i
theorem Blk.up {i : Nat} {b : List Nat} (hb : Blk i b) : Blk (i + 1) b := ⟨hb.nd, fun x hx => Nat.lt_succ_of_lt (hb.lt x hx)⟩
/-! ### a list or a tuple, gone through -/
def iSeq (K : PySem.W.Frag) (tl : TE) : TI := fun σ H R => tl σ H fun x H1 => ∃ a, x = .ref a ∧ (((∃ xs, SqL K H1 a xs) ∧ R (Itl K a) H1) ∨ ((∃ xs, SqT K H1 a xs) ∧ R (Itt K a) H1))
theorem pi_seq {X : Cx} {tg l : Expr} {tl : TE} (hl : PE X l tl) : PI X tg l (iSeq X.K tl) := by
  intro pins s σ H R I h
  refine thn (hl pins s σ H _ I h) fun v s1 ⟨x, H1, I1, r1, q1⟩ => ?_
  obtain ⟨a, e, q⟩ := q1
  subst e
  cases r1
  have fp : ∀ b ∈ [s1.heap.objs.size], FpOk X pins H1 b := fun b hb => by
    have e : b = s1.heap.objs.size := by simpa using hb
    subst e
    exact I1.fpOk (Nat.le_refl _) (I1.hok.fresh (Nat.le_refl _))
  rcases q with ⟨⟨xs, hq⟩, q⟩ | ⟨⟨xs, hq⟩, q⟩
  · obtain ⟨its, rv, p, hz⟩ := I1.list hq
    exact wpAny_pyIter_list p.isList ⟨s1.heap.objs.size, [s1.heap.objs.size], _, _, H1, rfl, I1.kept (t' := s1.toks) fun b o e => Heap.get?_push_of_some _ e, turn_list a _, ⟨_, Heap.get?_push_size _ rfl, rfl, rfl⟩, fp, q⟩
  · obtain ⟨its, rv, p, hz⟩ := I1.tuple hq
    exact wpAny_pyIter_tuple (show s1.heap.IsTuple a its.toArray from p) ⟨s1.heap.objs.size, [s1.heap.objs.size], _, _, H1, rfl, I1.kept (t' := s1.toks) fun b o e => Heap.get?_push_of_some _ e, turn_tuple a _, ⟨_, Heap.get?_push_size _ rfl, rfl, rfl⟩, fp, q⟩
theorem qi_seq {X : Cx} {tg l : Expr} {tl : TE} (hl : QE X l tl) : QI X tg l (iSeq X.K tl) := ⟨pi_seq hl.h⟩
/-! ### rules that name K, for comprehensions -/
def rTupQ (K : PySem.W.Frag) : List V → Hp → VK → Prop := fun xs H Q => ∃ p ys, xs = [.ref p] ∧ ((SqL K H p ys ∧ ∀ l, H l = none → Q (.ref l) (upd H l (.tup ys))) ∨ (SqT K H p ys ∧ Q (.ref p) H))
theorem call_tupQ {X : Cx} : CallR X (.type "tuple") (rTupQ X.K) := call_tuple_of
theorem TpAt.sm {H H' : Hp} (s : Same H H') {vs : List V} {bs : List (List Nat)} (h : TpAt H vs bs) : TpAt H' vs bs := h.same fun a xs q => s _ _ q
theorem back_nats {b : List Nat} {ns : List Int} (hp : ns.Perm (b.map fun p => ((p : Nat) : Int))) (hs : ns.Pairwise (· ≤ ·)) : ∃ b' : List Nat, ns.map V.int = nats b' ∧ b'.Perm b ∧ b'.Pairwise (· ≤ ·) := by
  have hnn : ∀ x ∈ ns, 0 ≤ x := fun x hx => by
    obtain ⟨p, _, rfl⟩ := List.mem_map.mp (hp.mem_iff.mp hx)
    omega
  have e : ns = (ns.map Int.toNat).map fun p => ((p : Nat) : Int) := by
    rw [List.map_map]
    conv => lhs; rw [← List.map_id ns]
    exact List.map_congr_left fun x hx => by
      have := hnn x hx
      show x = ((x.toNat : Nat) : Int)
      omega
  refine ⟨ns.map Int.toNat, ?_, ?_, ?_⟩
  · rw [nats_ints, ← e]
  · have := hp.map Int.toNat
    rw [List.map_map] at this
    have e2 : (b.map (Int.toNat ∘ fun p => ((p : Nat) : Int))) = b := by
      conv => rhs; rw [← List.map_id b]
      exact List.map_congr_left fun x _ => by simp
    rwa [e2] at this
  · rw [List.pairwise_map]
    exact hs.imp fun h => by omega
theorem ints_isD' {K : PySem.W.Frag} {H : Hp} : ∀ L : List Nat, IsDs K H (L.map fun p => PyData.int ((p : Nat) : Int)) (nats L)
  | [] => by simp [nats, IsDs]
  | p :: L => by
    simp only [nats, List.map_cons, IsDs]
    exact ⟨_, _, rfl, by simp [IsD], ints_isD' L⟩
theorem lay_ints' : ∀ L : List Nat, PyData.canLayAll0 (L.map fun p => PyData.int ((p : Nat) : Int)) = true
  | [] => by simp [PyData.canLayAll0]
  | x :: L => by simp [PyData.canLayAll0, PyData.canLay0, lay_ints' L]
theorem depth_ints' : ∀ L : List Nat, PyData.depthAll (L.map fun p => PyData.int ((p : Nat) : Int)) ≤ 1
  | [] => by simp [PyData.depthAll]
  | x :: L => by
    have := depth_ints' L
    simp [PyData.depthAll, PyData.depth]
    omega
def dBlk (L : List Nat) : PyData := .list (L.map fun p => PyData.int ((p : Nat) : Int))
theorem shaped_blk (L : List Nat) : PySem.SeqAt.shaped (dBlk L) = true := by
  unfold PySem.SeqAt.shaped dBlk
  rw [Bool.and_eq_true]
  refine ⟨by simp only [PyData.canLay0]; exact lay_ints' L, decide_eq_true ?_⟩
  have := depth_ints' L
  simp only [PyData.depth]
  omega
theorem cut_from {xs : List V} {k : Nat} (hk : k ≤ xs.length) : cutV xs (some (k : Int)) none = xs.drop k := by
  unfold cutV
  have h1 : HT.sIx xs.length 0 (some (k : Int)) = k := by rw [HT.sIx_nat]; omega
  have h2 : HT.sIx xs.length xs.length none = xs.length := by simp [HT.sIx]
  rw [h1, h2, List.take_of_length_le (by rw [List.length_drop]; exact Nat.le_refl _)]
theorem cut_to {xs : List V} {k : Nat} (hk : k ≤ xs.length) : cutV xs none (some (k : Int)) = xs.take k := by
  unfold cutV
  have h1 : HT.sIx xs.length 0 none = 0 := by simp [HT.sIx]
  have h2 : HT.sIx xs.length xs.length (some (k : Int)) = k := by rw [HT.sIx_nat]; omega
  rw [h1, h2, List.drop_zero, Nat.sub_zero]
theorem eqv_ints' : ∀ L : List Nat, PyData.eqvAll (L.map fun p => PyData.int ((p : Nat) : Int)) (L.map fun p => PyData.int ((p : Nat) : Int)) = true
  | [] => by simp [PyData.eqvAll]
  | x :: L => by simp [PyData.eqvAll, PyData.eqv, eqv_ints' L]
def dTup (L : List Nat) : PyData := .tuple (L.map fun p => PyData.int ((p : Nat) : Int))
theorem tps_isD {K : PySem.W.Frag} {H : Hp} : ∀ {vs : List V} {bs : List (List Nat)}, TpAt H vs bs → IsDs K H (bs.map dTup) vs
  | [], [], _ => by simp [IsDs]
  | v :: vs, b :: bs, ⟨⟨a, e, q⟩, r⟩ => by
    simp only [List.map_cons, IsDs]
    refine ⟨v, vs, rfl, ?_, tps_isD r⟩
    simp only [dTup, IsD]
    exact ⟨a, _, e, SqT.of q, ints_isD' b⟩
theorem lay_tps : ∀ bs : List (List Nat), PyData.canLayAll0 (bs.map dTup) = true
  | [] => by simp [PyData.canLayAll0]
  | b :: bs => by
    have h1 := lay_ints' b
    simp only [List.map_cons, PyData.canLayAll0, dTup, PyData.canLay0, h1, lay_tps bs, Bool.and_self, Bool.true_and]
theorem depth_tps : ∀ bs : List (List Nat), PyData.depthAll (bs.map dTup) ≤ 2
  | [] => by simp [PyData.depthAll]
  | b :: bs => by
    have h1 := depth_ints' b
    have h2 := depth_tps bs
    simp only [List.map_cons, PyData.depthAll, dTup, PyData.depth]
    omega
theorem eqv_tup (L : List Nat) : PyData.eqv (dTup L) (dTup L) = true := by
  simp only [dTup, PyData.eqv]
  exact eqv_ints' L
theorem eqv_tpsA : ∀ bs : List (List Nat), PyData.eqvAll (bs.map dTup) (bs.map dTup) = true
  | [] => by simp [PyData.eqvAll]
  | b :: bs => by simp only [List.map_cons, PyData.eqvAll, eqv_tup b, eqv_tpsA bs, Bool.and_self]
/-! ### a[i] += .. -/
end L2
/-! EvSort: sorted of a list of pairs of numbers: the same pairs in some order. Behind EvLay. -/
namespace L2
open PySem PySem.Spec PyProof.Rows PySem.W
section
variable {n : Nat} (hn : 0 < n)
include hn
end
section
variable {prog : Program} {w : World} {A : Around} {E : Value → Shared → Prop} {s : Shared}
end
end L2
/-! EvMul: tuple * number. Behind EvLay. -/
namespace PySem
open Sem (wp)
open Builtin
end PySem
namespace L2
open PySem PySem.Spec PyProof.Rows
end L2
namespace HT2
open PySem PySem.Spec PyProof.Rows HT
variable {prog : Program} {w : World} {A : Around} {E : Value → Shared → Prop} {s : Shared}
end HT2
namespace L2
open PySem PySem.Spec PyProof.Rows
end L2
/-! EvZip: zip of a tuple and a list. Behind EvLay. -/
namespace L2
open PySem PySem.Spec PyProof.Rows
section
variable {prog : Program} {w : World} {A : Around} {E : Value → Shared → Prop} {s : Shared}
end
section
variable {prog : Program} {w : World} {A : Around} {E : Value → Shared → Prop} {s : Shared}
end
section
variable {X : Cx} {elts : List Expr} {k : Nat} {tp : Pos}
end
end L2
/-! EvTold: loops by steps, zip of two lists, a def that calls itself. Behind EvMul. -/
namespace L2
open PySem PySem.Spec PyProof.Rows
section
variable {X : Cx} {elts : List Expr} {k : Nat} {tp : Pos}
end
end L2
/-! EvEnt: enumerate of a tuple, values of an `or`, a list taken apart. Behind EvTold and EvZip. -/
namespace L2
open PySem PySem.Spec PyProof.Rows
section
variable {prog : Program} {w : World} {A : Around} {E : Value → Shared → Prop} {s : Shared}
end
section
variable {X : Cx} {elts : List Expr} {k : Nat} {tp : Pos}
end
end L2
/-! EvNil: a list != [], whatever stands in it. Behind EvLay. -/
namespace L2
open PySem PySem.Spec PyProof.Rows
end L2
namespace L2
open PySem PySem.Spec PyProof.Rows
end L2
/-! EvIns: list.insert. Behind EvLay. -/
namespace L2
open PySem PySem.Spec PyProof.Rows
def rInsert : V → List V → Hp → VK → Prop := fun x vs H Q => ∃ (l : Addr) (xs : List V) (i : Nat) (y : V), x = .ref l ∧ vs = [.int ((i : Nat) : Int), y] ∧ H l = some (.lst xs) ∧ i ≤ xs.length ∧ xs.length < sizeLine ∧ Q .non (upd H l (.lst (xs.take i ++ y :: xs.drop i)))
theorem fits_nat {i : Nat} (h : i ≤ sizeLine) : ¬ (!Builtin.List.listFitsIndex ((i : Nat) : Int)) = true := by
  have h2 : sizeLine < 2 ^ 63 := by decide
  simp [Builtin.List.listFitsIndex]
  omega
theorem mt_insert {X : Cx} : MtM X "list.insert" rInsert := by
  intro pins s σ H x vs v us Q I rx rv h
  obtain ⟨l, xs, i, y, rfl, rfl, hH, hi, hz, q⟩ := h
  cases rx
  obtain ⟨u, w', rfl, ru, rw'⟩ := vals2 rv
  obtain ⟨t, rfl⟩ := ru
  obtain ⟨z, its, n, r, hl, e⟩ := I.lstM hH
  have hf : ¬ (!Builtin.List.listFitsIndex ((i : Nat) : Int)) = true := fits_nat (Nat.le_trans hi (Nat.le_of_lt hz))
  have hs : its.toArray.size ≤ sizeLine := by rw [List.size_toArray, ← hl]; exact z
  generalize hj : ((i : Nat) : Int) = j at hf ⊢
  refine call_meets F.slot_list_insert ⟨_, e, rfl⟩ F.entry_list_insert (F.args_list_insert_3 _ _ _) (AutoSeq1.list_insert_list_int_val_1 l its.toArray n j t w' hf hs) ⟨e, ?_⟩
  refine ⟨.non, _, I.lset (its' := its.take i ++ w' :: its.drop i) hH e ?_ ((r.take i).append (.cons rw' (r.drop i))) ?_, rfl, q⟩
  · subst hj
    show (its.toArray.extract 0 (if ((i : Nat) : Int) < 0 then (((i : Nat) : Int) + (its.toArray.size : Int)).toNat else min ((i : Nat) : Int).toNat its.toArray.size)).push w' ++ its.toArray.extract (if ((i : Nat) : Int) < 0 then (((i : Nat) : Int) + (its.toArray.size : Int)).toNat else min ((i : Nat) : Int).toNat its.toArray.size) = _
    rw [if_neg (by omega), Int.toNat_natCast, List.size_toArray, Nat.min_eq_left (hl ▸ hi)]
    exact PySem.W.kl_ins_eq its i w'
  · rw [List.length_append, List.length_cons, List.length_take, List.length_drop]
    omega
end L2
namespace L2
open PySem PySem.Spec PyProof.Rows
section
variable {X : Cx} {pins : List (Addr × Obj)} {σ : St} {H : Hp} {s : Shared}
/-- the clause's name goes, the others stay -/
theorem name_goneK {n : Str} {i : Nat} {pos : Pos} {Q : Unit → Shared → Prop} {E : Value → Shared → Prop} (I : Inv X pins σ H s) (hN : X.N.Nodup) (hi : X.N[i]? = some n) (hl : X.env.scope.names.lookup n = some .local) (h : ∀ s', Inv X pins (σ.set i none) H s' → Q () s') :
    wpAny (model X.prog X.w) X.A (do bindName X.env n .none; unbindBehindTheSuite X.env n pos) Q E s := by
  obtain ⟨m, hn, hrel⟩ := I.loc
  refine wpAny_nameGoes_keeps hl hn (by rw [I.ok.kind]; rfl) fun h' v0 hn' hs => h _ ?_
  have k : ∀ b o, b ≠ X.env.locals → s.heap.get? b = some o → h'.get? b = some o := fun b o hb e => (hs.2 b hb).trans e
  have cellK : ∀ c v, c ≠ X.env.locals → s.heap.IsCell c v → h'.IsCell c v := fun c v hc z => z.sameBut hs hc
  have nL : ∀ b o, X.s₀.heap.get? b = some o → b ≠ X.env.locals := fun b o e => Nat.ne_of_lt (Nat.lt_of_lt_of_le (Heap.lt_size e) I.ok.above)
  refine ⟨I.ok, I.os, I.bare, ⟨fun b o e n' hb hx => k b o (nL b o e) (I.base.keep b o e n' hb hx), fun b o e n' hb hx => ?_, I.base.free, fun b o e hx => ?_, I.base.tups, I.base.frzs, I.base.tbls⟩, ⟨_, hn', fun j x v e1 e2 e3 => ?_⟩, fun x c e => ?_, I.free, I.freeC, fun p hp => ?_, fun a o e => ?_, by rw [List.length_set]; exact I.len⟩
  · obtain ⟨sl, e1⟩ := I.base.slot b o e n' hb hx
    exact ⟨sl, k b _ (nL b o e) e1⟩
  · obtain ⟨o', e1⟩ := I.base.there b o e hx
    exact ⟨o', k b o' (nL b o e) e1⟩
  · have hji : j ≠ i := fun z => by
      rw [z] at e2
      by_cases hlt : i < σ.length
      · rw [List.getElem?_set_self hlt] at e2
        cases e2
      · rw [List.getElem?_eq_none (by rw [List.length_set]; omega)] at e2
        cases e2
    rw [List.getElem?_set_ne (Ne.symm hji)] at e2
    obtain ⟨u, r, lk⟩ := hrel j x v e1 e2 e3
    have hxn : x ≠ n := fun z => by
      subst z
      obtain ⟨h1, g1⟩ := List.getElem?_eq_some_iff.mp e1
      obtain ⟨h2, g2⟩ := List.getElem?_eq_some_iff.mp hi
      exact hji ((List.getElem_inj hN).mp (g1.trans g2.symm))
    refine ⟨u, r, ?_⟩
    rcases lk with ⟨l1, l2⟩ | ⟨l1, c, l2, l3⟩
    · exact .inl ⟨l1, (if_neg hxn).trans l2⟩
    · exact .inr ⟨l1, c, l2, cellK c _ (I.cne x c l2) l3⟩
  · obtain ⟨v, z⟩ := I.cell x c e
    exact ⟨v, cellK c v (I.cne x c e) z⟩
  · obtain ⟨e, n', ne, r⟩ := I.pin p hp
    exact ⟨k _ _ ne e, n', ne, r⟩
  · refine (I.hok a o e).stay (fun b u hb q => k b u (fun z => ?_) q) (fun _ q => q) fun _ _ q => q
    have n' := I.free
    rcases hb with rfl | hb
    · rw [z, n'] at e; cases e
    · rw [z, n'] at hb; cases hb
end
/-- what stands behind the clause: its name is gone -/
def Ends.gone (D : Ends) (i : Nat) : Ends := { nx := fun σ H => D.nx (σ.set i none) H, rt := D.rt, bk := fun σ H => D.bk (σ.set i none) H, ct := fun σ H => D.ct (σ.set i none) H }
def EHS (K : PySem.W.Frag) (M : Addr) (n i : Nat) (th : TS) (D : Ends) : XK := fun C _ H => ∃ c, C = .ref c ∧ PySem.W.mroIn K c (.ref M) = some true ∧ ∀ a, H a = none → th (D.gone i) ((List.replicate n none).set i (some (.ref a))) (upd H a (XO a c))
def tTryS (K : PySem.W.Frag) (M : Addr) (n i : Nat) (tb : XK → TS) (th : TS) : TS := fun D σ H => tb (EHS K M n i th D) D σ H
theorem ps_tryS {X : Cx} {body : List Stmt} {tb : XK → TS} {th : TS} {x n : Str} {M : Addr} {i : Nat} {b0 : Stmt} {suite : List Stmt} {np hpos pos : Pos} (hex : X.ex = []) (hst : X.stack = X.env :: X.outer) (hfr : X.env.frame = some X.env.locals)
    (hb : ∀ (pn : List (Addr × Obj)) (E : XK), PSs ((X.pinned pn).wish (XT (X.pinned pn) E)) body (tb E)) (hg : Gl X x) (hm : X.mg x = some (.ref M)) (TM : PySem.W.ExcK X.K M) (hN : X.N.Nodup) (hi : X.N[i]? = some n) (hl : X.env.scope.names.lookup n = some .local)
    (hh : ∀ a, PSs (X.inH a) (b0 :: suite) th) (hdb : (x == ("__debug__" : Str)) = false := by decide) :
    PS X (.Try body [.ExceptHandler (some (.Name x np)) (some n) (b0 :: suite) hpos] [] [] pos) (tTryS X.K M X.N.length i tb th) := by
  intro pins s σ H D I h
  have okX := I.ok
  refine wpAny_Try_except (wpAny_mono (hb (X.pn ++ pins) (EHS X.K M X.N.length i th D) [] s σ H D (I.toPn.wish _) h) (fun f s1 q => ?_) fun e s1 q => ?_)
  · have back : ∀ {σ' : St} {H' : Hp}, Inv ((X.pinned (X.pn ++ pins)).wish (XT (X.pinned (X.pn ++ pins)) (EHS X.K M X.N.length i th D))) [] σ' H' s1 → Inv X pins σ' H' s1 := fun J => Inv.ofPn okX J.unwish
    cases f with
    | next =>
      obtain ⟨σ', H', J, z⟩ := q
      exact wpAny_execs_nil ⟨σ', H', back J, z⟩
    | brk =>
      obtain ⟨σ', H', J, z⟩ := q
      exact ⟨σ', H', back J, z⟩
    | cont =>
      obtain ⟨σ', H', J, z⟩ := q
      exact ⟨σ', H', back J, z⟩
    | ret u =>
      obtain ⟨v, σ', H', J, r, z⟩ := q
      exact ⟨v, σ', H', back J, r, z⟩
  · obtain ⟨a, T, C, H1, σ1, rfl, J0, fl, hpn, c, rfl, hmro, hth⟩ := q
    have J : Inv X pins σ1 H1 s1 := Inv.ofPn okX J0
    have hpn' : ∀ p ∈ X.pn ++ pins, p.1 ≠ a ∧ p.1 ≠ T := hpn
    have hfrs : X.A.frames = some (X.env :: X.outer) := by rw [okX.frames, hst]
    have ne1 : ∀ p ∈ X.pn ++ pins, p.1 ∉ frs X.stack := fun p hp z => by
      obtain ⟨_, _, ne, nf, _⟩ := J.pin p hp
      exact (List.mem_cons.mp (J.stkSub p.1 z)).elim ne nf
    obtain ⟨oe, vs, a0, oT, tv, he, hc, hd, h0, h1, hTe, hT, hdT, h3⟩ := fl.ob
    have hts : ∀ b ∈ [a, T], X.s₀.heap.get? b = none ∧ H1 b = none ∧ ∀ p ∈ X.pn ++ pins, p.1 ≠ b := fun b hb => by
      rcases List.mem_cons.mp hb with z | z
      · subst z; exact ⟨fl.na, fl.fa, fun p hp => (hpn' p hp).1⟩
      · cases (List.mem_singleton.mp z); exact ⟨fl.nT, fl.fT, fun p hp => (hpn' p hp).2⟩
    have fly0 : Heap.FlyingW (PySem.W.hideAll s1.heap ([a, T] ++ frs X.stack)) (X.env :: X.outer) a (.ref c) a0 s1.heap :=
      ⟨hide_stays _ _, PySem.W.hideAll_none _ (List.mem_append_left _ (by simp)), by rw [← hst]; exact fun_hide J [a, T],
        oe, vs, T, oT, tv, he, ⟨hc, h0⟩, hd, h1, PySem.W.hideAll_none _ (List.mem_append_left _ (by simp)), hTe, hT, hdT, h3⟩
    refine wpAny_looks_onW hfrs hfr fly0 fun h4 held4 up4 => ?_
    refine wpAny_landsW held4 fun h5 fly5 up5 => ?_
    have S5 : Shift X [a, T] s1.heap h5 := ⟨fly5.1, up4.trans up5⟩
    have J5 : Inv X pins σ1 H1 { s1 with heap := h5 } := S5.inv (tk := s1.toks) J hts
    obtain ⟨o5, g5, c5⟩ := fly5.there
    refine wpAny_handleBy_cons (codeAny_handlers_test (ld_glob (X := X.inH a) (J5.inH a) hg hm ?_ hdb)) (by intro z; cases z)
    refine PySem.W.exc_matches J5.kIn g5 c5 TM hmro (codeAny_handlers_suite_as ?_)
    refine lands_againW fly5 fun h6 fly6 up6 => ?_
    have S6 : Shift X [a, T] s1.heap h6 := ⟨fly6.1, (up4.trans up5).trans up6⟩
    have J6 : Inv X pins σ1 H1 { s1 with heap := h6 } := S6.inv (tk := s1.toks) J hts
    obtain ⟨o6, v6, g6, c6, d6, _⟩ := fly6.first
    have nL : a ≠ X.env.locals := fun z => by
      obtain ⟨m, ⟨oL, es, ep, eL, dL, _⟩, _⟩ := J6.loc
      rw [← z, g6] at eL; cases eL
      rw [d6] at dL; cases dL
    have nC : ∀ x c, X.env.cells.lookup x = some c → c ≠ a := fun x c' e z => by
      obtain ⟨v, oc, ec, dc⟩ := J6.cell x c' e
      rw [z, g6] at ec; cases ec
      rw [d6] at dc; cases dc
    have J7 : Inv X pins (List.replicate X.N.length none) (upd H1 a (XO a c)) { s1 with heap := h6 } := (J6.track (o := XO a c) fl.fa fl.na nL nC (fun p hp => (hpn' p hp).1)
      (show ObjOk X.prog X.w (upd H1 a (XO a c)) h6 a (.ext fun h => ∃ o, h.get? a = some o ∧ o.cls = .ref c) from ⟨⟨o6, g6, c6⟩, ⟨o6, g6⟩, fun g1 g2 ⟨o, z1, z2⟩ st => ⟨o, st o z1, z2⟩⟩)).forget
    refine store_ok (X := X.inH a) (J7.inH a) hN hi (.inl hl) (v := .ref a) rfl (fun s8 J8 => ?_) (.inr hl)
    refine wpAny_mono (hh a pins s8 _ _ (D.gone i) J8 (hth a fl.fa)) (fun f s9 z => ?_) fun _ _ z => z.elim
    have back : ∀ {σ' : St} {H' : Hp}, Inv (X.inH a) pins σ' H' s9 → Inv X pins σ' H' s9 := fun J => Inv.ofH okX J
    cases f with
    | next =>
      obtain ⟨σ', H', J9, z⟩ := z
      exact name_goneK (back J9) hN hi hl fun s' J' => ⟨_, H', J', z⟩
    | brk =>
      obtain ⟨σ', H', J9, z⟩ := z
      exact name_goneK (back J9) hN hi hl fun s' J' => ⟨_, H', J', z⟩
    | cont =>
      obtain ⟨σ', H', J9, z⟩ := z
      exact name_goneK (back J9) hN hi hl fun s' J' => ⟨_, H', J', z⟩
    | ret u =>
      obtain ⟨v, σ', H', J9, r, z⟩ := z
      exact name_goneK (back J9) hN hi hl fun s' J' => ⟨v, _, H', J', r, z⟩

theorem qs_tryS {X : Cx} {body : List Stmt} {tb : XK → TS} {th : TS} {x n : Str} {M : Addr} {i : Nat} {b0 : Stmt} {suite : List Stmt} {np hpos pos : Pos} (hex : X.ex = []) (hst : X.stack = X.env :: X.outer) (hfr : X.env.frame = some X.env.locals)
    (hb : ∀ (pn : List (Addr × Obj)) (E : XK), QSs ((X.pinned pn).wish (XT (X.pinned pn) E)) body (tb E)) (hg : Gl X x) (hm : X.mg x = some (.ref M)) (TM : PySem.W.ExcK X.K M) (hN : X.N.Nodup) (hi : X.N[i]? = some n) (hl : X.env.scope.names.lookup n = some .local)
    (hh : ∀ a, QSs (X.inH a) (b0 :: suite) th) (hdb : (x == ("__debug__" : Str)) = false := by decide) :
    QS X (.Try body [.ExceptHandler (some (.Name x np)) (some n) (b0 :: suite) hpos] [] [] pos) (tTryS X.K M X.N.length i tb th) := ⟨ps_tryS hex hst hfr (fun pn E => (hb pn E).h) hg hm TM hN hi hl (fun a => (hh a).h) hdb⟩
end L2
/-! EvSrt: sorted of pairs of numbers with unlike first numbers: by the first number. Behind EvSort. -/
namespace L2
open PySem PySem.Spec PyProof.Rows PySem.W
section
variable (key : Nat → Int)
variable {key}
end
section
variable {prog : Program} {w : World} {A : Around} {E : Value → Shared → Prop} {s : Shared}
end
end L2
/-! EvLex: sorted of tuples of numbers, like ones and empty ones among them: by the order of rows. Behind EvSrt. -/
namespace L2
open PySem PySem.Spec PyProof.Rows PySem.W
/-- rows of numbers, one ahead of the other -/
def lexB : List Int → List Int → Bool
  | _, [] => false
  | [], _ :: _ => true
  | x :: xs, y :: ys => if x = y then lexB xs ys else decide (x < y)
theorem lex_irr : ∀ a : List Int, lexB a a = false
  | [] => rfl
  | x :: a => by
    rw [lexB, if_pos rfl]
    exact lex_irr a
theorem lex_trans : ∀ {a b c : List Int}, lexB a b = true → lexB b c = true → lexB a c = true
  | _, _, [], _, h2 => by cases h2' : (‹List Int› : List Int) <;> simp_all [lexB]
  | [], _, _ :: _, _, _ => rfl
  | _ :: _, [], _ :: _, h1, _ => by simp [lexB] at h1
  | x :: a, y :: b, z :: c, h1, h2 => by
    rw [lexB] at h1 h2 ⊢
    by_cases e1 : x = y
    · rw [if_pos e1] at h1
      subst e1
      by_cases e2 : x = z
      · rw [if_pos e2] at h2 ⊢
        exact lex_trans h1 h2
      · rw [if_neg e2] at h2 ⊢
        exact h2
    · rw [if_neg e1] at h1
      have l1 := of_decide_eq_true h1
      by_cases e2 : y = z
      · subst e2
        rw [if_neg e1]
        exact h1
      · rw [if_neg e2] at h2
        have l2 := of_decide_eq_true h2
        rw [if_neg (by omega)]
        exact decide_eq_true (by omega)
theorem lex_tri : ∀ {a b : List Int}, lexB a b = false → lexB b a = false → a = b
  | [], [], _, _ => rfl
  | [], _ :: _, h, _ => by simp [lexB] at h
  | _ :: _, [], _, h => by simp [lexB] at h
  | x :: a, y :: b, h1, h2 => by
    rw [lexB] at h1 h2
    by_cases e : x = y
    · rw [if_pos e] at h1
      rw [if_pos e.symm] at h2
      rw [e, lex_tri h1 h2]
    · rw [if_neg e] at h1
      rw [if_neg (fun z => e z.symm)] at h2
      have l1 := of_decide_eq_false h1
      have l2 := of_decide_eq_false h2
      omega
theorem countP_lt {α : Type} {p q : α → Bool} : ∀ {l : List α}, (∀ x ∈ l, p x = true → q x = true) → ∀ {a : α}, a ∈ l → q a = true → p a = false → l.countP p < l.countP q
  | [], _, _, h, _, _ => nomatch h
  | x :: l, h, a, ha, hq, hp => by
    have hle := List.countP_mono_left (l := l) (p := p) (q := q) fun y hy => h y (List.mem_cons_of_mem _ hy)
    rw [List.countP_cons, List.countP_cons]
    rcases List.mem_cons.mp ha with e | e
    · subst e
      rw [hq, hp]
      simp
      omega
    · have := countP_lt (l := l) (fun y hy => h y (List.mem_cons_of_mem _ hy)) e hq hp
      have h1 := h x (List.mem_cons_self ..)
      cases hpx : p x
      · simp
        omega
      · rw [h1 hpx]
        simp
        omega
section
variable {key : Nat → Int}
end
/-- a tuple of numbers, in the heap -/
def TupI (h : Heap) (v : Value) (xs : List Int) : Prop := ∃ (a : Addr) (o : Obj) (its : Array Value) (k : Nat), v = .ref a ∧ h.get? a = some o ∧ o.cls = .type "tuple" ∧ o.data = .seq its k ∧ PyProof.Rows.IntsAre its.toList xs
section
variable {prog : Program} {w : World} {A : Around} {E : Value → Shared → Prop} {s : Shared}
theorem oneLt_any {x y : Int} {t u : Tok} {Q : Bool → Shared → Prop} (b : Bool) (h : Q (decide (x < y)) s) : wpAny (model prog w) A (oneLt' b (.int x t) (.int y u)) Q E s := by
  cases b with
  | true => exact oneLt_int h
  | false => exact kat_one _ _ (lt_int h)
theorem kat_lexI {Q : Bool → Shared → Prop} : ∀ {ps qs : List Value} {xs ys : List Int} {i : Nat}, PyProof.Rows.IntsAre ps xs → PyProof.Rows.IntsAre qs ys → ∀ {fin : Bool}, fin = decide (ps.length < qs.length) → Q (lexB xs ys) s → KatLex prog w A true fin Q (ps.zip qs) i s
  | _, _, _, _, i, .nil, .nil, _, hf, h => by
    subst hf
    exact kat_nil h
  | _, _, _, _, i, .nil, .cons _ _ _, _, hf, h => by
    subst hf
    exact kat_nil h
  | _, _, _, _, i, .cons _ _ _, .nil, _, hf, h => by
    subst hf
    exact kat_nil h
  | _, _, _, _, i, .cons x t r, .cons y u r', _, hf, h => by
    rw [List.zip_cons_cons]
    refine kat_cons (wpAny_eqBool_int (kat_go (fun e => kat_yes ?_) (fun e => kat_no ?_)))
    · have e' : x = y := by simpa using e
      rw [lexB, if_pos e'] at h
      exact kat_lexI r r' (by rw [hf, List.length_cons, List.length_cons]; congr 1; simp) h
    · have e' : ¬ x = y := by simpa using e
      rw [lexB, if_neg e'] at h
      exact oneLt_any _ h
theorem TupI.typeIs {v : Value} {xs : List Int} (h : TupI s.heap v xs) : s.TypeIs v "tuple" := by
  obtain ⟨a, o, its, k, rfl, ho, hc, _⟩ := h
  exact ⟨o, ho, hc⟩
theorem tuple_lt_tree {x y : List Int} {a b : Addr} {P : Fin → Shared → Prop} (hx : TupI s.heap (.ref a) x) (hy : TupI s.heap (.ref b) y) (h : P (.done (.ret (.bool (lexB x y)))) s) :
    wpAny (model prog w) A (Builtin.«tuple.__lt__» ⟨[.ref a, .ref b], []⟩) P E s := by
  have hTb := hy.typeIs
  obtain ⟨_, oa, xs, na, ea, hoa, _, hda, hia⟩ := hx
  obtain ⟨_, ob, ys, nb, eb, hob, _, hdb, hib⟩ := hy
  cases ea
  cases eb
  show wpAny _ _ (isInstance (.ref b) (.type "tuple") >>= _) _ _ s
  refine wpAny_bind (wpAny_isInstance hTb isSubtype_tuple_tuple ?_)
  simp only [Bool.not_true, Bool.false_eq_true, if_false]
  refine wpAny_bind (wpAny_tupleItemsOf hoa hda ?_)
  refine wpAny_bind (wpAny_tupleItemsOf hob hdb ?_)
  refine wpAny_bind ?_
  refine wpAny_forIn_list _
    (fun rest r s' => r.1 = none ∧ s' = s ∧ ∃ x' y' xs' ys', rest = List.zip xs' ys' ∧ PyProof.Rows.IntsAre xs' x' ∧ PyProof.Rows.IntsAre ys' y' ∧ lexB x' y' = lexB x y ∧ decide (xs'.length < ys'.length) = decide (xs.size < ys.size))
    _ ?_ ?_ _ _ ⟨rfl, rfl, x, y, xs.toList, ys.toList, rfl, hia, hib, rfl, by simp⟩
  · rintro ⟨u, v⟩ rest r s' ⟨hr, rfl, x', y', xs', ys', hz, hx', hy', hdec, hlen⟩
    cases hx' with
    | nil => simp at hz
    | cons k1 t1 hx'' =>
      cases hy' with
      | nil => simp at hz
      | cons k2 t2 hy'' =>
        simp only [List.zip_cons_cons, List.cons.injEq, Prod.mk.injEq] at hz
        obtain ⟨⟨rfl, rfl⟩, rfl⟩ := hz
        refine wpAny_bind (wpAny_eqBool_int ?_)
        rw [lexB] at hdec
        by_cases hk : k1 = k2
        · rw [if_pos hk] at hdec
          rw [show (k1 == k2) = true by simp [hk]]
          simp only [Bool.not_true, Bool.false_eq_true, if_false]
          exact wpAny_pure ⟨rfl, rfl, _, _, _, _, rfl, hx'', hy'', hdec, by rw [← hlen, List.length_cons, List.length_cons]; congr 1; simp⟩
        · rw [if_neg hk] at hdec
          rw [show (k1 == k2) = false by simp [hk]]
          simp only [Bool.not_false, if_true]
          rw [← hdec] at h
          refine wpAny_bind (wpAny_rule ?_)
          refine wpAny_bind ?_
          exact (show wpAny (model prog w) A (compareOp .Lt (.int k1 t1) (.int k2 t2)) _ E s' from lt_int (wpAny_bind (wpAny_pure (wpAny_pure (wpAny_pure h)))))
  · rintro ⟨r1, r2⟩ s' ⟨hr, rfl, x', y', xs', ys', hz, hx', hy', hdec, hlen⟩
    simp only at hr
    subst hr
    refine wpAny_pure ?_
    have hfin : decide (xs.size < ys.size) = lexB x y := by
      rw [← hdec, ← hlen]
      cases hx' with
      | nil =>
        cases hy' with
        | nil => rfl
        | cons _ _ _ => simp [lexB]
      | cons _ _ _ =>
        cases hy' with
        | nil => simp [lexB]
        | cons _ _ _ => simp at hz
    show P (.done (.ret (.bool (decide (xs.size < ys.size))))) s'
    rw [hfin]
    exact h
/-- how such keys may be asked -/
def Kd (κ : SortKind) : Prop := κ = tuples' true ∨ κ = general' ∨ κ = oneType'
theorem call_tuple_lt {x y : List Int} {a b : Addr} {Q : Value → Shared → Prop} (hx : TupI s.heap (.ref a) x) (hy : TupI s.heap (.ref b) y) (h : Q (.bool (lexB x y)) s) : wpAny (model prog w) A (call (.builtin "tuple.__lt__") [.ref a, .ref b]) Q E s :=
  wpAny_call_entry F.slot_tuple_lt hx.typeIs F.entry_tuple_lt (tuple_lt_tree hx hy ⟨_, rfl, h⟩) (F.args_tuple_lt_2 _ _)
theorem tup_lt {κ : SortKind} (hκ : Kd κ) (hu : A.units < cLine) {v v' : Value} {x y : List Int} {C : Bool → Shared → Prop} (hv : TupI s.heap v x) (hv' : TupI s.heap v' y) (hC : C (lexB x y) s) : wpAny (model prog w) A (keyLt' κ v v') C (fun _ _ => False) s := by
  have T1 := hv.typeIs
  have T2 := hv'.typeIs
  have h1 := hv
  have h2 := hv'
  obtain ⟨a, o, its, k, rfl, ho, hc, hd, hi⟩ := hv
  obtain ⟨b, o', its', k', rfl, ho', hc', hd', hi'⟩ := hv'
  rcases hκ with rfl | rfl | rfl
  · exact kat_lt ho hd ho' hd' (kat_lexI hi hi' (by simp) hC)
  · exact kat_one _ _ (show wpAny (model prog w) A (richCompare .Lt (.ref a) (.ref b)) _ _ s from wpAny_richCompare_same_room (op := .Lt) T1 T2 F.slot_tuple_lt (call_tuple_lt h1 h2 ⟨by nofun, hC⟩) hu)
  · rw [keyLt'_oneType, oneLt'_eq]
    simp only [if_true]
    refine wpAny_bind (wpAny_cRoomFor hu ?_)
    refine wpAny_bind (wpAny_callSpecialIfBound?_slot T1 F.slot_tuple_lt (call_tuple_lt h1 h2 ?_))
    exact wpAny_truthy_bool hC
theorem tup_heads {M : Model} : ∀ {vs : List Value}, (∀ v ∈ vs, ∃ xs, TupI s.heap v xs) → ∃ os : List (Option Value), ((∃ v ∈ vs, TupI s.heap v []) → none ∈ os) ∧ ∀ Q : List (Option Value) → Shared → Prop, Q os s → wpAny M A (vs.mapM firstOfTuple') Q E s
  | [], _ => ⟨[], by simp, fun Q h => by rw [List.mapM_nil]; exact wpAny_pure h⟩
  | v :: vs, hv => by
    obtain ⟨os, h1, h2⟩ := tup_heads (vs := vs) fun v' h' => hv v' (List.mem_cons_of_mem _ h')
    obtain ⟨xs, a, o, its, k, rfl, ho, hc, hd, hi⟩ := hv v (List.mem_cons_self ..)
    refine ⟨its[0]? :: os, fun ⟨v', hm, ht⟩ => ?_, fun Q h => ?_⟩
    · rcases List.mem_cons.mp hm with e | e
      · subst e
        obtain ⟨_, o2, its2, k2, e, ho2, _, hd2, hi2⟩ := ht
        cases e
        rw [ho] at ho2
        cases ho2
        rw [hd] at hd2
        injection hd2 with e1 e2
        subst e1
        have : its.toList = [] := by
          generalize its.toList = L at hi2
          cases hi2
          rfl
        have e0 : its[0]? = none := by
          rw [← Array.getElem?_toList, this]
          rfl
        rw [e0]
        exact List.mem_cons_self ..
      · exact List.mem_cons_of_mem _ (h1 ⟨v', e, ht⟩)
    · rw [List.mapM_cons]
      refine wpAny_bind ?_
      rw [kas_first_eq]
      refine wpAny_bind (Looks.here (show Looks M s.heap (typeOf (.ref a)) o.cls from (Looks.ld ho).andThen .now) ?_)
      rw [hc, if_neg (by first | decide | simp)]
      refine wpAny_bind (listItems_at ho hd (wpAny_pure ?_))
      exact wpAny_bind (h2 _ (wpAny_pure h))
theorem tup_tups {h : Heap} : ∀ {vs : List Value}, (∀ v ∈ vs, ∃ xs, TupI h v xs) → (¬ ∃ v ∈ vs, TupI h v []) → ∃ fs : List Value, KatTups h vs fs ∧ fs.length = vs.length ∧ ∀ f ∈ fs, ∃ (a : Int) (t : Tok), f = .int a t
  | [], _, _ => ⟨[], trivial, rfl, by simp⟩
  | v :: vs, hv, hn => by
    obtain ⟨fs, h1, h2, h3⟩ := tup_tups (vs := vs) (fun v' h' => hv v' (List.mem_cons_of_mem _ h')) fun ⟨v', m, t⟩ => hn ⟨v', List.mem_cons_of_mem _ m, t⟩
    obtain ⟨xs, a, o, its, k, e, ho, hc, hd, hi⟩ := hv v (List.mem_cons_self ..)
    cases hL : its.toList with
    | nil =>
      refine absurd ⟨v, List.mem_cons_self .., a, o, its, k, e, ho, hc, hd, ?_⟩ hn
      rw [hL]
      exact .nil
    | cons f r =>
      rw [hL] at hi
      cases hi with
      | cons n t _ =>
        refine ⟨.int n t :: fs, ⟨⟨a, o, its, k, e, ho, hc, hd, ?_⟩, h1⟩, by simp [h2], fun f hf => ?_⟩
        · rw [← Array.getElem?_toList, hL]
          rfl
        · rcases List.mem_cons.mp hf with e | e
          · exact ⟨n, t, e⟩
          · exact h3 f e
theorem tup_kind {vs : List Value} {Q : SortKind → Shared → Prop} (hv : ∀ v ∈ vs, ∃ xs, TupI s.heap v xs) (h0 : 0 < vs.length) (h : ∀ κ, Kd κ → Q κ s) : wpAny (model prog w) A (keyKind' vs.toArray) Q E s := by
  by_cases he : ∃ v ∈ vs, TupI s.heap v []
  · obtain ⟨os, h1, h2⟩ := tup_heads (M := model prog w) (A := A) (E := E) hv
    have hno := h1 he
    rw [kat_kind_eq, List.mapM_toArray, map_eq_pure_bind]
    refine wpAny_bind (wpAny_bind (h2 _ (wpAny_pure ?_)))
    have hall : (os.toArray.all fun x => x.isSome) = false := by
      rw [List.all_toArray]
      exact List.all_eq_false.mpr ⟨none, hno, by simp⟩
    rw [if_neg (by rw [hall]; simp)]
    by_cases hf : ((os.toArray[0]?.bind id).isSome) = true
    · rw [if_pos hf]
      exact wpAny_pure (h _ (.inr (.inl rfl)))
    · rw [if_neg hf, oneTypeOnly'_eq, List.mapM_toArray, map_eq_pure_bind]
      refine wpAny_bind (wpAny_bind (wpAny_bind (kas_mapM (r := Value.type "tuple") _ (fun v hv' Q' hq => ?_) (wpAny_pure ?_))))
      · obtain ⟨xs, a, o, its, k, rfl, ho, hc, hd, hi⟩ := hv v hv'
        exact Looks.here (show Looks (model prog w) s.heap (typeOf (.ref a)) (Value.type "tuple") from hc ▸ (Looks.ld ho).andThen .now) hq
      · have fin : ∀ o : Option Value, wpAny (model prog w) A (pure (if o.isSome = true then oneType' else general')) Q E s := fun o => by
          cases o with
          | none => exact wpAny_pure (h _ (.inr (.inl rfl)))
          | some v => exact wpAny_pure (h _ (.inr (.inr rfl)))
        cases (List.map (fun _ => Value.type "tuple") vs).toArray[0]? with
        | none => exact wpAny_pure (fin _)
        | some t => exact wpAny_pure (fin _)
  · obtain ⟨fs, hT, hfl, hfi⟩ := tup_tups hv he
    refine kat_kind (T := .type "int") hT (by omega) (fun f hf => ?_) rfl (h _ (.inl rfl))
    obtain ⟨p, t, rfl⟩ := hfi f hf
    exact Looks.now
theorem collect_tup {l : Addr} {vs : List Value} {Q : List Value → Shared → Prop} (hl : s.heap.IsTuple l vs.toArray)
    (h : Q vs { s with heap := (s.heap.push (seqObj "list" #[] 0)).update s.heap.objs.size (Obj.mapSeq (· ++ vs.toArray)) }) (hsz : vs.length ≤ sizeLine) :
    wpAny (model prog w) A (collect (.ref l)) Q E s := by
  obtain ⟨o, ho, hc, n, hd⟩ := id hl
  unfold collect
  refine wpAny_bind (wpAny_runValue (codeAny_builtin entry_proto_collect' ?_))
  show wpAny _ _ (do again (.builtin "list.__iadd__" ⟨[← newList [], .ref l], []⟩)) _ _ s
  refine wpAny_bind (wpAny_newList (wpAny_pure ⟨Code.quiet_builtin _ (by decide +kernel), codeAny_builtin entry_list_iadd' ?_⟩))
  show wpAny _ _ (Builtin.List.listExtendWith (.ref s.heap.objs.size) (.ref l) (.ref s.heap.objs.size)) _ _ { s with heap := s.heap.push (seqObj "list" #[] 0) }
  unfold Builtin.List.listExtendWith
  have ho' : (s.heap.push (seqObj "list" #[] 0)).get? l = some o := Heap.get?_push_of_some _ ho
  refine wpAny_bind (wpAny_typeOf (T := "tuple") ⟨o, ho', hc⟩ ?_)
  have ht : (Value.type "tuple" == Value.type "tuple") = true := by rfl
  rw [if_pos (by rw [ht]; simp)]
  refine wpAny_bind (listItems_at ho' hd ?_)
  refine wpAny_bind (listItems_at (xs := #[]) (n := 0) (Heap.get?_push_size _ rfl) rfl ?_)
  rw [if_neg (by simp)]
  refine wpAny_bind (listUpdate_at (xs := #[]) (n := 0) (Heap.get?_push_size _ rfl) rfl ?_ (Nat.zero_le _) (by show (#[] ++ vs.toArray).size ≤ sizeLine + 1; simp only [Array.size_append, List.size_toArray, List.length_nil]; omega))
  refine wpAny_pure ?_
  show wpAny (model prog w) A (do
      let o ← load s.heap.objs.size
      match o.data with
      | .seq xs _ => pure xs.toList
      | _ => unsupported "internal:collect") Q E { s with heap := (s.heap.push (seqObj "list" #[] 0)).update s.heap.objs.size (Obj.mapSeq (· ++ vs.toArray)) }
  refine wpAny_bind (wpAny_load (get?_update_seq (Heap.get?_push_size _ rfl) _) ?_)
  show wpAny _ _ (pure ((#[] : Array Value) ++ vs.toArray).toList) Q E _
  rw [show ((#[] : Array Value) ++ vs.toArray).toList = vs by simp]
  exact wpAny_pure h
end
theorem TpAt.keys {X : Cx} {pins : List (Addr × Obj)} {σ : St} {H : Hp} {s : Shared} (I : Inv X pins σ H s) : ∀ {vs : List V} {bs : List (List Nat)} {us : List Value}, TpAt H vs bs → Vals vs us → (∀ i (hi : i < us.length), TupI s.heap us[i] ((bs.getD i []).map fun p => ((p : Nat) : Int))) ∧ vs = us.map fun u => V.ref (match u with | .ref a => a | _ => 0)
  | [], [], _, _, r => by
    cases r
    exact ⟨fun i hi => absurd hi (Nat.not_lt_zero _), rfl⟩
  | v :: vs, b :: bs, _, ⟨⟨a, e, q⟩, hr⟩, r => by
    cases r with
    | cons h t =>
      subst e
      cases h
      obtain ⟨h1, h2⟩ := TpAt.keys I hr t
      refine ⟨fun i hi => ?_, by rw [List.map_cons, ← h2]⟩
      obtain ⟨its, rv, ⟨o, ho, hc, n, hd⟩, _⟩ := I.tuple (SqT.of q)
      cases i with
      | zero =>
        refine ⟨a, o, its.toArray, n, rfl, ho, hc, hd, ?_⟩
        rw [nats_ints] at rv
        exact ints_of_vals rv
      | succ i => exact h1 i (by simpa using hi)
end L2
/-! EvTim: the model's whole sort (runs, galloping, merging) over any list: by keys. -/
namespace L2
open PySem PyProof.Rows
def gal : Bool → Keyed → Array Keyed → Nat → Nat → Nat → StateT SortSt Sem (Option Nat) := sortPriv% PySem.Builtin.gallop
def mLo : Array Keyed → Array Keyed → StateT SortSt Sem (Array Keyed) := sortPriv% PySem.Builtin.mergeLo
def mHi : Array Keyed → Array Keyed → StateT SortSt Sem (Array Keyed) := sortPriv% PySem.Builtin.mergeHi
/-- comparisons of the things of U go by their keys, and change nothing -/
def Cm (prog : Program) (w : World) (A : Around) (κ : SortKind) (key : Keyed → Int) (U : Keyed → Prop) (s : Shared) : Prop :=
  ∀ (x y : Keyed) (Q : Bool → Shared → Prop) (E' : Value → Shared → Prop), U x → U y → Q (decide (key x < key y)) s → wpAny (model prog w) A (keyLt' κ x.1 y.1) Q E' s
def bey (left : Bool) (k : Keyed) (arr : Array Keyed) (base i : Nat) : StateT SortSt Sem (Option Bool) := elem' arr (base + i) >>= fun x => if left = true then lt' x k else lt' k x >>= fun r => pure (r.map fun z => !z)
section
variable {prog : Program} {w : World} {A : Around} {E : Value → Shared → Prop} {s : Shared} {κ : SortKind} {key : Keyed → Int} {U : Keyed → Prop} {st : SortSt}
theorem wpS_el {arr : Array Keyed} {i : Nat} {x : Keyed} {Q : Keyed → SortSt → Prop} (e : arr[i]? = some x) (h : Q x st) : wpS (model prog w) A E s (elem' arr i) Q st := by
  rw [elem'_eq, e]
  exact wpS_pure h
theorem wpS_lt2 {x y : Keyed} {Q : Option Bool → SortSt → Prop} (hc : Cm prog w A κ key U s) (hk : kindOf st = κ) (hx : U x) (hy : U y) (h : Q (some (decide (key x < key y))) st) : wpS (model prog w) A E s (lt' x y) Q st := by
  rw [lt'_eq]
  refine wpS_bind (wpS_get ?_)
  rw [hk]
  refine wpS_bind (wpS_lift (wpAny_attempt (hc x y _ _ hx hy ⟨rfl, ?_⟩)))
  exact wpS_pure h
/-- what an item of the run is to the key -/
def Pb (key : Keyed → Int) (left : Bool) (k : Keyed) (arr : Array Keyed) (base i : Nat) : Bool := match arr[base + i]? with
  | some x => if left = true then decide (key x < key k) else !decide (key k < key x)
  | none => false
theorem wpS_bey {left : Bool} {k : Keyed} {arr : Array Keyed} {base i : Nat} {Q : Option Bool → SortSt → Prop} (hc : Cm prog w A κ key U s) (hk : kindOf st = κ) (hx : U k) (hi : base + i < arr.size) (hy : ∀ x, arr[base + i]? = some x → U x) (h : Q (some (Pb key left k arr base i)) st) : wpS (model prog w) A E s (bey left k arr base i) Q st := by
  have e : arr[base + i]? = some arr[base + i] := getElem?_pos arr (base + i) hi
  unfold bey
  refine wpS_bind (wpS_el e ?_)
  unfold Pb at h
  rw [e] at h
  dsimp only at h
  cases left with
  | true =>
    rw [if_pos rfl] at h ⊢
    exact wpS_lt2 hc hk (hy _ e) hx h
  | false =>
    rw [if_neg (by decide)] at h ⊢
    exact wpS_bind (wpS_lt2 hc hk hx (hy _ e) (wpS_pure h))
theorem wpS_gal {left : Bool} {k : Keyed} {arr : Array Keyed} {base n hint : Nat} {Q : Option Nat → SortSt → Prop} (hc : Cm prog w A κ key U s) (hk : kindOf st = κ) (hx : U k) (hn : base + n ≤ arr.size) (hy : ∀ i x, i < n → arr[base + i]? = some x → U x)
    (hm : ∀ i j, i ≤ j → j < n → Pb key left k arr base j = true → Pb key left k arr base i = true) (hh : hint < n)
    (h : ∀ m, m ≤ n → (∀ i, i < m → Pb key left k arr base i = true) → (∀ i, m ≤ i → i < n → Pb key left k arr base i = false) → Q (some m) st) : wpS (model prog w) A E s (gal left k arr base n hint) Q st := by
  have hB : ∀ i, i < n → ∀ Q' : Option Bool → SortSt → Prop, Q' (some (Pb key left k arr base i)) st → wpS (model prog w) A E s (bey left k arr base i) Q' st := fun i hi Q' q => wpS_bey hc hk hx (by omega) (fun x => hy i x hi) q
  have hF : ∀ i j, i ≤ j → j < n → Pb key left k arr base i = false → Pb key left k arr base j = false := fun i j hij hj e => by
    cases e2 : Pb key left k arr base j
    · rfl
    · rw [hm i j hij hj e2] at e
      cases e
  generalize Pb key left k arr base = P at *
  refine wpS_bind (hB hint hh _ ?_)
  dsimp -zeta only
  extract_lets jp
  have hj : ∀ u a b lo hi, lo ≤ hi → hi ≤ n → (∀ i, i < lo → P i = true) → (∀ i, hi ≤ i → i < n → P i = false) → wpS (model prog w) A E s (jp u a b lo hi) Q st := fun u a b lo hi h1 h2 h3 h4 => ?fin
  clear_value jp
  case fin =>
    refine wpS_bind (wpS_mono (wpS_forRange (I := fun x c st' => st' = st ∧ ∃ lo hi, c = (none, lo, hi) ∧ lo ≤ hi ∧ hi ≤ n ∧ hi - lo ≤ n - x ∧ (∀ i, i < lo → P i = true) ∧ (∀ i, hi ≤ i → i < n → P i = false))
      (Q := fun c st' => st' = st ∧ ∃ hi, c = (none, hi, hi) ∧ hi ≤ n ∧ (∀ i, i < hi → P i = true) ∧ (∀ i, hi ≤ i → i < n → P i = false)) ?_ ?_ ⟨rfl, lo, hi, rfl, h1, h2, by omega, h3, h4⟩) ?_)
    · rintro x c st' _ hxn ⟨rfl, lo, hi, rfl, q1, q2, q3, q4, q5⟩
      dsimp only
      by_cases e : lo ≥ hi
      · rw [if_pos e]
        have : lo = hi := by omega
        subst this
        exact wpS_pure ⟨rfl, lo, rfl, q2, q4, q5⟩
      · rw [if_neg e]
        refine wpS_bind (hB (lo + (hi - lo) / 2) (by omega) _ ?_)
        dsimp only
        cases e2 : P (lo + (hi - lo) / 2)
        · rw [if_neg (by decide)]
          exact wpS_pure ⟨rfl, lo, _, rfl, by omega, by omega, by omega, q4, fun i z1 z2 => hF _ i z1 z2 e2⟩
        · rw [if_pos rfl]
          exact wpS_pure ⟨rfl, _, hi, rfl, by omega, by omega, by omega, fun i z => hm i _ (Nat.le_of_lt_succ z) (by omega) e2, q5⟩
    · rintro c st' ⟨rfl, lo, hi, rfl, q1, q2, q3, q4, q5⟩
      have : lo = hi := by omega
      subst this
      exact ⟨rfl, lo, rfl, q2, q4, q5⟩
    · rintro c st' ⟨rfl, hi, rfl, q2, q4, q5⟩
      exact wpS_pure (h hi q2 q4 q5)
  cases e0 : P hint
  · rw [if_neg (by decide)]
    refine wpS_bind (wpS_mono (wpS_forRange (I := fun x c st' => st' = st ∧ ∃ l o, c = (none, l, o) ∧ l < o ∧ l ≤ hint ∧ x + 1 ≤ o ∧ P (hint - l) = false)
      (Q := fun c st' => st' = st ∧ ∃ l o, c = (none, l, o) ∧ l < o ∧ l ≤ hint ∧ P (hint - l) = false ∧ (o ≤ hint → P (hint - o) = true)) ?_ ?_ ⟨rfl, 0, 1, rfl, by omega, by omega, by omega, e0⟩) ?_)
    · rintro x c st' _ hxn ⟨rfl, l, o, rfl, q1, q2, q3, q4⟩
      dsimp only
      by_cases e : o ≥ hint + 1
      · rw [if_pos e]
        exact wpS_pure ⟨rfl, l, o, rfl, q1, q2, q4, fun z => by omega⟩
      · rw [if_neg e]
        refine wpS_bind (hB (hint - o) (by omega) _ ?_)
        dsimp only
        cases e2 : P (hint - o)
        · rw [if_neg (by decide)]
          exact wpS_pure ⟨rfl, o, _, rfl, by omega, by omega, by omega, e2⟩
        · rw [if_pos rfl]
          exact wpS_pure ⟨rfl, l, o, rfl, q1, q2, q4, fun _ => e2⟩
    · rintro c st' ⟨rfl, l, o, rfl, q1, q2, q3, q4⟩
      exact ⟨rfl, l, o, rfl, q1, q2, q4, fun z => by omega⟩
    · rintro c st' ⟨rfl, l, o, rfl, q1, q2, q3, q4⟩
      refine hj () l o (hint + 1 - min o (hint + 1)) (hint - l) (by omega) (by omega) (fun i hi => ?_) (fun i z1 z2 => hF _ i z1 z2 q3)
      exact hm i (hint - o) (by omega) (by omega) (q4 (by omega))
  · rw [if_pos rfl]
    refine wpS_bind (wpS_mono (wpS_forRange (I := fun x c st' => st' = st ∧ ∃ l o, c = (none, l, o) ∧ l < o ∧ hint + l < n ∧ x + 1 ≤ o ∧ P (hint + l) = true)
      (Q := fun c st' => st' = st ∧ ∃ l o, c = (none, l, o) ∧ l < o ∧ hint + l < n ∧ P (hint + l) = true ∧ (hint + o < n → P (hint + o) = false)) ?_ ?_ ⟨rfl, 0, 1, rfl, by omega, by omega, by omega, e0⟩) ?_)
    · rintro x c st' _ hxn ⟨rfl, l, o, rfl, q1, q2, q3, q4⟩
      dsimp only
      by_cases e : o ≥ n - hint
      · rw [if_pos e]
        exact wpS_pure ⟨rfl, l, o, rfl, q1, q2, q4, fun z => by omega⟩
      · rw [if_neg e]
        refine wpS_bind (hB (hint + o) (by omega) _ ?_)
        dsimp only
        cases e2 : P (hint + o)
        · rw [if_pos (by decide)]
          exact wpS_pure ⟨rfl, l, o, rfl, q1, q2, q4, fun _ => e2⟩
        · rw [if_neg (by decide)]
          exact wpS_pure ⟨rfl, o, _, rfl, by omega, by omega, by omega, e2⟩
    · rintro c st' ⟨rfl, l, o, rfl, q1, q2, q3, q4⟩
      exact ⟨rfl, l, o, rfl, q1, q2, q4, fun z => by omega⟩
    · rintro c st' ⟨rfl, l, o, rfl, q1, q2, q3, q4⟩
      refine hj () l o (hint + l + 1) (hint + min o (n - hint)) (by omega) (by omega) (fun i hi => hm i _ (by omega) q2 q3) (fun i z1 z2 => ?_)
      exact hF (hint + o) i (by omega) z2 (q4 (by omega))
end
end L2
namespace L2
open PySem PyProof.Rows
/-- rising by keys, within a stretch -/
def SdR (key : Keyed → Int) (xs : Array Keyed) (lo hi : Nat) : Prop := ∀ i j x y, lo ≤ i → i ≤ j → j < hi → xs[i]? = some x → xs[j]? = some y → key x ≤ key y
def Sm (st st' : SortSt) : Prop := kindOf st' = kindOf st ∧ arrOf st' = arrOf st ∧ pendingOf st' = pendingOf st ∧ failedOf st' = failedOf st
theorem Sm.rfl' {st : SortSt} : Sm st st := ⟨rfl, rfl, rfl, rfl⟩
theorem Sm.gal {st st' : SortSt} (h : Sm st st') (g : Nat) : Sm st (SortSt.mk' (kindOf st') (arrOf st') (pendingOf st') g (failedOf st')) := h
section
variable {prog : Program} {w : World} {A : Around} {E : Value → Shared → Prop} {s : Shared} {κ : SortKind} {key : Keyed → Int} {U : Keyed → Prop} {st : SortSt}
theorem wpS_galR {k : Keyed} {arr : Array Keyed} {base n hint : Nat} {Q : Option Nat → SortSt → Prop} (hc : Cm prog w A κ key U s) (hk : kindOf st = κ) (hx : U k) (hn : base + n ≤ arr.size) (hy : ∀ x ∈ arr.toList, U x) (hs : SdR key arr base (base + n)) (hh : hint < n)
    (h : ∀ m, m ≤ n → (∀ i x, base ≤ i → i < base + m → arr[i]? = some x → key x ≤ key k) → (∀ i x, base + m ≤ i → i < base + n → arr[i]? = some x → key k < key x) → Q (some m) st) : wpS (model prog w) A E s (gal false k arr base n hint) Q st := by
  refine wpS_gal hc hk hx hn (fun i x hi e => hy x ?_) (fun i j hij hj e => ?_) hh fun m hm h1 h2 => h m hm (fun i x z1 z2 e => ?_) (fun i x z1 z2 e => ?_)
  · obtain ⟨h', e'⟩ := Array.getElem?_eq_some_iff.mp e
    rw [← e']
    exact Array.getElem_mem_toList h'
  · have ei : arr[base + i]? = some (arr[base + i]'(by omega)) := getElem?_pos arr (base + i) (by omega)
    have ej : arr[base + j]? = some (arr[base + j]'(by omega)) := getElem?_pos arr (base + j) (by omega)
    have hle := hs (base + i) (base + j) _ _ (by omega) (by omega) (by omega) ei ej
    unfold Pb at e ⊢
    rw [ej] at e
    rw [ei]
    simp only [Bool.false_eq_true, if_false, Bool.not_eq_true', decide_eq_false_iff_not] at e ⊢
    omega
  · have := h1 (i - base) (by omega)
    unfold Pb at this
    rw [show base + (i - base) = i by omega, e] at this
    simp only [Bool.false_eq_true, if_false, Bool.not_eq_true', decide_eq_false_iff_not] at this
    omega
  · have := h2 (i - base) (by omega) (by omega)
    unfold Pb at this
    rw [show base + (i - base) = i by omega, e] at this
    simpa using this
theorem wpS_galL {k : Keyed} {arr : Array Keyed} {base n hint : Nat} {Q : Option Nat → SortSt → Prop} (hc : Cm prog w A κ key U s) (hk : kindOf st = κ) (hx : U k) (hn : base + n ≤ arr.size) (hy : ∀ x ∈ arr.toList, U x) (hs : SdR key arr base (base + n)) (hh : hint < n)
    (h : ∀ m, m ≤ n → (∀ i x, base ≤ i → i < base + m → arr[i]? = some x → key x < key k) → (∀ i x, base + m ≤ i → i < base + n → arr[i]? = some x → key k ≤ key x) → Q (some m) st) : wpS (model prog w) A E s (gal true k arr base n hint) Q st := by
  refine wpS_gal hc hk hx hn (fun i x hi e => hy x ?_) (fun i j hij hj e => ?_) hh fun m hm h1 h2 => h m hm (fun i x z1 z2 e => ?_) (fun i x z1 z2 e => ?_)
  · obtain ⟨h', e'⟩ := Array.getElem?_eq_some_iff.mp e
    rw [← e']
    exact Array.getElem_mem_toList h'
  · have ei : arr[base + i]? = some (arr[base + i]'(by omega)) := getElem?_pos arr (base + i) (by omega)
    have ej : arr[base + j]? = some (arr[base + j]'(by omega)) := getElem?_pos arr (base + j) (by omega)
    have hle := hs (base + i) (base + j) _ _ (by omega) (by omega) (by omega) ei ej
    unfold Pb at e ⊢
    rw [ej] at e
    rw [ei]
    simp only [if_true, decide_eq_true_eq] at e ⊢
    omega
  · have := h1 (i - base) (by omega)
    unfold Pb at this
    rw [show base + (i - base) = i by omega, e] at this
    simpa using this
  · have := h2 (i - base) (by omega) (by omega)
    unfold Pb at this
    rw [show base + (i - base) = i by omega, e] at this
    simp only [if_true, decide_eq_false_iff_not] at this
    omega
end
/-- what is merged so far: rising, of the first ia and ib, below all that is left -/
structure MI (key : Keyed → Int) (a b out : Array Keyed) (ia ib : Nat) : Prop where
  perm : out.toList.Perm (a.toList.take ia ++ b.toList.take ib)
  srt : out.toList.Pairwise fun x y => key x ≤ key y
  ha : ∀ x ∈ out.toList, ∀ i y, ia ≤ i → a[i]? = some y → key x ≤ key y
  hb : ∀ x ∈ out.toList, ∀ i y, ib ≤ i → b[i]? = some y → key x ≤ key y
def MF (key : Keyed → Int) (a b r : Array Keyed) : Prop := r.toList.Perm (a.toList ++ b.toList) ∧ r.toList.Pairwise fun x y => key x ≤ key y
section
variable {key : Keyed → Int} {a b out : Array Keyed} {ia ib : Nat}
theorem tk_succ {xs : Array Keyed} {i : Nat} {x : Keyed} (e : xs[i]? = some x) : xs.toList.take (i + 1) = xs.toList.take i ++ [x] := by
  rw [← Array.getElem?_toList] at e
  rw [List.take_succ, e]
  rfl
theorem MI.pushA (m : MI key a b out ia ib) {x : Keyed} (e : a[ia]? = some x) (sa : SdR key a 0 a.size) (h : ∀ i y, ib ≤ i → b[i]? = some y → key x ≤ key y) : MI key a b (out.push x) (ia + 1) ib := by
  have hlt : ∀ {i y}, a[i]? = some y → i < a.size := fun {i y} z => (Array.getElem?_eq_some_iff.mp z).1
  refine ⟨?_, ?_, fun y hy i z hi ez => ?_, fun y hy i z hi ez => ?_⟩
  · rw [Array.toList_push, tk_succ e]
    refine (m.perm.append_right [x]).trans ?_
    rw [List.append_assoc, List.append_assoc]
    exact List.perm_append_comm.append_left _
  · rw [Array.toList_push, List.pairwise_append]
    exact ⟨m.srt, List.pairwise_singleton _ _, fun y hy z hz => by rw [List.mem_singleton.mp hz]; exact m.ha y hy ia x (Nat.le_refl _) e⟩
  · rw [Array.toList_push] at hy
    rcases List.mem_append.mp hy with hy | hy
    · exact m.ha y hy i z (by omega) ez
    · rw [List.mem_singleton.mp hy]
      exact sa ia i x z (Nat.zero_le _) (by omega) (hlt ez) e ez
  · rw [Array.toList_push] at hy
    rcases List.mem_append.mp hy with hy | hy
    · exact m.hb y hy i z hi ez
    · rw [List.mem_singleton.mp hy]
      exact h i z hi ez
theorem MI.swap (m : MI key a b out ia ib) : MI key b a out ib ia := ⟨m.perm.trans List.perm_append_comm, m.srt, m.hb, m.ha⟩
theorem MI.pushB (m : MI key a b out ia ib) {x : Keyed} (e : b[ib]? = some x) (sb : SdR key b 0 b.size) (h : ∀ i y, ia ≤ i → a[i]? = some y → key x ≤ key y) : MI key a b (out.push x) ia (ib + 1) := (m.swap.pushA e sb h).swap
theorem ext_succ {xs : Array Keyed} {i k : Nat} {x : Keyed} (e : xs[i + k]? = some x) : xs.extract i (i + (k + 1)) = (xs.extract i (i + k)).push x := by
  have hlt := (Array.getElem?_eq_some_iff.mp e).1
  apply Array.toList_inj.mp
  rw [Array.toList_push, Array.toList_extract, Array.toList_extract, List.extract_eq_take_drop, List.extract_eq_take_drop, Nat.add_sub_cancel_left, Nat.add_sub_cancel_left, List.take_succ, List.getElem?_drop, Array.getElem?_toList, e]
  rfl
theorem MI.extA (m : MI key a b out ia ib) (sa : SdR key a 0 a.size) : ∀ k, ia + k ≤ a.size → (∀ i x, ia ≤ i → i < ia + k → a[i]? = some x → ∀ j y, ib ≤ j → b[j]? = some y → key x ≤ key y) → MI key a b (out ++ a.extract ia (ia + k)) (ia + k) ib
  | 0, _, _ => by
    have : a.extract ia (ia + 0) = #[] := by simp [Nat.min_le_left]
    rw [this, Array.append_empty]
    exact m
  | k + 1, hk, h => by
    have ih := MI.extA m sa k (by omega) (fun i x z1 z2 => h i x z1 (by omega))
    have e : a[ia + k]? = some (a[ia + k]'(by omega)) := getElem?_pos a (ia + k) (by omega)
    rw [ext_succ e, Array.append_push]
    exact ih.pushA e sa (h (ia + k) _ (by omega) (by omega) e)
theorem MI.extB (m : MI key a b out ia ib) (sb : SdR key b 0 b.size) (k : Nat) (hk : ib + k ≤ b.size) (h : ∀ i x, ib ≤ i → i < ib + k → b[i]? = some x → ∀ j y, ia ≤ j → a[j]? = some y → key x ≤ key y) : MI key a b (out ++ b.extract ib (ib + k)) ia (ib + k) := (MI.extA m.swap sb k hk h).swap
theorem MI.fin (m : MI key a b out ia ib) (ha : ia = a.size) (hb : ib = b.size) : MF key a b out := by
  subst ha hb
  refine ⟨?_, m.srt⟩
  have := m.perm
  rwa [← Array.length_toList, ← Array.length_toList, List.take_length, List.take_length] at this
theorem MI.doneB (m : MI key a b out ia ib) (sa : SdR key a 0 a.size) (hia : ia ≤ a.size) (hb : ib = b.size) : MF key a b (out ++ a.extract ia a.size ++ b.extract ib b.size) := by
  have h1 := m.extA sa (a.size - ia) (by omega) (fun i x _ _ _ j y hj ey => by
    have := (Array.getElem?_eq_some_iff.mp ey).1
    omega)
  rw [show ia + (a.size - ia) = a.size by omega] at h1
  have h2 := h1.fin rfl hb
  have : b.extract ib b.size = #[] := by subst hb; simp
  rw [this, Array.append_empty]
  exact h2
theorem MI.doneA (m : MI key a b out ia ib) (sb : SdR key b 0 b.size) (hib : ib ≤ b.size) (ha : ia = a.size) : MF key a b (out ++ a.extract ia a.size ++ b.extract ib b.size) := by
  have : a.extract ia a.size = #[] := by subst ha; simp
  rw [this, Array.append_empty]
  have h1 := m.extB sb (b.size - ib) (by omega) (fun i x _ _ _ j y hj ey => by
    have := (Array.getElem?_eq_some_iff.mp ey).1
    omega)
  rw [show ib + (b.size - ib) = b.size by omega] at h1
  exact h1.fin ha rfl
theorem MI.lastA (m : MI key a b out ia ib) (sa : SdR key a 0 a.size) (sb : SdR key b 0 b.size) (hib : ib ≤ b.size) (ha : ia + 1 = a.size) (hl : ∀ (i : Nat) (x y : Keyed), a[a.size - 1]? = some x → b[i]? = some y → key y ≤ key x) : MF key a b (out ++ b.extract ib b.size ++ a.extract ia a.size) := by
  have h1 := m.extB sb (b.size - ib) (by omega) (fun i x _ _ ex j y hj ey => by
    have := (Array.getElem?_eq_some_iff.mp ey).1
    have ej : j = a.size - 1 := by omega
    subst ej
    exact hl i y x ey ex)
  rw [show ib + (b.size - ib) = b.size by omega] at h1
  have h2 := h1.extA sa 1 (by omega) (fun i x _ _ _ j y hj ey => by
    have := (Array.getElem?_eq_some_iff.mp ey).1
    omega)
  rw [ha] at h2
  exact h2.fin rfl rfl
end
end L2
namespace L2
open PySem PyProof.Rows
section
variable {prog : Program} {w : World} {A : Around} {E : Value → Shared → Prop} {s : Shared} {κ : SortKind} {key : Keyed → Int} {U : Keyed → Prop} {st : SortSt}
theorem wpS_iT {σ α : Type} {M : Model} {c : Prop} [Decidable c] {X Y : StateT σ Sem α} {Q : α → σ → Prop} {st : σ} (hc : c) (h : wpS M A E s X Q st) : wpS M A E s (if c then X else Y) Q st := by
  rw [if_pos hc]
  exact h
theorem wpS_iF {σ α : Type} {M : Model} {c : Prop} [Decidable c] {X Y : StateT σ Sem α} {Q : α → σ → Prop} {st : σ} (hc : ¬ c) (h : wpS M A E s Y Q st) : wpS M A E s (if c then X else Y) Q st := by
  rw [if_neg hc]
  exact h
theorem wpS_two {σ α β : Type} {M : Model} {c : Prop} [Decidable c] {f : β → StateT σ Sem α} {x y : β} {Q : α → σ → Prop} {st : σ} (h : ∀ g, wpS M A E s (f g) Q st) : wpS M A E s (if c then f x else f y) Q st := by
  split <;> exact h _
theorem wpS_jpn {σ α β γ : Type} {M : Model} {m : StateT σ Sem α} (f : β → γ → StateT σ Sem α) (R : β → γ → Prop) {Q : α → σ → Prop} {st : σ} (h : ∀ x y, R x y → wpS M A E s (f x y) Q st) (k : (∀ x y, R x y → wpS M A E s (f x y) Q st) → wpS M A E s m Q st) : wpS M A E s m Q st := k h
theorem wpS_mLo {a b : Array Keyed} {Q : Array Keyed → SortSt → Prop} (hc : Cm prog w A κ key U s) (hk : kindOf st = κ) (ua : ∀ x ∈ a.toList, U x) (ub : ∀ x ∈ b.toList, U x) (sa : SdR key a 0 a.size) (sb : SdR key b 0 b.size) (a1 : 1 ≤ a.size) (b1 : 1 ≤ b.size)
    (h0 : ∀ x y, a[0]? = some x → b[0]? = some y → key y ≤ key x) (hl : ∀ (i : Nat) (x y : Keyed), a[a.size - 1]? = some x → b[i]? = some y → key y ≤ key x)
    (h : ∀ r st', Sm st st' → MF key a b r → Q r st') : wpS (model prog w) A E s (mLo a b) Q st := by
  have ea : ∀ i, i < a.size → ∃ x, a[i]? = some x ∧ U x := fun i hi => ⟨a[i], getElem?_pos a i hi, ua _ (Array.getElem_mem_toList hi)⟩
  have eb : ∀ i, i < b.size → ∃ x, b[i]? = some x ∧ U x := fun i hi => ⟨b[i], getElem?_pos b i hi, ub _ (Array.getElem_mem_toList hi)⟩
  have la : ∀ {i : Nat} {x}, a[i]? = some x → i < a.size := fun {i x} e => (Array.getElem?_eq_some_iff.mp e).1
  have lb : ∀ {i : Nat} {x}, b[i]? = some x → i < b.size := fun {i x} e => (Array.getElem?_eq_some_iff.mp e).1
  have m0 : MI key a b #[] 0 0 := ⟨by simp, by simp, by simp, by simp⟩
  obtain ⟨y0, ey0, uy0⟩ := eb 0 b1
  obtain ⟨x0, ex0, ux0⟩ := ea 0 a1
  have m1 : MI key a b #[y0] 0 1 := m0.pushB ey0 sb fun i y _ ey => Int.le_trans (h0 _ _ ex0 ey0) (sa 0 i _ _ (Nat.zero_le _) (Nat.zero_le _) (la ey) ex0 ey)
  refine wpS_bind (wpS_lift (wpAny_rule ⟨rfl, ?_⟩))
  refine wpS_bind (wpS_el ey0 ?_)
  by_cases c1 : 1 = b.size
  · exact wpS_iT (by simpa using c1) (wpS_pure (h _ _ .rfl' (m1.doneB sa (Nat.zero_le _) c1)))
  refine wpS_iF (by simpa using c1) ?_
  by_cases c2 : 0 + 1 = a.size
  · exact wpS_iT (by simpa using c2) (wpS_pure (h _ _ .rfl' (m1.lastA sa sb b1 c2 hl)))
  refine wpS_iF (by simpa using c2) ?_
  refine wpS_bind (wpS_get ?_)
  refine wpS_bind (wpS_mono (wpS_forRange (I := fun x c st' => Sm st st' ∧ ∃ out ia ib mg, c = (none, out, ia, ib, mg) ∧ MI key a b out ia ib ∧ ia + 1 < a.size ∧ ib < b.size ∧ x + 1 ≤ ia + ib) (Q := fun c st' => Sm st st' ∧ ∃ r z, c = (some r, z) ∧ MF key a b r) ?_ ?_ ⟨.rfl', _, _, _, _, rfl, m1, by omega, by omega, by omega⟩) ?_)
  rotate_left
  · rintro c st' ⟨_, out, ia, ib, mg, _, _, z1, z2, z3⟩
    omega
  · rintro c st' ⟨hS, r, z, rfl, hF⟩
    exact wpS_pure (h _ _ hS hF)
  rintro x c st' _ hx ⟨hS, out, ia, ib, mg, rfl, m, p1, p2, p3⟩
  refine wpS_bind (wpS_mono (wpS_forRange (I := fun x' c st' => Sm st st' ∧ ∃ out ia ib ac bc, c = (none, out, ia, ib, ac, bc) ∧ MI key a b out ia ib ∧ ia + 1 < a.size ∧ ib < b.size ∧ x + 1 + min x' 1 ≤ ia + ib) (Q := fun c st' => Sm st st' ∧ ((∃ r z, c = (some r, z) ∧ MF key a b r) ∨ ∃ out ia ib ac bc, c = (none, out, ia, ib, ac, bc) ∧ MI key a b out ia ib ∧ ia + 1 < a.size ∧ ib < b.size ∧ x + 2 ≤ ia + ib)) ?_ ?_ ⟨hS, out, ia, ib, 0, 0, rfl, m, p1, p2, by omega⟩) ?_)
  · clear m p1 p2 p3 hS
    rintro x' c st' _ hx' ⟨hS, out, ia, ib, ac, bc, rfl, m, p1, p2, p3⟩
    obtain ⟨y, ey, uy⟩ := eb ib p2
    obtain ⟨z, ez, uz⟩ := ea ia (by omega)
    refine wpS_bind (wpS_el ey (wpS_bind (wpS_el ez (wpS_bind (wpS_lt2 hc (hS.1.trans hk) uy uz ?_)))))
    dsimp only
    by_cases e : key y < key z
    · rw [decide_eq_true e, if_pos rfl]
      have m2 := m.pushB ey sb fun i q hi eq => Int.le_trans (Int.le_of_lt e) (sa ia i _ _ (Nat.zero_le _) hi (la eq) ez eq)
      refine wpS_bind (wpS_el ey ?_)
      by_cases f : ib + 1 = b.size
      · exact wpS_iT (by simpa using f) (wpS_pure ⟨hS, .inl ⟨_, _, rfl, m2.doneB sa (by omega) f⟩⟩)
      · refine wpS_iF (by simpa using f) ?_
        split
        · exact wpS_pure ⟨hS, .inr ⟨_, _, _, _, _, rfl, m2, by omega, by omega, by omega⟩⟩
        · exact wpS_pure ⟨hS, _, _, _, _, _, rfl, m2, by omega, by omega, by omega⟩
    · rw [decide_eq_false e, if_neg (by decide)]
      have m2 := m.pushA ez sa fun i q hi eq => Int.le_trans (Int.not_lt.mp e) (sb ib i _ _ (Nat.zero_le _) hi (lb eq) ey eq)
      refine wpS_bind (wpS_el ez ?_)
      by_cases f : ia + 1 + 1 = a.size
      · exact wpS_iT (by simpa using f) (wpS_pure ⟨hS, .inl ⟨_, _, rfl, m2.lastA sa sb (by omega) f hl⟩⟩)
      · refine wpS_iF (by simpa using f) ?_
        split
        · exact wpS_pure ⟨hS, .inr ⟨_, _, _, _, _, rfl, m2, by omega, by omega, by omega⟩⟩
        · exact wpS_pure ⟨hS, _, _, _, _, _, rfl, m2, by omega, by omega, by omega⟩
  · rintro c st' ⟨hS, out, ia, ib, ac, bc, rfl, m, p1, p2, p3⟩
    exact ⟨hS, .inr ⟨_, _, _, _, _, rfl, m, p1, p2, by omega⟩⟩
  clear m p1 p2 p3 hS
  rintro c st' ⟨hS, ⟨r, z, rfl, hF⟩ | ⟨out, ia, ib, ac, bc, rfl, m, p1, p2, p3⟩⟩
  · exact wpS_pure ⟨hS, r, _, rfl, hF⟩
  refine wpS_bind (wpS_lift (wpAny_rule ⟨rfl, ?_⟩))
  refine wpS_bind (wpS_mono (wpS_forRange (I := fun _ c st' => Sm st st' ∧ ∃ out ia ib mg ac bc, c = (none, out, ia, ib, mg, ac, bc) ∧ MI key a b out ia ib ∧ ia + 1 < a.size ∧ ib < b.size ∧ x + 2 ≤ ia + ib) (Q := fun c st' => Sm st st' ∧ ((∃ r z, c = (some r, z) ∧ MF key a b r) ∨ ∃ out ia ib mg ac bc, c = (none, out, ia, ib, mg, ac, bc) ∧ MI key a b out ia ib ∧ ia + 1 < a.size ∧ ib < b.size ∧ x + 2 ≤ ia + ib)) ?_ ?_ ⟨hS, _, _, _, _, _, _, rfl, m, p1, p2, p3⟩) ?_)
  rotate_left
  · rintro c st' ⟨hS, hh⟩
    exact ⟨hS, .inr hh⟩
  · rintro c st' ⟨hS, ⟨r, z, rfl, hF⟩ | ⟨out, ia, ib, mg, ac, bc, rfl, m, p1, p2, p3⟩⟩
    · exact wpS_pure ⟨hS, r, _, rfl, hF⟩
    · dsimp only
      exact wpS_bind (wpS_modify (wpS_pure ⟨hS.gal _, _, _, _, _, rfl, m, p1, p2, by omega⟩))
  clear m p1 p2 p3 hS
  rintro x' c st' _ hx' ⟨hS, out, ia, ib, mg, ac, bc, rfl, m, p1, p2, p3⟩
  dsimp -zeta only
  extract_lets _ out1 _ ia1 _ ib1 _ mg1 _ ac1 bc1 ib2 jp mg2
  refine wpS_two (f := jp ()) fun g => ?_
  obtain ⟨y, ey, uy⟩ := eb ib p2
  obtain ⟨z, ez, uz⟩ := ea ia (by omega)
  refine wpS_bind (wpS_modify (wpS_bind (wpS_el ey ?_)))
  have hS2 : Sm st (SortSt.mk' (kindOf st') (arrOf st') (pendingOf st') g (failedOf st')) := hS.gal g
  refine wpS_bind (wpS_galR hc (hS2.1.trans hk) uy (by show ia + (a.size - ia) ≤ a.size; omega) ua (fun i j p q z1 z2 z3 z4 z5 => sa i j p q (Nat.zero_le _) z2 (la z5) z4 z5) (by show 0 < a.size - ia; omega) fun k hk1 hk2 hk3 => ?_)
  dsimp -zeta only
  clear_value mg2
  extract_lets ac2 jp2 out2 ia2
  replace hk1 : k ≤ a.size - ia := hk1
  replace hk2 : ∀ i x, ia ≤ i → i < ia + k → a[i]? = some x → key x ≤ key y := hk2
  replace hk3 : ∀ i x, ia + k ≤ i → i < ia + (a.size - ia) → a[i]? = some x → key y < key x := hk3
  refine wpS_jpn (jp2 ()) (fun out' ia' => MI key a b out' ia' ib ∧ ia' + 1 < a.size ∧ ia ≤ ia' ∧ ∀ i q, ia' ≤ i → a[i]? = some q → key y ≤ key q) (fun out' ia' hR => ?_) fun hJ => ?_
  rotate_left
  · by_cases k0 : k > 0
    · have m2 : MI key a b (out ++ a.extract ia (ia + k)) (ia + k) ib := m.extA sa k (by omega) fun i q z1 z2 z3 j p z4 z5 => Int.le_trans (hk2 i q z1 z2 z3) (sb ib j y p (Nat.zero_le _) z4 (lb z5) ey z5)
      refine wpS_iT k0 ?_
      by_cases f : ia + k + 1 = a.size
      · exact wpS_iT (beq_iff_eq.mpr f) (wpS_pure ⟨hS2, .inl ⟨_, _, rfl, m2.lastA sa sb (by omega) f hl⟩⟩)
      refine wpS_iF (fun z => f (beq_iff_eq.mp z)) ?_
      by_cases f2 : ia + k = a.size
      · exact wpS_iT (beq_iff_eq.mpr f2) (wpS_pure ⟨hS2, .inl ⟨_, _, rfl, m2.doneA sb (by omega) f2⟩⟩)
      refine wpS_iF (fun z => f2 (beq_iff_eq.mp z)) ?_
      exact hJ _ _ ⟨m2, by show ia + k + 1 < _; omega, by show ia ≤ ia + k; omega, fun i q z1 z2 => Int.le_of_lt (hk3 i q z1 (by have := la z2; omega) z2)⟩
    · exact wpS_iF k0 (hJ _ _ ⟨m, p1, Nat.le_refl _, fun i q z1 z2 => Int.le_of_lt (hk3 i q (by have : ia ≤ i := z1; omega) (by have := la z2; omega) z2)⟩)
  clear hk1 hk2 hk3
  obtain ⟨m', p1', p3', hy⟩ := hR
  have m2 := m'.pushB ey sb hy
  refine wpS_bind (wpS_el ey ?_)
  by_cases f : ib + 1 = b.size
  · exact wpS_iT (beq_iff_eq.mpr f) (wpS_pure ⟨hS2, .inl ⟨_, _, rfl, m2.doneB sa (by omega) f⟩⟩)
  refine wpS_iF (fun z => f (beq_iff_eq.mp z)) ?_
  obtain ⟨z', ez', uz'⟩ := ea ia' (by omega)
  refine wpS_bind (wpS_el ez' ?_)
  refine wpS_bind (wpS_galL hc (hS2.1.trans hk) uz' (by show ib + 1 + (b.size - (ib + 1)) ≤ b.size; omega) ub (fun i j p q z1 z2 z3 z4 z5 => sb i j p q (Nat.zero_le _) z2 (lb z5) z4 z5) (by show 0 < b.size - (ib + 1); omega) fun k hk1 hk2 hk3 => ?_)
  replace hk1 : k ≤ b.size - (ib + 1) := hk1
  replace hk2 : ∀ i x, ib + 1 ≤ i → i < ib + 1 + k → b[i]? = some x → key x < key z' := hk2
  replace hk3 : ∀ i x, ib + 1 + k ≤ i → i < ib + 1 + (b.size - (ib + 1)) → b[i]? = some x → key z' ≤ key x := hk3
  dsimp -zeta only
  extract_lets bc2 ia3 jp3 out3 ib3
  refine wpS_jpn (jp3 ()) (fun out' ib' => MI key a b out' ia' ib' ∧ ib' < b.size ∧ ib + 1 ≤ ib' ∧ ∀ i q, ib' ≤ i → b[i]? = some q → key z' ≤ key q) (fun out' ib' hR => ?_) fun hJ => ?_
  rotate_left
  · by_cases k0 : k > 0
    · have m3 := m2.extB sb k (by omega) fun i q z1 z2 z3 j p z4 z5 => Int.le_trans (Int.le_of_lt (hk2 i q z1 z2 z3)) (sa ia' j z' p (Nat.zero_le _) z4 (la z5) ez' z5)
      refine wpS_iT k0 ?_
      by_cases f : ib + 1 + k = b.size
      · exact wpS_iT (beq_iff_eq.mpr f) (wpS_pure ⟨hS2, .inl ⟨_, _, rfl, m3.doneB sa (by omega) f⟩⟩)
      refine wpS_iF (fun z => f (beq_iff_eq.mp z)) ?_
      exact hJ _ _ ⟨m3, by show ib + 1 + k < _; omega, by show ib + 1 ≤ ib + 1 + k; omega, fun i q z1 z2 => hk3 i q z1 (by have := lb z2; omega) z2⟩
    · exact wpS_iF k0 (hJ _ _ ⟨m2, by show ib + 1 < _; omega, Nat.le_refl _, fun i q z1 z2 => hk3 i q (by have : ib + 1 ≤ i := z1; omega) (by have := lb z2; omega) z2⟩)
  clear hk1 hk2 hk3
  obtain ⟨m3, p2', p4', hz⟩ := hR
  have m4 := m3.pushA ez' sa hz
  refine wpS_bind (wpS_el ez' ?_)
  by_cases f : ia' + 1 + 1 = a.size
  · exact wpS_iT (beq_iff_eq.mpr f) (wpS_pure ⟨hS2, .inl ⟨_, _, rfl, m4.lastA sa sb (by omega) f hl⟩⟩)
  refine wpS_iF (fun z => f (beq_iff_eq.mp z)) ?_
  split
  · exact wpS_pure ⟨hS2, .inr ⟨_, _, _, _, _, _, rfl, m4, by omega, p2', by omega⟩⟩
  · exact wpS_pure ⟨hS2, _, _, _, _, _, _, rfl, m4, by omega, p2', by omega⟩
end
end L2
namespace L2
open PySem PyProof.Rows
/-- what is merged so far from the top: falling, of those from na and nb on, above all that is left -/
structure MJ (key : Keyed → Int) (a b out : Array Keyed) (na nb : Nat) : Prop where
  perm : out.toList.Perm (a.toList.drop na ++ b.toList.drop nb)
  srt : out.toList.Pairwise fun x y => key y ≤ key x
  ha : ∀ x ∈ out.toList, ∀ i y, i < na → a[i]? = some y → key y ≤ key x
  hb : ∀ x ∈ out.toList, ∀ i y, i < nb → b[i]? = some y → key y ≤ key x
section
variable {key : Keyed → Int} {a b out : Array Keyed} {na nb : Nat}
theorem dr_succ {xs : Array Keyed} {i : Nat} {x : Keyed} (e : xs[i]? = some x) : xs.toList.drop i = x :: xs.toList.drop (i + 1) := by
  obtain ⟨h, e'⟩ := Array.getElem?_eq_some_iff.mp e
  have h' : i < xs.toList.length := by simpa using h
  rw [List.drop_eq_getElem_cons h', Array.getElem_toList, e']
theorem MJ.swap (m : MJ key a b out na nb) : MJ key b a out nb na := ⟨m.perm.trans List.perm_append_comm, m.srt, m.hb, m.ha⟩
theorem MJ.pushA (m : MJ key a b out (na + 1) nb) {x : Keyed} (e : a[na]? = some x) (sa : SdR key a 0 a.size) (h : ∀ i y, i < nb → b[i]? = some y → key y ≤ key x) : MJ key a b (out.push x) na nb := by
  have hlt := (Array.getElem?_eq_some_iff.mp e).1
  refine ⟨?_, ?_, fun y hy i z hi ez => ?_, fun y hy i z hi ez => ?_⟩
  · rw [Array.toList_push, dr_succ e]
    exact (m.perm.append_right [x]).trans List.perm_append_comm
  · rw [Array.toList_push, List.pairwise_append]
    exact ⟨m.srt, List.pairwise_singleton _ _, fun y hy z hz => by rw [List.mem_singleton.mp hz]; exact m.ha y hy na x (Nat.lt_succ_self _) e⟩
  · rw [Array.toList_push] at hy
    rcases List.mem_append.mp hy with hy | hy
    · exact m.ha y hy i z (by omega) ez
    · rw [List.mem_singleton.mp hy]
      exact sa i na z x (Nat.zero_le _) (by omega) hlt ez e
  · rw [Array.toList_push] at hy
    rcases List.mem_append.mp hy with hy | hy
    · exact m.hb y hy i z hi ez
    · rw [List.mem_singleton.mp hy]
      exact h i z hi ez
theorem MJ.pushB (m : MJ key a b out na (nb + 1)) {x : Keyed} (e : b[nb]? = some x) (sb : SdR key b 0 b.size) (h : ∀ i y, i < na → a[i]? = some y → key y ≤ key x) : MJ key a b (out.push x) na nb := (m.swap.pushA e sb h).swap
theorem ext_cons {xs : Array Keyed} {i j : Nat} {x : Keyed} (e : xs[i]? = some x) (h : i < j) (hj : j ≤ xs.size) : (xs.extract i j).reverse = (xs.extract (i + 1) j).reverse.push x := by
  apply Array.toList_inj.mp
  rw [Array.toList_push, Array.toList_reverse, Array.toList_reverse, Array.toList_extract, Array.toList_extract, List.extract_eq_take_drop, List.extract_eq_take_drop, dr_succ e, show j - i = j - (i + 1) + 1 by omega, List.take_succ_cons, List.reverse_cons]
theorem MJ.extA (m : MJ key a b out na nb) (sa : SdR key a 0 a.size) (hna : na ≤ a.size) : ∀ k, k ≤ na → (∀ i x, na - k ≤ i → i < na → a[i]? = some x → ∀ j y, j < nb → b[j]? = some y → key y ≤ key x) → MJ key a b (out ++ (a.extract (na - k) na).reverse) (na - k) nb
  | 0, _, _ => by
    have : (a.extract (na - 0) na).reverse = #[] := by simp [Nat.min_le_left]
    rw [this, Array.append_empty]
    exact m
  | k + 1, hk, h => by
    have ih := MJ.extA m sa hna k (by omega) (fun i x z1 z2 => h i x (by omega) z2)
    have e : a[na - (k + 1)]? = some (a[na - (k + 1)]'(by omega)) := getElem?_pos a _ (by omega)
    rw [ext_cons e (by omega) hna, show na - (k + 1) + 1 = na - k by omega, Array.append_push]
    rw [show na - k = na - (k + 1) + 1 by omega] at ih ⊢
    exact ih.pushA e sa (h _ _ (Nat.le_refl _) (by omega) e)
theorem MJ.exA (m : MJ key a b out na nb) (sa : SdR key a 0 a.size) (hna : na ≤ a.size) {t : Nat} (ht : t ≤ na) (h : ∀ i x, t ≤ i → i < na → a[i]? = some x → ∀ j y, j < nb → b[j]? = some y → key y ≤ key x) : MJ key a b (out ++ (a.extract t na).reverse) t nb := by
  have := m.extA sa hna (na - t) (by omega) (fun i x z1 z2 => h i x (by omega) z2)
  rwa [show na - (na - t) = t by omega] at this
theorem MJ.exB (m : MJ key a b out na nb) (sb : SdR key b 0 b.size) (hnb : nb ≤ b.size) {t : Nat} (ht : t ≤ nb) (h : ∀ i x, t ≤ i → i < nb → b[i]? = some x → ∀ j y, j < na → a[j]? = some y → key y ≤ key x) : MJ key a b (out ++ (b.extract t nb).reverse) na t := (MJ.exA m.swap sb hnb ht h).swap
theorem MJ.fin (m : MJ key a b out 0 0) : MF key a b out.reverse := by
  refine ⟨?_, ?_⟩
  · rw [Array.toList_reverse]
    exact (List.reverse_perm _).trans m.perm
  · rw [Array.toList_reverse, List.pairwise_reverse]
    exact m.srt
theorem MJ.doneA (m : MJ key a b out na nb) (sb : SdR key b 0 b.size) (hnb : nb ≤ b.size) (h : na = 0) : MF key a b (a.extract 0 na ++ b.extract 0 nb ++ out.reverse) := by
  subst h
  have := (m.exB sb hnb (Nat.zero_le _) (fun i x _ _ _ j y z => absurd z (Nat.not_lt_zero _))).fin
  rw [Array.reverse_append, Array.reverse_reverse] at this
  have e : a.extract 0 0 = #[] := by simp
  rw [e, Array.empty_append]
  exact this
theorem MJ.doneB (m : MJ key a b out na nb) (sa : SdR key a 0 a.size) (hna : na ≤ a.size) (h : nb = 0) : MF key a b (a.extract 0 na ++ b.extract 0 nb ++ out.reverse) := by
  subst h
  have := (m.exA sa hna (Nat.zero_le _) (fun i x _ _ _ j y z => absurd z (Nat.not_lt_zero _))).fin
  rw [Array.reverse_append, Array.reverse_reverse] at this
  have e : b.extract 0 0 = #[] := by simp
  rw [e, Array.append_empty]
  exact this
theorem MJ.firstB (m : MJ key a b out na nb) (sa : SdR key a 0 a.size) (sb : SdR key b 0 b.size) (hna : na ≤ a.size) (hnb : nb ≤ b.size) (h : nb = 1) (h0 : ∀ (i : Nat) (x y : Keyed), a[i]? = some x → b[0]? = some y → key y ≤ key x) : MF key a b (b.extract 0 nb ++ a.extract 0 na ++ out.reverse) := by
  subst h
  have h1 := m.exA sa hna (Nat.zero_le _) (fun i x _ _ ex j y z ey => by
    have : j = 0 := by omega
    subst this
    exact h0 i x y ex ey)
  have h2 := (h1.exB sb hnb (Nat.zero_le _) (fun i x _ _ _ j y z => absurd z (Nat.not_lt_zero _))).fin
  rw [Array.reverse_append, Array.reverse_append, Array.reverse_reverse, Array.reverse_reverse, ← Array.append_assoc] at h2
  exact h2
end
section
variable {prog : Program} {w : World} {A : Around} {E : Value → Shared → Prop} {s : Shared} {κ : SortKind} {key : Keyed → Int} {U : Keyed → Prop} {st : SortSt}
theorem wpS_mHi {a b : Array Keyed} {Q : Array Keyed → SortSt → Prop} (hc : Cm prog w A κ key U s) (hk : kindOf st = κ) (ua : ∀ x ∈ a.toList, U x) (ub : ∀ x ∈ b.toList, U x) (sa : SdR key a 0 a.size) (sb : SdR key b 0 b.size) (a1 : 1 ≤ a.size) (b1 : 1 ≤ b.size)
    (h0' : ∀ x y, a[0]? = some x → b[0]? = some y → key y ≤ key x) (hl : ∀ (i : Nat) (x y : Keyed), a[a.size - 1]? = some x → b[i]? = some y → key y ≤ key x)
    (h : ∀ r st', Sm st st' → MF key a b r → Q r st') : wpS (model prog w) A E s (mHi a b) Q st := by
  have ea : ∀ i, i < a.size → ∃ x, a[i]? = some x ∧ U x := fun i hi => ⟨a[i], getElem?_pos a i hi, ua _ (Array.getElem_mem_toList hi)⟩
  have eb : ∀ i, i < b.size → ∃ x, b[i]? = some x ∧ U x := fun i hi => ⟨b[i], getElem?_pos b i hi, ub _ (Array.getElem_mem_toList hi)⟩
  have la : ∀ {i : Nat} {x}, a[i]? = some x → i < a.size := fun {i x} e => (Array.getElem?_eq_some_iff.mp e).1
  have lb : ∀ {i : Nat} {x}, b[i]? = some x → i < b.size := fun {i x} e => (Array.getElem?_eq_some_iff.mp e).1
  obtain ⟨x0, ex0, ux0⟩ := ea 0 a1
  have h0 : ∀ (i : Nat) (x y : Keyed), a[i]? = some x → b[0]? = some y → key y ≤ key x := fun i x y ex ey => Int.le_trans (h0' x0 y ex0 ey) (sa 0 i _ _ (Nat.zero_le _) (Nat.zero_le _) (la ex) ex0 ex)
  have m0 : MJ key a b #[] (a.size - 1 + 1) b.size := ⟨by simp [show a.size - 1 + 1 = a.size by omega], by simp, by simp, by simp⟩
  obtain ⟨y0, ey0, uy0⟩ := ea (a.size - 1) (by omega)
  have m1 : MJ key a b #[y0] (a.size - 1) b.size := m0.pushA ey0 sa fun i y _ ey => hl i y0 y ey0 ey
  refine wpS_bind (wpS_lift (wpAny_rule ⟨rfl, ?_⟩))
  refine wpS_bind (wpS_el ey0 ?_)
  by_cases c1 : a.size - 1 = 0
  · exact wpS_iT (beq_iff_eq.mpr c1) (wpS_pure (h _ _ .rfl' (m1.doneA sb (Nat.le_refl _) c1)))
  refine wpS_iF (fun z => c1 (beq_iff_eq.mp z)) ?_
  by_cases c2 : b.size = 1
  · exact wpS_iT (beq_iff_eq.mpr c2) (wpS_pure (h _ _ .rfl' (m1.firstB sa sb (by omega) (Nat.le_refl _) c2 h0)))
  refine wpS_iF (fun z => c2 (beq_iff_eq.mp z)) ?_
  refine wpS_bind (wpS_get ?_)
  refine wpS_bind (wpS_mono (wpS_forRange (I := fun x c st' => Sm st st' ∧ ∃ out na nb mg, c = (none, na, nb, out, mg) ∧ MJ key a b out na nb ∧ 1 ≤ na ∧ na < a.size ∧ 2 ≤ nb ∧ nb ≤ b.size ∧ na + nb + x + 1 ≤ a.size + b.size) (Q := fun c st' => Sm st st' ∧ ∃ r z, c = (some r, z) ∧ MF key a b r) ?_ ?_ ⟨.rfl', _, _, _, _, rfl, m1, by omega, by omega, by omega, by omega, by omega⟩) ?_)
  rotate_left
  · rintro c st' ⟨_, out, ia, ib, mg, _, _, z1, z2, z3, z4, z5⟩
    omega
  · rintro c st' ⟨hS, r, z, rfl, hF⟩
    exact wpS_pure (h _ _ hS hF)
  rintro x c st' _ hx ⟨hS, out, na, nb, mg, rfl, m, p1, p1', p2, p2', p3⟩
  refine wpS_bind (wpS_mono (wpS_forRange (I := fun x' c st' => Sm st st' ∧ ∃ out na nb ac bc, c = (none, na, nb, out, ac, bc) ∧ MJ key a b out na nb ∧ 1 ≤ na ∧ na < a.size ∧ 2 ≤ nb ∧ nb ≤ b.size ∧ na + nb + x + 1 + min x' 1 ≤ a.size + b.size) (Q := fun c st' => Sm st st' ∧ ((∃ r z, c = (some r, z) ∧ MF key a b r) ∨ ∃ out na nb ac bc, c = (none, na, nb, out, ac, bc) ∧ MJ key a b out na nb ∧ 1 ≤ na ∧ na < a.size ∧ 2 ≤ nb ∧ nb ≤ b.size ∧ na + nb + x + 2 ≤ a.size + b.size)) ?_ ?_ ⟨hS, out, na, nb, 0, 0, rfl, m, p1, p1', p2, p2', by omega⟩) ?_)
  · clear m p1 p1' p2 p2' p3 hS
    rintro x' c st' _ hx' ⟨hS, out, na, nb, ac, bc, rfl, m, p1, p1', p2, p2', p3⟩
    obtain ⟨n, rfl⟩ : ∃ n, na = n + 1 := ⟨na - 1, by omega⟩
    obtain ⟨k, rfl⟩ : ∃ n, nb = n + 1 := ⟨nb - 1, by omega⟩
    obtain ⟨y, ey, uy⟩ := eb k (by omega)
    obtain ⟨z, ez, uz⟩ := ea n (by omega)
    refine wpS_bind (wpS_el ey (wpS_bind (wpS_el ez (wpS_bind (wpS_lt2 hc (hS.1.trans hk) uy uz ?_)))))
    dsimp only
    by_cases e : key y < key z
    · rw [decide_eq_true e, if_pos rfl]
      have m2 := m.pushA ez sa fun i q hi eq => Int.le_trans (sb i k _ _ (Nat.zero_le _) (by omega) (by omega) eq ey) (Int.le_of_lt e)
      refine wpS_bind (wpS_el ez ?_)
      by_cases f : n = 0
      · exact wpS_iT (beq_iff_eq.mpr f) (wpS_pure ⟨hS, .inl ⟨_, _, rfl, m2.doneA sb (by omega) f⟩⟩)
      · refine wpS_iF (fun z => f (beq_iff_eq.mp z)) ?_
        split
        · exact wpS_pure ⟨hS, .inr ⟨_, _, _, _, _, rfl, m2, by show 1 ≤ n; omega, by show n < _; omega, p2, p2', by show n + (k + 1) + x + 2 ≤ _; omega⟩⟩
        · exact wpS_pure ⟨hS, _, _, _, _, _, rfl, m2, by show 1 ≤ n; omega, by show n < _; omega, p2, p2', by show n + (k + 1) + x + 1 + _ ≤ _; omega⟩
    · rw [decide_eq_false e, if_neg (by decide)]
      have m2 := m.pushB ey sb fun i q hi eq => Int.le_trans (sa i n _ _ (Nat.zero_le _) (by omega) (by omega) eq ez) (Int.not_lt.mp e)
      refine wpS_bind (wpS_el ey ?_)
      by_cases f : k = 1
      · exact wpS_iT (beq_iff_eq.mpr f) (wpS_pure ⟨hS, .inl ⟨_, _, rfl, m2.firstB sa sb (by omega) (by omega) f h0⟩⟩)
      · refine wpS_iF (fun z => f (beq_iff_eq.mp z)) ?_
        split
        · exact wpS_pure ⟨hS, .inr ⟨_, _, _, _, _, rfl, m2, p1, p1', by show 2 ≤ k; omega, by show k ≤ _; omega, by show n + 1 + k + x + 2 ≤ _; omega⟩⟩
        · exact wpS_pure ⟨hS, _, _, _, _, _, rfl, m2, p1, p1', by show 2 ≤ k; omega, by show k ≤ _; omega, by show n + 1 + k + x + 1 + _ ≤ _; omega⟩
  · rintro c st' ⟨hS, out, ia, ib, ac, bc, rfl, m, p1, p1', p2, p2', p3⟩
    exact ⟨hS, .inr ⟨_, _, _, _, _, rfl, m, p1, p1', p2, p2', by omega⟩⟩
  clear m p1 p1' p2 p2' p3 hS
  rintro c st' ⟨hS, ⟨r, z, rfl, hF⟩ | ⟨out, na, nb, ac, bc, rfl, m, p1, p1', p2, p2', p3⟩⟩
  · exact wpS_pure ⟨hS, r, _, rfl, hF⟩
  refine wpS_bind (wpS_lift (wpAny_rule ⟨rfl, ?_⟩))
  refine wpS_bind (wpS_mono (wpS_forRange (I := fun _ c st' => Sm st st' ∧ ∃ out na nb mg ac bc, c = (none, na, nb, out, mg, ac, bc) ∧ MJ key a b out na nb ∧ 1 ≤ na ∧ na < a.size ∧ 2 ≤ nb ∧ nb ≤ b.size ∧ na + nb + x + 2 ≤ a.size + b.size) (Q := fun c st' => Sm st st' ∧ ((∃ r z, c = (some r, z) ∧ MF key a b r) ∨ ∃ out na nb mg ac bc, c = (none, na, nb, out, mg, ac, bc) ∧ MJ key a b out na nb ∧ 1 ≤ na ∧ na < a.size ∧ 2 ≤ nb ∧ nb ≤ b.size ∧ na + nb + x + 2 ≤ a.size + b.size)) ?_ ?_ ⟨hS, _, _, _, _, _, _, rfl, m, p1, p1', p2, p2', p3⟩) ?_)
  rotate_left
  · rintro c st' ⟨hS, hh⟩
    exact ⟨hS, .inr hh⟩
  · rintro c st' ⟨hS, ⟨r, z, rfl, hF⟩ | ⟨out, na, nb, mg, ac, bc, rfl, m, p1, p1', p2, p2', p3⟩⟩
    · exact wpS_pure ⟨hS, r, _, rfl, hF⟩
    · dsimp only
      exact wpS_bind (wpS_modify (wpS_pure ⟨hS.gal _, _, _, _, _, rfl, m, p1, p1', p2, p2', by omega⟩))
  clear m p1 p1' p2 p2' p3 hS
  rintro x' c st' _ hx' ⟨hS, out, na, nb, mg, ac, bc, rfl, m, p1, p1', p2, p2', p3⟩
  dsimp -zeta only
  extract_lets _ na1 _ nb1 _ out1 _ mg1 _ ac1 bc1 nb2 jp mg2
  refine wpS_two (f := jp ()) fun g => ?_
  obtain ⟨y, ey, uy⟩ := eb (nb - 1) (by omega)
  refine wpS_bind (wpS_modify (wpS_bind (wpS_el ey ?_)))
  have hS2 : Sm st (SortSt.mk' (kindOf st') (arrOf st') (pendingOf st') g (failedOf st')) := hS.gal g
  refine wpS_bind (wpS_galR hc (hS2.1.trans hk) uy (by show 0 + na ≤ a.size; omega) ua (fun i j p q z1 z2 z3 z4 z5 => sa i j p q (Nat.zero_le _) z2 (la z5) z4 z5) (by show na - 1 < na; omega) fun t hk1 hk2 hk3 => ?_)
  replace hk1 : t ≤ na := hk1
  replace hk2 : ∀ i x, 0 ≤ i → i < 0 + t → a[i]? = some x → key x ≤ key y := hk2
  replace hk3 : ∀ i x, 0 + t ≤ i → i < 0 + na → a[i]? = some x → key y < key x := hk3
  dsimp -zeta only
  clear_value mg2
  extract_lets k2 ac2 jp2 out2 na2
  refine wpS_jpn (jp2 ()) (fun na' out' => MJ key a b out' na' nb ∧ 1 ≤ na' ∧ na' ≤ na ∧ ∀ i q, i < na' → a[i]? = some q → key q ≤ key y) (fun na' out' hR => ?_) fun hJ => ?_
  rotate_left
  · by_cases k0 : na - t > 0
    · have m2 : MJ key a b (out ++ (a.extract t na).reverse) t nb := m.exA sa (by omega) (by omega) fun i q z1 z2 z3 j p z4 z5 => Int.le_trans (sb j (nb - 1) p y (Nat.zero_le _) (by omega) (by omega) z5 ey) (Int.le_of_lt (hk3 i q (by omega) (by omega) z3))
      refine wpS_iT k0 ?_
      by_cases f : t = 0
      · exact wpS_iT (beq_iff_eq.mpr f) (wpS_pure ⟨hS2, .inl ⟨_, _, rfl, m2.doneA sb (by omega) f⟩⟩)
      refine wpS_iF (fun z => f (beq_iff_eq.mp z)) ?_
      exact hJ _ _ ⟨m2, by show 1 ≤ t; omega, hk1, fun i q z1 z2 => hk2 i q (Nat.zero_le _) (by have : i < t := z1; omega) z2⟩
    · exact wpS_iF k0 (hJ _ _ ⟨m, p1, Nat.le_refl _, fun i q z1 z2 => hk2 i q (Nat.zero_le _) (by have : i < na := z1; omega) z2⟩)
  clear hk1 hk2 hk3
  obtain ⟨m', p4, p5, hy⟩ := hR
  rw [show nb = nb - 1 + 1 by omega] at m'
  have m2 := m'.pushB ey sb hy
  refine wpS_bind (wpS_el ey ?_)
  by_cases f : nb - 1 = 1
  · exact wpS_iT (beq_iff_eq.mpr f) (wpS_pure ⟨hS2, .inl ⟨_, _, rfl, m2.firstB sa sb (by omega) (by omega) f h0⟩⟩)
  refine wpS_iF (fun z => f (beq_iff_eq.mp z)) ?_
  obtain ⟨z', ez', uz'⟩ := ea (na' - 1) (by omega)
  refine wpS_bind (wpS_el ez' ?_)
  refine wpS_bind (wpS_galL hc (hS2.1.trans hk) uz' (by show 0 + (nb - 1) ≤ b.size; omega) ub (fun i j p q z1 z2 z3 z4 z5 => sb i j p q (Nat.zero_le _) z2 (lb z5) z4 z5) (by show nb - 1 - 1 < nb - 1; omega) fun t' hk1 hk2 hk3 => ?_)
  replace hk1 : t' ≤ nb - 1 := hk1
  replace hk2 : ∀ i x, 0 ≤ i → i < 0 + t' → b[i]? = some x → key x < key z' := hk2
  replace hk3 : ∀ i x, 0 + t' ≤ i → i < 0 + (nb - 1) → b[i]? = some x → key z' ≤ key x := hk3
  dsimp -zeta only
  extract_lets k3 bc2 na3 jp3 out3 nb3
  refine wpS_jpn (jp3 ()) (fun nb' out' => MJ key a b out' na' nb' ∧ 2 ≤ nb' ∧ nb' < nb ∧ ∀ i q, i < nb' → b[i]? = some q → key q ≤ key z') (fun nb' out' hR => ?_) fun hJ => ?_
  rotate_left
  · by_cases k0 : nb - 1 - t' > 0
    · have m3 := m2.exB sb (by omega) (t := t') (by omega) fun i q z1 z2 z3 j p z4 z5 => Int.le_trans (sa j (na' - 1) p z' (Nat.zero_le _) (by omega) (by omega) z5 ez') (hk3 i q (by omega) (by omega) z3)
      refine wpS_iT k0 ?_
      by_cases f : t' = 1
      · exact wpS_iT (beq_iff_eq.mpr f) (wpS_pure ⟨hS2, .inl ⟨_, _, rfl, m3.firstB sa sb (by omega) (by omega) f h0⟩⟩)
      refine wpS_iF (fun z => f (beq_iff_eq.mp z)) ?_
      by_cases f2 : t' = 0
      · exact wpS_iT (beq_iff_eq.mpr f2) (wpS_pure ⟨hS2, .inl ⟨_, _, rfl, m3.doneB sa (by omega) f2⟩⟩)
      refine wpS_iF (fun z => f2 (beq_iff_eq.mp z)) ?_
      exact hJ _ _ ⟨m3, by show 2 ≤ t'; omega, by show t' < nb; omega, fun i q z1 z2 => Int.le_of_lt (hk2 i q (Nat.zero_le _) (by have : i < t' := z1; omega) z2)⟩
    · exact wpS_iF k0 (hJ _ _ ⟨m2, by show 2 ≤ nb - 1; omega, by show nb - 1 < nb; omega, fun i q z1 z2 => Int.le_of_lt (hk2 i q (Nat.zero_le _) (by have : i < nb - 1 := z1; omega) z2)⟩)
  clear hk1 hk2 hk3
  obtain ⟨m3, p6, p7, hz⟩ := hR
  rw [show na' = na' - 1 + 1 by omega] at m3
  have m4 := m3.pushA ez' sa hz
  refine wpS_bind (wpS_el ez' ?_)
  by_cases f : na' - 1 = 0
  · exact wpS_iT (beq_iff_eq.mpr f) (wpS_pure ⟨hS2, .inl ⟨_, _, rfl, m4.doneA sb (by omega) f⟩⟩)
  refine wpS_iF (fun z => f (beq_iff_eq.mp z)) ?_
  split
  · exact wpS_pure ⟨hS2, .inr ⟨_, _, _, _, _, _, rfl, m4, by show 1 ≤ na' - 1; omega, by show na' - 1 < _; omega, p6, by omega, by show na' - 1 + nb' + x + 2 ≤ _; omega⟩⟩
  · exact wpS_pure ⟨hS2, _, _, _, _, _, _, rfl, m4, by show 1 ≤ na' - 1; omega, by show na' - 1 < _; omega, p6, by omega, by show na' - 1 + nb' + x + 2 ≤ _; omega⟩
end
end L2
namespace L2
open PySem PyProof.Rows
theorem wr_list {base : Nat} : ∀ (l : List Keyed) (n : Nat) (arr : Array Keyed), base + n + l.length ≤ arr.size → ((l.zipIdx n).foldl (fun a (pj : Keyed × Nat) => a.setIfInBounds (base + pj.2) pj.1) arr).toList = arr.toList.take (base + n) ++ l ++ arr.toList.drop (base + n + l.length)
  | [], n, arr, h => by simp
  | p :: l, n, arr, h => by
    rw [List.zipIdx_cons, List.foldl_cons]
    dsimp only
    rw [List.length_cons] at h
    rw [wr_list l (n + 1) _ (by rw [Array.size_setIfInBounds]; omega), Array.toList_setIfInBounds]
    have hl : base + n < arr.toList.length := by rw [Array.length_toList]; omega
    rw [List.set_eq_take_append_cons_drop, if_pos hl]
    have ht : (List.take (base + n) arr.toList).length = base + n := by rw [List.length_take]; omega
    have q1 : (List.take (base + n) arr.toList).take (base + n + 1) = List.take (base + n) arr.toList := List.take_of_length_le (by rw [ht]; omega)
    have q2 : (List.take (base + n) arr.toList).drop (base + n + 1 + l.length) = [] := List.drop_eq_nil_of_le (by rw [ht]; omega)
    rw [show base + (n + 1) = base + n + 1 by omega, List.take_append, List.drop_append, ht, q1, q2, show base + n + 1 - (base + n) = 0 + 1 by omega, List.take_succ_cons, List.take_zero, show base + n + 1 + l.length - (base + n) = l.length + 1 by omega, List.drop_succ_cons, List.drop_drop, List.length_cons]
    simp only [List.append_assoc, List.cons_append, List.nil_append]
    rw [show base + n + 1 + l.length = base + n + (l.length + 1) by omega]
/-- the sort's state st' of st: only places lo .. hi - 1 have changed, and what stands there is the same -/
structure Rs (st st' : SortSt) (lo hi : Nat) : Prop where
  kind : kindOf st' = kindOf st
  failed : failedOf st' = failedOf st
  perm : (arrOf st').Perm (arrOf st)
  out : ∀ j, j < lo ∨ hi ≤ j → (arrOf st')[j]? = (arrOf st)[j]?
theorem Rs.size {st st' : SortSt} {lo hi : Nat} (h : Rs st st' lo hi) : (arrOf st').size = (arrOf st).size := by
  have := (Array.perm_iff_toList_perm.mp h.perm).length_eq
  simpa using this
theorem Rs.refl {st : SortSt} {lo hi : Nat} : Rs st st lo hi := ⟨rfl, rfl, Array.Perm.refl _, fun _ _ => rfl⟩
theorem Rs.trans {st st' st2 : SortSt} {lo hi : Nat} (h : Rs st st' lo hi) (h2 : Rs st' st2 lo hi) : Rs st st2 lo hi := ⟨h2.kind.trans h.kind, h2.failed.trans h.failed, h2.perm.trans h.perm, fun j hj => (h2.out j hj).trans (h.out j hj)⟩
theorem Rs.wide {st st' : SortSt} {lo hi lo2 hi2 : Nat} (h : Rs st st' lo hi) (h1 : lo2 ≤ lo) (h2 : hi ≤ hi2) : Rs st st' lo2 hi2 := ⟨h.kind, h.failed, h.perm, fun j hj => h.out j (by omega)⟩
theorem Rs.us {st st' : SortSt} {lo hi : Nat} {U : Keyed → Prop} (h : Rs st st' lo hi) (hU : ∀ x ∈ (arrOf st).toList, U x) : ∀ x ∈ (arrOf st').toList, U x := fun x hx => hU x ((Array.perm_iff_toList_perm.mp h.perm).mem_iff.mp hx)
theorem SdR.out {key : Keyed → Int} {xs ys : Array Keyed} {a b lo hi : Nat} (h : SdR key xs a b) (e : ∀ j, j < lo ∨ hi ≤ j → ys[j]? = xs[j]?) (hd : b ≤ lo ∨ hi ≤ a) : SdR key ys a b := fun i j x y h1 h2 h3 e1 e2 => h i j x y h1 h2 h3 (by rw [← e i (by omega)]; exact e1) (by rw [← e j (by omega)]; exact e2)
theorem wpS_set {σ : Type} {M : Model} {A : Around} {E : Value → Shared → Prop} {s : Shared} {x : σ} {Q : PUnit → σ → Prop} {st : σ} (h : Q ⟨⟩ x) : wpS M A E s (set x : StateT σ Sem PUnit) Q st := by
  unfold wpS
  rw [StateT.run_set]
  exact wpAny_pure ⟨rfl, h⟩
theorem ext_get {xs : Array Keyed} {i j k : Nat} {x : Keyed} (h : (xs.extract i j)[k]? = some x) : xs[i + k]? = some x ∧ k < j - i := by
  rw [Array.getElem?_extract] at h
  split at h
  · exact ⟨h, by omega⟩
  · cases h
theorem ext_mem {xs : Array Keyed} {i j : Nat} {x : Keyed} (h : x ∈ (xs.extract i j).toList) : ∃ k, i ≤ k ∧ k < j ∧ xs[k]? = some x := by
  obtain ⟨k, hk, e⟩ := List.getElem_of_mem h
  rw [Array.getElem_toList] at e
  have e2 : (xs.extract i j)[k]? = some x := Array.getElem?_eq_some_iff.mpr ⟨by rw [Array.length_toList] at hk; exact hk, e⟩
  obtain ⟨e3, h3⟩ := ext_get e2
  exact ⟨i + k, by omega, by omega, e3⟩
section
variable {prog : Program} {w : World} {A : Around} {E : Value → Shared → Prop} {s : Shared} {κ : SortKind} {key : Keyed → Int} {U : Keyed → Prop} {st : SortSt}
theorem wpS_mAt {i sa na pw nb pb : Nat} {Q : Bool → SortSt → Prop} (hc : Cm prog w A κ key U s) (hk : kindOf st = κ) (hf : failedOf st = none) (hU : ∀ x ∈ (arrOf st).toList, U x) (hi : (pendingOf st)[i]? = some (sa, na, pw)) (hi1 : (pendingOf st)[i + 1]? = some (sa + na, nb, pb)) (hna : 1 ≤ na) (hnb : 1 ≤ nb) (hsz : sa + na + nb ≤ (arrOf st).size) (s1 : SdR key (arrOf st) sa (sa + na)) (s2 : SdR key (arrOf st) (sa + na) (sa + na + nb))
    (h : ∀ st', Rs st st' sa (sa + na + nb) → pendingOf st' = ((pendingOf st).setIfInBounds i (sa, na + nb, pw)).eraseIdxIfInBounds (i + 1) → SdR key (arrOf st') sa (sa + na + nb) → Q true st') : wpS (model prog w) A E s (mergeAt' i) Q st := by
  have el : ∀ i, i < (arrOf st).size → ∃ x, (arrOf st)[i]? = some x ∧ U x := fun i hi => ⟨(arrOf st)[i], getElem?_pos (arrOf st) i hi, hU _ (Array.getElem_mem_toList hi)⟩
  refine wpS_bind (wpS_get ?_)
  rw [hi, hi1]
  refine wpS_bind (wpS_set ?_)
  obtain ⟨y, ey, uy⟩ := el (sa + na) (by omega)
  refine wpS_bind (wpS_el ey ?_)
  refine wpS_bind (wpS_galR hc hk uy (by show sa + na ≤ (arrOf st).size; omega) hU s1 (by omega) fun k hk1 hk2 hk3 => ?_)
  dsimp only
  have R0 : ∀ g, Rs st (SortSt.mk' (kindOf st) (arrOf st) (((pendingOf st).setIfInBounds i (sa, na + nb, pw)).eraseIdxIfInBounds (i + 1)) g (failedOf st)) sa (sa + na + nb) := fun g => ⟨rfl, rfl, Array.Perm.refl _, fun _ _ => rfl⟩
  have ba : ∀ {j : Nat} {q : Keyed}, sa + na ≤ j → j < sa + na + nb → (arrOf st)[j]? = some q → key y ≤ key q := fun {j q} z1 z2 z3 => s2 (sa + na) j y q (Nat.le_refl _) z1 z2 ey z3
  by_cases c1 : na - k = 0
  · refine wpS_iT (beq_iff_eq.mpr c1) (wpS_pure (h _ (R0 _) rfl fun i j p q z1 z2 z3 e1 e2 => ?_))
    by_cases f1 : j < sa + na
    · exact s1 i j p q z1 z2 f1 e1 e2
    · by_cases f2 : i < sa + na
      · exact Int.le_trans (hk2 i p z1 (by omega) e1) (ba (by omega) z3 e2)
      · exact s2 i j p q (by omega) z2 z3 e1 e2
  refine wpS_iF (fun z => c1 (beq_iff_eq.mp z)) ?_
  obtain ⟨z, ez, uz⟩ := el (sa + k + (na - k) - 1) (by omega)
  have ez' : (arrOf st)[sa + na - 1]? = some z := by rw [← ez]; congr 1; omega
  refine wpS_bind (wpS_el ez ?_)
  refine wpS_bind (wpS_galL hc hk uz (by show sa + na + nb ≤ (arrOf st).size; omega) hU s2 (by omega) fun n hn1 hn2 hn3 => ?_)
  dsimp only
  have az : ∀ {j : Nat} {q : Keyed}, sa ≤ j → j < sa + na → (arrOf st)[j]? = some q → key q ≤ key z := fun {j q} z1 z2 z3 => s1 j (sa + na - 1) q z z1 (by omega) (by omega) z3 ez'
  by_cases c2 : n = 0
  · refine wpS_iT (beq_iff_eq.mpr c2) (wpS_pure (h _ (R0 _) rfl fun i j p q z1 z2 z3 e1 e2 => ?_))
    by_cases f1 : j < sa + na
    · exact s1 i j p q z1 z2 f1 e1 e2
    · by_cases f2 : i < sa + na
      · exact Int.le_trans (az z1 f2 e1) (hn3 j q (by omega) z3 e2)
      · exact s2 i j p q (by omega) z2 z3 e1 e2
  refine wpS_iF (fun z => c2 (beq_iff_eq.mp z)) ?_
  -- the two stretches
  have lx : ((arrOf st).extract (sa + k) (sa + na)).size = na - k := by rw [Array.size_extract]; omega
  have ly : ((arrOf st).extract (sa + na) (sa + na + n)).size = n := by rw [Array.size_extract]; omega
  have l1 : 1 ≤ ((arrOf st).extract (sa + k) (sa + na)).size := by rw [lx]; omega
  have l2 : 1 ≤ ((arrOf st).extract (sa + na) (sa + na + n)).size := by rw [ly]; omega
  have ux : ∀ x ∈ ((arrOf st).extract (sa + k) (sa + na)).toList, U x := fun x hx => by
    obtain ⟨j, _, _, e⟩ := ext_mem hx
    obtain ⟨h', e'⟩ := Array.getElem?_eq_some_iff.mp e
    exact hU x (e' ▸ Array.getElem_mem_toList h')
  have uy2 : ∀ x ∈ ((arrOf st).extract (sa + na) (sa + na + n)).toList, U x := fun x hx => by
    obtain ⟨j, _, _, e⟩ := ext_mem hx
    obtain ⟨h', e'⟩ := Array.getElem?_eq_some_iff.mp e
    exact hU x (e' ▸ Array.getElem_mem_toList h')
  have sx : SdR key ((arrOf st).extract (sa + k) (sa + na)) 0 ((arrOf st).extract (sa + k) (sa + na)).size := fun i j p q z1 z2 z3 e1 e2 => by
    obtain ⟨g1, _⟩ := ext_get e1
    obtain ⟨g2, _⟩ := ext_get e2
    exact s1 _ _ p q (by omega) (by omega) (by omega) g1 g2
  have sy : SdR key ((arrOf st).extract (sa + na) (sa + na + n)) 0 ((arrOf st).extract (sa + na) (sa + na + n)).size := fun i j p q z1 z2 z3 e1 e2 => by
    obtain ⟨g1, _⟩ := ext_get e1
    obtain ⟨g2, _⟩ := ext_get e2
    exact s2 _ _ p q (by omega) (by omega) (by omega) g1 g2
  have h0 : ∀ p q, ((arrOf st).extract (sa + k) (sa + na))[0]? = some p → ((arrOf st).extract (sa + na) (sa + na + n))[0]? = some q → key q ≤ key p := fun p q e1 e2 => by
    obtain ⟨g1, _⟩ := ext_get e1
    obtain ⟨g2, _⟩ := ext_get e2
    rw [Nat.add_zero, ey] at g2
    cases g2
    exact Int.le_of_lt (hk3 _ p (by omega) (by omega) g1)
  have hl : ∀ (i : Nat) (p q : Keyed), ((arrOf st).extract (sa + k) (sa + na))[((arrOf st).extract (sa + k) (sa + na)).size - 1]? = some p → ((arrOf st).extract (sa + na) (sa + na + n))[i]? = some q → key q ≤ key p := fun i p q e1 e2 => by
    obtain ⟨g1, _⟩ := ext_get e1
    obtain ⟨g2, g3⟩ := ext_get e2
    rw [lx, show sa + k + (na - k - 1) = sa + na - 1 by omega, ez'] at g1
    cases g1
    exact Int.le_of_lt (hn2 _ q (by omega) (by omega) g2)
  have fin : ∀ (r : Array Keyed) (st2 : SortSt), Sm (SortSt.mk' (kindOf st) (arrOf st) (((pendingOf st).setIfInBounds i (sa, na + nb, pw)).eraseIdxIfInBounds (i + 1)) (gallopOf st) (failedOf st)) st2 → MF key ((arrOf st).extract (sa + k) (sa + na)) ((arrOf st).extract (sa + na) (sa + na + n)) r →
      Q true (setArr st2 (r.toList.zipIdx.foldl (fun a (pj : Keyed × Nat) => a.setIfInBounds (sa + k + pj.2) pj.1) (arrOf st2))) ∧ failedOf st2 = none := fun r st2 hS hM => by
    obtain ⟨hp, hs⟩ := hM
    have lr : r.toList.length = na - k + n := by
      rw [hp.length_eq, List.length_append, Array.length_toList, Array.length_toList, lx, ly]
    have e2 : arrOf st2 = arrOf st := hS.2.1
    have hw := wr_list (base := sa + k) r.toList 0 (arrOf st) (by rw [lr]; omega)
    rw [Nat.add_zero, lr, show sa + k + (na - k + n) = sa + na + n by omega] at hw
    have hf2 : failedOf st2 = none := hS.2.2.2.trans hf
    refine ⟨?_, hf2⟩
    rw [e2]
    generalize r.toList.zipIdx.foldl (fun a (pj : Keyed × Nat) => a.setIfInBounds (sa + k + pj.2) pj.1) (arrOf st) = arr' at hw
    have ht : ((arrOf st).toList.take (sa + k)).length = sa + k := by rw [List.length_take, Array.length_toList]; omega
    have g1 : ∀ j, j < sa + k → arr'[j]? = (arrOf st)[j]? := fun j hj => by
      rw [← Array.getElem?_toList, hw, List.append_assoc, List.getElem?_append_left (by rw [ht]; exact hj), List.getElem?_take_of_lt hj, Array.getElem?_toList]
    have g2 : ∀ j, sa + k ≤ j → j < sa + na + n → arr'[j]? = r.toList[j - (sa + k)]? := fun j z1 z2 => by
      rw [← Array.getElem?_toList, hw, List.append_assoc, List.getElem?_append_right (by rw [ht]; exact z1), ht, List.getElem?_append_left (by rw [lr]; omega)]
    have g3 : ∀ j, sa + na + n ≤ j → arr'[j]? = (arrOf st)[j]? := fun j z1 => by
      rw [← Array.getElem?_toList, hw, List.getElem?_append_right (by rw [List.length_append, ht, lr]; omega), List.getElem?_drop, List.length_append, ht, lr, Array.getElem?_toList]
      congr 1
      omega
    have hperm : arr'.Perm (arrOf st) := by
      rw [Array.perm_iff_toList_perm, hw]
      have e3 : (arrOf st).toList = (arrOf st).toList.take (sa + k) ++ (((arrOf st).extract (sa + k) (sa + na)).toList ++ ((arrOf st).extract (sa + na) (sa + na + n)).toList) ++ (arrOf st).toList.drop (sa + na + n) := by
        rw [Array.toList_extract, Array.toList_extract, List.extract_eq_take_drop, List.extract_eq_take_drop]
        have q1 : (arrOf st).toList.drop (sa + k) = ((arrOf st).toList.drop (sa + k)).take (sa + na - (sa + k)) ++ ((arrOf st).toList.drop (sa + na)).take (sa + na + n - (sa + na)) ++ (arrOf st).toList.drop (sa + na + n) := by
          have t1 := (List.take_append_drop (sa + na - (sa + k)) ((arrOf st).toList.drop (sa + k))).symm
          rw [List.drop_drop, show sa + k + (sa + na - (sa + k)) = sa + na by omega] at t1
          have t2 := (List.take_append_drop (sa + na + n - (sa + na)) ((arrOf st).toList.drop (sa + na))).symm
          rw [List.drop_drop, show sa + na + (sa + na + n - (sa + na)) = sa + na + n by omega] at t2
          rw [List.append_assoc, ← t2]
          exact t1
        have q2 := (List.take_append_drop (sa + k) (arrOf st).toList).symm
        rw [q1] at q2
        rw [List.append_assoc, List.append_assoc]
        rw [List.append_assoc] at q2
        exact q2
      refine List.Perm.trans ?_ (List.Perm.of_eq e3.symm)
      exact (hp.append_left _).append_right _
    -- what lies in the merged stretch
    have gm : ∀ j p, sa + k ≤ j → j < sa + na + n → arr'[j]? = some p → (∃ i, sa + k ≤ i ∧ i < sa + na ∧ (arrOf st)[i]? = some p) ∨ ∃ i, sa + na ≤ i ∧ i < sa + na + n ∧ (arrOf st)[i]? = some p := fun j p z1 z2 e => by
      rw [g2 j z1 z2] at e
      rcases List.mem_append.mp (hp.mem_iff.mp (List.mem_of_getElem? e)) with q | q
      · exact .inl (ext_mem q)
      · exact .inr (ext_mem q)
    refine h _ ⟨hS.1, hS.2.2.2, hperm, fun j hj => ?_⟩ hS.2.2.1 fun i j p q z1 z2 z3 e1 e2 => ?_
    · show arr'[j]? = _
      rcases hj with hj | hj
      · exact g1 j (by omega)
      · exact g3 j (by omega)
    · replace e1 : arr'[i]? = some p := e1
      replace e2 : arr'[j]? = some q := e2
      by_cases i1 : i < sa + k
      · rw [g1 i i1] at e1
        have py : key p ≤ key y := hk2 i p z1 (by omega) e1
        by_cases j1 : j < sa + k
        · rw [g1 j j1] at e2
          exact s1 i j p q z1 z2 (by omega) e1 e2
        · by_cases j2 : j < sa + na + n
          · rcases gm j q (by omega) j2 e2 with ⟨j', y1, y2, y3⟩ | ⟨j', y1, y2, y3⟩
            · exact s1 i j' p q z1 (by omega) (by omega) e1 y3
            · exact Int.le_trans py (ba y1 (by omega) y3)
          · rw [g3 j (by omega)] at e2
            exact Int.le_trans py (ba (by omega) z3 e2)
      · by_cases i2 : i < sa + na + n
        · by_cases j2 : j < sa + na + n
          · rw [g2 i (by omega) i2] at e1
            rw [g2 j (by omega) j2] at e2
            by_cases ij : i = j
            · subst ij
              rw [e1] at e2
              cases e2
              exact Int.le_refl _
            · obtain ⟨b1, f1⟩ := List.getElem?_eq_some_iff.mp e1
              obtain ⟨b2, f2⟩ := List.getElem?_eq_some_iff.mp e2
              have := List.pairwise_iff_getElem.mp hs (i - (sa + k)) (j - (sa + k)) b1 b2 (by omega)
              rw [f1, f2] at this
              exact this
          · rw [g3 j (by omega)] at e2
            rcases gm i p (by omega) i2 e1 with ⟨i', y1, y2, y3⟩ | ⟨i', y1, y2, y3⟩
            · exact Int.le_trans (az (by omega) y2 y3) (hn3 j q (by omega) z3 e2)
            · exact s2 i' j p q y1 (by omega) z3 y3 e2
        · rw [g3 i (by omega)] at e1
          rw [g3 j (by omega)] at e2
          exact s2 i j p q (by omega) z2 z3 e1 e2
  have go : ∀ (r : Array Keyed) (st2 : SortSt), Sm (SortSt.mk' (kindOf st) (arrOf st) (((pendingOf st).setIfInBounds i (sa, na + nb, pw)).eraseIdxIfInBounds (i + 1)) (gallopOf st) (failedOf st)) st2 → MF key ((arrOf st).extract (sa + k) (sa + na)) ((arrOf st).extract (sa + na) (sa + na + n)) r → Q (failedOf (setArr st2 (r.toList.zipIdx.foldl (fun a (pj : Keyed × Nat) => a.setIfInBounds (sa + k + pj.2) pj.1) (arrOf st2)))).isNone (setArr st2 (r.toList.zipIdx.foldl (fun a (pj : Keyed × Nat) => a.setIfInBounds (sa + k + pj.2) pj.1) (arrOf st2))) := fun r st2 hS hM => by
    obtain ⟨q, hf2⟩ := fin r st2 hS hM
    show Q (failedOf st2).isNone _
    rw [hf2]
    exact q
  by_cases c3 : na - k ≤ n
  · refine wpS_iT c3 (wpS_bind (wpS_mLo hc hk ux uy2 sx sy l1 l2 h0 hl fun r st2 hS hM => ?_))
    exact wpS_bind (wpS_modify (wpS_bind (wpS_get (wpS_pure (go r st2 hS hM)))))
  · refine wpS_iF c3 (wpS_bind (wpS_mHi hc hk ux uy2 sx sy l1 l2 h0 hl fun r st2 hS hM => ?_))
    exact wpS_bind (wpS_modify (wpS_bind (wpS_get (wpS_pure (go r st2 hS hM)))))
end
end L2
namespace L2
open PySem PyProof.Rows
def Gx (key : Keyed → Int) (xs : Array Keyed) (i : Nat) : Int := match xs[i]? with
  | some x => key x
  | none => 0
def SdG (key : Keyed → Int) (xs : Array Keyed) (a b : Nat) : Prop := ∀ i j, a ≤ i → i ≤ j → j < b → Gx key xs i ≤ Gx key xs j
def NdG (key : Keyed → Int) (xs : Array Keyed) (a b : Nat) : Prop := ∀ i j, a ≤ i → i ≤ j → j < b → Gx key xs j ≤ Gx key xs i
theorem Gx_some {key : Keyed → Int} {xs : Array Keyed} {i : Nat} {x : Keyed} (e : xs[i]? = some x) : Gx key xs i = key x := by unfold Gx; rw [e]
theorem Gx_congr {key : Keyed → Int} {xs ys : Array Keyed} {i j : Nat} (e : xs[i]? = ys[j]?) : Gx key xs i = Gx key ys j := by unfold Gx; rw [e]
theorem SdG.sdR {key : Keyed → Int} {xs : Array Keyed} {a b : Nat} (h : SdG key xs a b) : SdR key xs a b := fun i j x y h1 h2 h3 e1 e2 => by
  have := h i j h1 h2 h3
  rwa [Gx_some e1, Gx_some e2] at this
theorem Gx_mir {key : Keyed → Int} {xs : Array Keyed} {i j : Nat} (hj : j ≤ xs.size) (k : Nat) : Gx key (mirror xs i j ((j - i) / 2)) k = if i ≤ k ∧ k < j then Gx key xs (i + j - 1 - k) else Gx key xs k := by
  have e := getElem?_mirror_all (i := i) hj k
  by_cases h1 : i ≤ k ∧ k < j
  · rw [if_pos h1] at e ⊢
    exact Gx_congr e
  · rw [if_neg h1] at e ⊢
    exact Gx_congr e
theorem Gx_mir_eq {key : Keyed → Int} {xs : Array Keyed} {i j : Nat} (hj : j ≤ xs.size) (h : ∀ k, i ≤ k → k < j → Gx key xs k = Gx key xs (j - 1)) (k : Nat) : Gx key (mirror xs i j ((j - i) / 2)) k = Gx key xs k := by
  rw [Gx_mir hj]
  split
  · rw [h _ (by omega) (by omega), h k (by omega) (by omega)]
  · rfl
def Rp (st st' : SortSt) (lo hi : Nat) : Prop := Rs st st' lo hi ∧ pendingOf st' = pendingOf st
theorem Rp.refl {st : SortSt} {lo hi : Nat} : Rp st st lo hi := ⟨.refl, rfl⟩
theorem Rp.rev {st st' : SortSt} {lo hi i j : Nat} (h : Rp st st' lo hi) (h1 : lo ≤ i) (h2 : j ≤ hi) (h3 : j ≤ (arrOf st').size) : Rp st (setArr st' (mirror (arrOf st') i j ((j - i) / 2))) lo hi :=
  ⟨h.1.trans ⟨rfl, rfl, mirror_perm _ _ _ _, fun k hk => by
    show (mirror (arrOf st') i j ((j - i) / 2))[k]? = _
    rw [getElem?_mirror_all h3, if_neg (by omega)]⟩, h.2⟩
section
variable {prog : Program} {w : World} {A : Around} {E : Value → Shared → Prop} {s : Shared} {κ : SortKind} {key : Keyed → Int} {U : Keyed → Prop} {st : SortSt}
theorem wpS_jq {σ α β : Type} {M : Model} {m : StateT σ Sem α} (f : β → StateT σ Sem α) (R : σ → Prop) {Q : α → σ → Prop} {st : σ} (h : ∀ x st', R st' → wpS M A E s (f x) Q st') (k : (∀ x st', R st' → wpS M A E s (f x) Q st') → wpS M A E s m Q st) : wpS M A E s m Q st := k h
theorem wpS_ltG {i j : Nat} {Q : Option Bool → SortSt → Prop} (hc : Cm prog w A κ key U s) (hk : kindOf st = κ) (hU : ∀ x ∈ (arrOf st).toList, U x) (hi : i < (arrOf st).size) (hj : j < (arrOf st).size) (h : Q (some (decide (Gx key (arrOf st) i < Gx key (arrOf st) j))) st) : wpS (model prog w) A E s (ltAt' i j) Q st := by
  have ei : (arrOf st)[i]? = some (arrOf st)[i] := getElem?_pos _ i hi
  have ej : (arrOf st)[j]? = some (arrOf st)[j] := getElem?_pos _ j hj
  rw [Gx_some ei, Gx_some ej] at h
  rw [ltAt'_eq]
  exact wpS_bind (wpS_get (wpS_bind (wpS_el ei (wpS_bind (wpS_el ej (wpS_lt2 hc hk (hU _ (Array.getElem_mem_toList hi)) (hU _ (Array.getElem_mem_toList hj)) h))))))
theorem SdG.snoc {xs : Array Keyed} {a b : Nat} (h : SdG key xs a b) (hab : a < b) (hle : Gx key xs (b - 1) ≤ Gx key xs b) : SdG key xs a (b + 1) := fun i j z1 z2 z3 => by
  by_cases e : j < b
  · exact h i j z1 z2 e
  · have ej : j = b := by omega
    subst ej
    by_cases e2 : i = j
    · subst e2
      exact Int.le_refl _
    · exact Int.le_trans (h i (j - 1) z1 (by omega) (by omega)) hle
theorem NdG.snoc {xs : Array Keyed} {a b : Nat} (h : NdG key xs a b) (hle : a < b → Gx key xs b ≤ Gx key xs (b - 1)) : NdG key xs a (b + 1) := fun i j z1 z2 z3 => by
  by_cases e : j < b
  · exact h i j z1 z2 e
  · have ej : j = b := by omega
    subst ej
    by_cases e2 : i = j
    · subst e2
      exact Int.le_refl _
    · exact Int.le_trans (hle (by omega)) (h i (j - 1) z1 (by omega) (by omega))
theorem NdG.same {xs ys : Array Keyed} {a b : Nat} (h : NdG key xs a b) (e : ∀ k, Gx key ys k = Gx key xs k) : NdG key ys a b := fun i j z1 z2 z3 => by
  rw [e, e]
  exact h i j z1 z2 z3
theorem wpS_cnt {lo nrem : Nat} {Q : Option Nat → SortSt → Prop} (hc : Cm prog w A κ key U s) (hk : kindOf st = κ) (hU : ∀ x ∈ (arrOf st).toList, U x) (h1 : 1 ≤ nrem) (hsz : lo + nrem ≤ (arrOf st).size)
    (h : ∀ m st', Rp st st' lo (lo + nrem) → 1 ≤ m → m ≤ nrem → SdG key (arrOf st') lo (lo + m) → Q (some m) st') : wpS (model prog w) A E s (countRun' lo nrem) Q st := by
  refine wpS_bind (wpS_mono (wpS_forRange (I := fun x c st' => st' = st ∧ c = (none, x) ∧ SdG key (arrOf st) lo (lo + x)) (Q := fun c st' => st' = st ∧ ∃ n, c = (none, n) ∧ 1 ≤ n ∧ n ≤ nrem ∧ SdG key (arrOf st) lo (lo + n) ∧ (n = nrem ∨ Gx key (arrOf st) (lo + n) < Gx key (arrOf st) (lo + n - 1))) ?_ ?_ ⟨rfl, rfl, fun i j z1 z2 z3 => ?_⟩) ?_)
  · rintro x c st' hx1 hx ⟨rfl, rfl, q⟩
    refine wpS_bind (wpS_ltG hc hk hU (by show lo + x < _; omega) (by show lo + x - 1 < _; omega) ?_)
    dsimp only
    by_cases e : Gx key (arrOf st') (lo + x) < Gx key (arrOf st') (lo + x - 1)
    · rw [decide_eq_true e, if_pos rfl]
      exact wpS_pure ⟨rfl, x, rfl, hx1, by omega, q, .inr e⟩
    · rw [decide_eq_false e, if_neg (by decide)]
      exact wpS_pure ⟨rfl, rfl, q.snoc (by omega) (by omega)⟩
  · rintro c st' ⟨rfl, rfl, q⟩
    rw [show max 1 nrem = nrem by omega] at q ⊢
    exact ⟨rfl, nrem, rfl, h1, Nat.le_refl _, q, .inl rfl⟩
  · have : i = j := by omega
    subst this
    exact Int.le_refl _
  rintro c st' ⟨rfl, n, rfl, n1, n2, q, hor⟩
  by_cases c1 : n = nrem
  · exact wpS_iT (beq_iff_eq.mpr c1) (wpS_pure (h n _ .refl n1 n2 q))
  refine wpS_iF (fun z => c1 (beq_iff_eq.mp z)) ?_
  have hlt := hor.resolve_left c1
  dsimp -zeta only
  extract_lets n' neq jp
  refine wpS_jq jp (fun st2 => Rp st' st2 lo (lo + nrem) ∧ NdG key (arrOf st2) lo (lo + n + 1)) (fun u st2 hR => ?_) fun hJ => ?_
  rotate_left
  · by_cases c2 : n > 1
    · refine wpS_iT c2 ?_
      refine wpS_bind (wpS_ltG hc hk hU (by omega) (by omega) ?_)
      dsimp only
      by_cases e : Gx key (arrOf st') lo < Gx key (arrOf st') (lo + n - 1)
      · rw [decide_eq_true e, if_pos rfl]
        exact wpS_pure (h n _ .refl n1 n2 q)
      · rw [decide_eq_false e, if_neg (by decide)]
        have hall : ∀ k, lo ≤ k → k < lo + n → Gx key (arrOf st') k = Gx key (arrOf st') (lo + n - 1) := fun k z1 z2 => by
          have a1 := q lo k (Nat.le_refl _) z1 z2
          have a2 := q k (lo + n - 1) z1 (by omega) (by omega)
          omega
        refine wpS_bind (wpS_reverse (hJ () _ ⟨Rp.refl.rev (Nat.le_refl _) (by omega) (by omega), ?_⟩))
        refine NdG.same (xs := arrOf st') (NdG.snoc (fun i j z1 z2 z3 => ?_) fun _ => Int.le_of_lt hlt) (Gx_mir_eq (by omega) hall)
        rw [hall i z1 (by omega), hall j (by omega) z3]
        exact Int.le_refl _
    · refine wpS_iF c2 (hJ () _ ⟨.refl, NdG.snoc (fun i j z1 z2 z3 => ?_) fun _ => Int.le_of_lt hlt⟩)
      have : i = j := by omega
      subst this
      exact Int.le_refl _
  obtain ⟨R2, N2⟩ := hR
  refine wpS_bind (wpS_lift (wpAny_rule ⟨rfl, ?_⟩))
  refine wpS_bind (wpS_mono (wpS_forRange (I := fun x c st3 => ∃ e, c = (none, x, e) ∧ Rp st' st3 lo (lo + nrem) ∧ NdG key (arrOf st3) lo (lo + x) ∧ e + 1 ≤ x ∧ ∀ i, lo + x - (e + 1) ≤ i → i < lo + x → Gx key (arrOf st3) i = Gx key (arrOf st3) (lo + x - 1)) (Q := fun c st3 => ∃ x e, c = (none, x, e) ∧ Rp st' st3 lo (lo + nrem) ∧ x ≤ nrem ∧ NdG key (arrOf st3) lo (lo + x) ∧ e + 1 ≤ x ∧ ∀ i, lo + x - (e + 1) ≤ i → i < lo + x → Gx key (arrOf st3) i = Gx key (arrOf st3) (lo + x - 1)) ?_ ?_ ⟨0, rfl, R2, N2, by omega, fun i z1 z2 => by congr 1; omega⟩) ?_)
  · rintro x c st3 hx1 hx ⟨e, rfl, R3, N3, p1, p2⟩
    have hs3 := R3.1.size
    have hk3 := R3.1.kind.trans hk
    have hU3 := R3.1.us hU
    replace hx1 : n + 1 ≤ x := hx1
    refine wpS_bind (wpS_ltG hc hk3 hU3 (by show lo + x < _; omega) (by show lo + x - 1 < _; omega) ?_)
    dsimp only
    by_cases e1 : Gx key (arrOf st3) (lo + x) < Gx key (arrOf st3) (lo + x - 1)
    · rw [decide_eq_true e1, if_pos rfl]
      by_cases e2 : e > 0
      · rw [if_pos e2]
        refine wpS_bind (wpS_reverse (wpS_pure ⟨0, rfl, R3.rev (by omega) (by omega) (by omega), ?_, by omega, fun i z1 z2 => by congr 1; omega⟩))
        exact NdG.same (xs := arrOf st3) (N3.snoc fun _ => Int.le_of_lt e1) (Gx_mir_eq (by omega) p2)
      · rw [if_neg e2]
        exact wpS_pure ⟨0, rfl, R3, N3.snoc fun _ => Int.le_of_lt e1, by omega, fun i z1 z2 => by congr 1; omega⟩
    · rw [decide_eq_false e1, if_neg (by decide)]
      refine wpS_bind (wpS_ltG hc hk3 hU3 (by omega) (by omega) ?_)
      dsimp only
      by_cases e2 : Gx key (arrOf st3) (lo + x - 1) < Gx key (arrOf st3) (lo + x)
      · rw [decide_eq_true e2, if_pos rfl]
        exact wpS_pure ⟨x, e, rfl, R3, by omega, N3, p1, p2⟩
      · rw [decide_eq_false e2, if_neg (by decide)]
        have e3 : Gx key (arrOf st3) (lo + x) = Gx key (arrOf st3) (lo + x - 1) := by omega
        refine wpS_pure ⟨e + 1, rfl, R3, N3.snoc fun _ => by omega, by omega, fun i z1 z2 => ?_⟩
        rw [show lo + (x + 1) - 1 = lo + x by omega]
        by_cases e4 : i = lo + x
        · rw [e4]
        · rw [e3]
          exact p2 i (by omega) (by omega)
  · rintro c st3 ⟨e, rfl, R3, N3, p1, p2⟩
    rw [show max (n + 1) nrem = nrem by omega] at N3 p1 p2
    rw [show max n' nrem = nrem from (by show max (n + 1) nrem = nrem; omega)]
    exact ⟨nrem, e, rfl, R3, Nat.le_refl _, N3, p1, p2⟩
  rintro c st3 ⟨x, e, rfl, R3, x2, N3, p1, p2⟩
  have hs3 := R3.1.size
  dsimp -zeta only
  extract_lets _ _ x' e' jp2
  refine wpS_jq jp2 (fun st4 => Rp st' st4 lo (lo + nrem) ∧ NdG key (arrOf st4) lo (lo + x)) (fun u st4 hR => ?_) fun hJ => ?_
  rotate_left
  · by_cases e2 : e > 0
    · exact wpS_iT e2 (wpS_bind (wpS_reverse (hJ () _ ⟨R3.rev (by show lo ≤ lo + x - (e + 1); omega) (by show lo + x ≤ _; omega) (by show lo + x ≤ _; omega), NdG.same (xs := arrOf st3) N3 (Gx_mir_eq (by show lo + x ≤ _; omega) p2)⟩)))
    · exact wpS_iF e2 (hJ () _ ⟨R3, N3⟩)
  obtain ⟨R4, N4⟩ := hR
  have hs4 := R4.1.size
  refine wpS_bind (wpS_reverse ?_)
  have R5 := R4.rev (i := lo) (j := lo + x) (Nat.le_refl _) (by omega) (by omega)
  have N5 : SdG key (arrOf (setArr st4 (mirror (arrOf st4) lo (lo + x) ((lo + x - lo) / 2)))) lo (lo + x) := fun i j z1 z2 z3 => by
    show Gx key (mirror (arrOf st4) lo (lo + x) ((lo + x - lo) / 2)) i ≤ Gx key (mirror (arrOf st4) lo (lo + x) ((lo + x - lo) / 2)) j
    rw [Gx_mir (by omega), Gx_mir (by omega), if_pos (by omega), if_pos (by omega)]
    exact N4 _ _ (by omega) (by omega) (by omega)
  show wpS _ _ _ _ _ _ (setArr st4 (mirror (arrOf st4) lo (lo + x) ((lo + x - lo) / 2)))
  generalize setArr st4 (mirror (arrOf st4) lo (lo + x) ((lo + x - lo) / 2)) = st5 at R5 N5
  have hs5 := R5.1.size
  have hk5 := R5.1.kind.trans hk
  have hU5 := R5.1.us hU
  refine wpS_bind (wpS_mono (wpS_forRange (I := fun y c st6 => st6 = st5 ∧ c = (none, y) ∧ SdG key (arrOf st5) lo (lo + y)) (Q := fun c st6 => st6 = st5 ∧ ∃ n, c = (none, n) ∧ 1 ≤ n ∧ n ≤ nrem ∧ SdG key (arrOf st5) lo (lo + n)) ?_ ?_ ⟨rfl, rfl, N5⟩) ?_)
  · rintro y c st6 hx1 hx ⟨rfl, rfl, q⟩
    replace hx1 : x ≤ y := hx1
    refine wpS_bind (wpS_ltG hc hk5 hU5 (by show lo + y < _; omega) (by show lo + y - 1 < _; omega) ?_)
    dsimp only
    by_cases e : Gx key (arrOf st6) (lo + y) < Gx key (arrOf st6) (lo + y - 1)
    · rw [decide_eq_true e, if_pos rfl]
      exact wpS_pure ⟨rfl, y, rfl, by omega, by omega, q⟩
    · rw [decide_eq_false e, if_neg (by decide)]
      exact wpS_pure ⟨rfl, rfl, q.snoc (by omega) (by omega)⟩
  · rintro c st6 ⟨rfl, rfl, q⟩
    have em : max x' nrem = nrem := by show max x nrem = nrem; omega
    rw [em] at q ⊢
    exact ⟨rfl, nrem, rfl, h1, Nat.le_refl _, q⟩
  · rintro c st6 ⟨rfl, m, rfl, m1, m2, q⟩
    exact wpS_pure (h m _ R5 m1 m2 q)
theorem wpS_bin {lo n ok : Nat} {Q : Bool → SortSt → Prop} (hc : Cm prog w A κ key U s) (hk : kindOf st = κ) (hU : ∀ x ∈ (arrOf st).toList, U x) (hsz : lo + n ≤ (arrOf st).size) (hok : ok ≤ n) (hs : SdG key (arrOf st) lo (lo + ok))
    (h : ∀ st', Rp st st' lo (lo + n) → SdG key (arrOf st') lo (lo + n) → Q true st') : wpS (model prog w) A E s (binarySort' lo n ok) Q st := by
  refine wpS_bind (wpS_mono (wpS_forRange (I := fun k c st' => c = (none, ()) ∧ Rp st st' lo (lo + n) ∧ SdG key (arrOf st') lo (lo + min k n)) (Q := fun c st' => c = (none, ()) ∧ Rp st st' lo (lo + n) ∧ SdG key (arrOf st') lo (lo + n)) ?_ ?_ ⟨rfl, .refl, fun i j z1 z2 z3 => ?_⟩) ?_)
  · rintro k c st' k1 k2 ⟨rfl, R, q⟩
    rw [show min k n = k by omega] at q
    have hs' := R.1.size
    refine wpS_bind (wpS_mono (wpS_forRange (I := fun x c st2 => st2 = st' ∧ ∃ l r, c = (none, l, r) ∧ l ≤ r ∧ r ≤ k ∧ r - l ≤ k - x ∧ (∀ i, i < l → Gx key (arrOf st') (lo + i) ≤ Gx key (arrOf st') (lo + k)) ∧ ∀ i, r ≤ i → i < k → Gx key (arrOf st') (lo + k) < Gx key (arrOf st') (lo + i))
      (Q := fun c st2 => st2 = st' ∧ ∃ l r, c = (none, l, r) ∧ l ≤ k ∧ (∀ i, i < l → Gx key (arrOf st') (lo + i) ≤ Gx key (arrOf st') (lo + k)) ∧ ∀ i, l ≤ i → i < k → Gx key (arrOf st') (lo + k) < Gx key (arrOf st') (lo + i)) ?_ ?_ ⟨rfl, 0, k, rfl, by omega, by omega, by omega, fun i hi => by omega, fun i z1 z2 => by omega⟩) ?_)
    · rintro x c st2 _ hx ⟨rfl, l, r, rfl, p1, p2, p3, p4, p5⟩
      dsimp only
      by_cases e : l ≥ r
      · rw [if_pos e]
        have : l = r := by omega
        subst this
        exact wpS_pure ⟨rfl, l, l, rfl, p2, p4, p5⟩
      · rw [if_neg e]
        refine wpS_bind (wpS_ltG hc (R.1.kind.trans hk) (R.1.us hU) (by omega) (by omega) ?_)
        dsimp only
        by_cases e1 : Gx key (arrOf st2) (lo + k) < Gx key (arrOf st2) (lo + (l + r) / 2)
        · rw [decide_eq_true e1, if_pos rfl]
          exact wpS_pure ⟨rfl, l, _, rfl, by omega, by omega, by omega, p4, fun i z1 z2 => Int.lt_of_lt_of_le e1 (q _ _ (by omega) (by omega) (by omega))⟩
        · rw [decide_eq_false e1, if_neg (by decide)]
          exact wpS_pure ⟨rfl, _, r, rfl, by omega, by omega, by omega, fun i z1 => Int.le_trans (q (lo + i) (lo + (l + r) / 2) (by omega) (by omega) (by omega)) (by omega), p5⟩
    · rintro c st2 ⟨rfl, l, r, rfl, p1, p2, p3, p4, p5⟩
      have : l = r := by omega
      subst this
      exact ⟨rfl, l, l, rfl, p2, p4, p5⟩
    · rintro c st2 ⟨rfl, l, r, rfl, p2, p4, p5⟩
      have ks : lo + k < (arrOf st2).size := by omega
      have gb := fun i => getElem?_bubble (xs := arrOf st2) ks (lo + k - (lo + l)) (by omega) i
      rw [show lo + k - (lo + k - (lo + l)) = lo + l by omega] at gb
      refine wpS_bind (wpS_modify (wpS_pure ⟨rfl, ⟨R.1.trans ⟨rfl, rfl, bubble_perm _ _ _, fun j hj => ?_⟩, R.2⟩, fun i j z1 z2 z3 => ?_⟩))
      · show (bubble (arrOf st2) (lo + k) (lo + k - (lo + l)))[j]? = _
        rw [gb, if_neg (by omega), if_neg (by omega)]
      · rw [show min (k + 1) n = k + 1 by omega] at z3
        have gg : ∀ i, Gx key (bubble (arrOf st2) (lo + k) (lo + k - (lo + l))) i = if i = lo + l then Gx key (arrOf st2) (lo + k) else if lo + l < i ∧ i ≤ lo + k then Gx key (arrOf st2) (i - 1) else Gx key (arrOf st2) i := fun i => by
          have e := gb i
          by_cases f1 : i = lo + l
          · rw [if_pos f1] at e ⊢
            exact Gx_congr e
          · rw [if_neg f1] at e ⊢
            by_cases f2 : lo + l < i ∧ i ≤ lo + k
            · rw [if_pos f2] at e ⊢
              exact Gx_congr e
            · rw [if_neg f2] at e ⊢
              exact Gx_congr e
        show Gx key (bubble (arrOf st2) (lo + k) (lo + k - (lo + l))) i ≤ Gx key (bubble (arrOf st2) (lo + k) (lo + k - (lo + l))) j
        have lowp : ∀ i, lo ≤ i → i < lo + l → Gx key (arrOf st2) i ≤ Gx key (arrOf st2) (lo + k) := fun i y1 y2 => by
          have := p4 (i - lo) (by omega)
          rwa [show lo + (i - lo) = i by omega] at this
        have highp : ∀ i, lo + l ≤ i → i < lo + k → Gx key (arrOf st2) (lo + k) ≤ Gx key (arrOf st2) i := fun i y1 y2 => by
          have := p5 (i - lo) (by omega) (by omega)
          rw [show lo + (i - lo) = i by omega] at this
          omega
        rw [gg, gg]
        repeat' split
        all_goals first
          | (exfalso; omega)
          | exact Int.le_refl _
          | exact lowp _ (by omega) (by omega)
          | exact highp _ (by omega) (by omega)
          | exact q _ _ (by omega) (by omega) (by omega)
  · rintro c st' ⟨rfl, R, q⟩
    rw [show min (max (max ok 1) n) n = n by omega] at q
    exact ⟨rfl, R, q⟩
  · by_cases e : ok = 0
    · have : i = j := by omega
      subst this
      exact Int.le_refl _
    · exact hs i j z1 z2 (by omega)
  · rintro c st' ⟨rfl, R, q⟩
    exact wpS_pure (h _ R q)
end
end L2
namespace L2
open PySem PyProof.Rows
/-- runs, one behind the other, each rising -/
def Chn (key : Keyed → Int) (xs : Array Keyed) : List (Nat × Nat × Nat) → Nat → Nat → Prop
  | [], a, b => a = b
  | q :: r, a, b => q.1 = a ∧ 1 ≤ q.2.1 ∧ SdR key xs a (a + q.2.1) ∧ Chn key xs r (a + q.2.1) b
section
variable {key : Keyed → Int} {xs ys : Array Keyed}
theorem Chn.le : ∀ {l : List (Nat × Nat × Nat)} {a b : Nat}, Chn key xs l a b → a + l.length ≤ b
  | [], a, b, h => by
    have h' : a = b := h
    simp [h']
  | q :: r, a, b, ⟨h1, h2, h3, h4⟩ => by
    have := Chn.le h4
    rw [List.length_cons]
    omega
theorem Chn.out {lo hi : Nat} (e : ∀ j, j < lo ∨ hi ≤ j → ys[j]? = xs[j]?) : ∀ {l : List (Nat × Nat × Nat)} {a b : Nat}, Chn key xs l a b → b ≤ lo ∨ hi ≤ a → Chn key ys l a b
  | [], a, b, h, _ => h
  | q :: r, a, b, ⟨h1, h2, h3, h4⟩, hd => by
    have := Chn.le h4
    exact ⟨h1, h2, h3.out e (by omega), Chn.out e h4 (by omega)⟩
theorem Chn.snoc {n p : Nat} (h1 : 1 ≤ n) : ∀ {l : List (Nat × Nat × Nat)} {a b : Nat}, Chn key xs l a b → SdR key xs b (b + n) → Chn key xs (l ++ [(b, n, p)]) a (b + n)
  | [], a, b, h, hs => by
    have h' : a = b := h
    subst h'
    exact ⟨rfl, h1, hs, rfl⟩
  | q :: r, a, b, ⟨g1, g2, g3, g4⟩, hs => ⟨g1, g2, g3, Chn.snoc h1 g4 hs⟩
theorem Chn.pow {f : Nat × Nat × Nat → Nat × Nat × Nat} (hf : ∀ q, (f q).1 = q.1 ∧ (f q).2.1 = q.2.1) : ∀ {l : List (Nat × Nat × Nat)} (i : Nat) {a b : Nat}, Chn key xs l a b → Chn key xs (l.modify i f) a b
  | [], i, a, b, h => by simpa using h
  | q :: r, 0, a, b, ⟨g1, g2, g3, g4⟩ => by
    rw [List.modify_zero_cons]
    obtain ⟨e1, e2⟩ := hf q
    exact ⟨e1.trans g1, by rw [e2]; exact g2, by rw [e2]; exact g3, by rw [e2]; exact g4⟩
  | q :: r, i + 1, a, b, ⟨g1, g2, g3, g4⟩ => by
    rw [List.modify_succ_cons]
    exact ⟨g1, g2, g3, Chn.pow hf i g4⟩
theorem Chn.merge : ∀ {l : List (Nat × Nat × Nat)} (i : Nat) {a b : Nat}, Chn key xs l a b → i + 1 < l.length → ∃ sa na pw nb pb, l[i]? = some (sa, na, pw) ∧ l[i + 1]? = some (sa + na, nb, pb) ∧ 1 ≤ na ∧ 1 ≤ nb ∧ a ≤ sa ∧ sa + na + nb ≤ b ∧ SdR key xs sa (sa + na) ∧ SdR key xs (sa + na) (sa + na + nb) ∧ ∀ ys : Array Keyed, (∀ j, j < sa ∨ sa + na + nb ≤ j → ys[j]? = xs[j]?) → SdR key ys sa (sa + na + nb) → Chn key ys ((l.set i (sa, na + nb, pw)).eraseIdx (i + 1)) a b
  | [], i, a, b, h, hl => by simp at hl
  | [q], i, a, b, h, hl => by simp at hl
  | (sa, na, pw) :: (sb, nb, pb) :: r, 0, a, b, ⟨g1, g2, g3, h1, h2, h3, h4⟩, hl => by
    replace g1 : sa = a := g1
    replace h1 : sb = a + na := h1
    subst g1 h1
    have := Chn.le h4
    refine ⟨sa, na, pw, nb, pb, rfl, rfl, g2, h2, Nat.le_refl _, Nat.le_trans (Nat.le_add_right _ _) this, g3, h3, fun ys e hs => ?_⟩
    show Chn key ys ((sa, na + nb, pw) :: r) sa b
    refine ⟨rfl, by show 1 ≤ na + nb; have : 1 ≤ na := g2; omega, by show SdR key ys sa (sa + (na + nb)); rw [← Nat.add_assoc]; exact hs, ?_⟩
    show Chn key ys r (sa + (na + nb)) b
    rw [← Nat.add_assoc]
    exact Chn.out e h4 (.inr (Nat.le_refl _))
  | q :: q2 :: r, i + 1, a, b, ⟨g1, g2, g3, g4⟩, hl => by
    obtain ⟨sa, na, pw, nb, pb, e1, e2, k1, k2, k3, k4, k5, k6, k7⟩ := Chn.merge (l := q2 :: r) i g4 (by simpa using hl)
    refine ⟨sa, na, pw, nb, pb, by rw [List.getElem?_cons_succ]; exact e1, by rw [List.getElem?_cons_succ]; exact e2, k1, k2, by omega, k4, k5, k6, fun ys e hs => ?_⟩
    rw [List.set_cons_succ, List.eraseIdx_cons_succ]
    exact ⟨g1, g2, g3.out e (.inl k3), k7 ys e hs⟩
end
/-- the sort's state st' of st: the same things -/
structure Rg (st st' : SortSt) : Prop where
  kind : kindOf st' = kindOf st
  failed : failedOf st' = failedOf st
  perm : (arrOf st').Perm (arrOf st)
theorem Rg.refl {st : SortSt} : Rg st st := ⟨rfl, rfl, Array.Perm.refl _⟩
theorem Rg.rs {st st' st2 : SortSt} {lo hi : Nat} (h : Rg st st') (h2 : Rs st' st2 lo hi) : Rg st st2 := ⟨h2.kind.trans h.kind, h2.failed.trans h.failed, h2.perm.trans h.perm⟩
theorem Rg.size {st st' : SortSt} (h : Rg st st') : (arrOf st').size = (arrOf st).size := by
  have := (Array.perm_iff_toList_perm.mp h.perm).length_eq
  simpa using this
theorem Rg.us {st st' : SortSt} {U : Keyed → Prop} (h : Rg st st') (hU : ∀ x ∈ (arrOf st).toList, U x) : ∀ x ∈ (arrOf st').toList, U x := fun x hx => hU x ((Array.perm_iff_toList_perm.mp h.perm).mem_iff.mp hx)
section
variable {prog : Program} {w : World} {A : Around} {E : Value → Shared → Prop} {s : Shared} {κ : SortKind} {key : Keyed → Int} {U : Keyed → Prop} {st : SortSt}
theorem wpS_jpn' {σ α β : Type} {M : Model} {σ₀ : σ} {m : StateT σ Sem α} (f : β → StateT σ Sem α) (R : β → σ → Prop) {Q : α → σ → Prop} (h : ∀ x st, R x st → wpS M A E s (f x) Q st) (k : (∀ x st, R x st → wpS M A E s (f x) Q st) → wpS M A E s m Q σ₀) : wpS M A E s m Q σ₀ := k h
theorem wpS_mChn {i b : Nat} {Q : Bool → SortSt → Prop} (hc : Cm prog w A κ key U s) (hk : kindOf st = κ) (hf : failedOf st = none) (hU : ∀ x ∈ (arrOf st).toList, U x) (hC : Chn key (arrOf st) (pendingOf st).toList 0 b) (hb : b ≤ (arrOf st).size) (hi : i + 1 < (pendingOf st).size)
    (h : ∀ st', Rs st st' 0 b → Chn key (arrOf st') (pendingOf st').toList 0 b → (pendingOf st').size + 1 = (pendingOf st).size → Q true st') : wpS (model prog w) A E s (mergeAt' i) Q st := by
  obtain ⟨sa, na, pw, nb, pb, e1, e2, k1, k2, k3, k4, k5, k6, k7⟩ := hC.merge i (by rw [Array.length_toList]; exact hi)
  rw [Array.getElem?_toList] at e1 e2
  refine wpS_mAt hc hk hf hU e1 e2 k1 k2 (by omega) k5 k6 fun st' R ep hs => h st' (R.wide (Nat.zero_le _) k4) ?_ ?_
  · have := k7 (arrOf st') R.out hs
    rw [ep, Array.toList_eraseIdxIfInBounds, Array.toList_setIfInBounds]
    exact this
  · rw [ep, ← Array.length_toList, Array.toList_eraseIdxIfInBounds, Array.toList_setIfInBounds, List.length_eraseIdx, List.length_set, Array.length_toList, if_pos hi]
    omega
theorem wpS_srt {Q : Unit → SortSt → Prop} (hc : Cm prog w A κ key U s) (hk : kindOf st = κ) (hf : failedOf st = none) (hU : ∀ x ∈ (arrOf st).toList, U x) (hp : pendingOf st = #[]) (h1 : 1 ≤ (arrOf st).size)
    (h : ∀ st', Rg st st' → SdR key (arrOf st') 0 (arrOf st).size → Q () st') : wpS (model prog w) A E s sortRuns' Q st := by
  refine wpS_bind (wpS_get ?_)
  refine wpS_bind (wpS_mono (wpS_forRange (I := fun x c st' => ∃ lo, c = (none, lo) ∧ lo ≤ (arrOf st).size ∧ x ≤ lo ∧ Rg st st' ∧ Chn key (arrOf st') (pendingOf st').toList 0 lo) (Q := fun c st' => c = (none, (arrOf st).size) ∧ Rg st st' ∧ Chn key (arrOf st') (pendingOf st').toList 0 (arrOf st).size) ?_ ?_ ⟨0, rfl, Nat.zero_le _, Nat.zero_le _, .refl, by rw [hp]; rfl⟩) ?_)
  rotate_left
  · rintro c st' ⟨lo, rfl, l1, l2, R, hC⟩
    have : lo = (arrOf st).size := Nat.le_antisymm l1 (Nat.le_trans (Nat.le_max_right _ _) l2)
    subst this
    exact ⟨rfl, R, hC⟩
  · rintro c st' ⟨rfl, R, hC⟩
    refine wpS_bind (wpS_mono (wpS_forRange (I := fun x c st2 => c = (none, ()) ∧ Rg st st2 ∧ Chn key (arrOf st2) (pendingOf st2).toList 0 (arrOf st).size ∧ (pendingOf st2).size + x ≤ (arrOf st).size + 1) (Q := fun c st2 => c = (none, ()) ∧ Rg st st2 ∧ Chn key (arrOf st2) (pendingOf st2).toList 0 (arrOf st).size ∧ (pendingOf st2).size ≤ 1) ?_ ?_ ⟨rfl, R, hC, ?_⟩) ?_)
    · rintro x c st2 _ hx ⟨rfl, R2, hC2, hx2⟩
      refine wpS_bind (wpS_get ?_)
      by_cases e : (pendingOf st2).size ≤ 1
      · exact wpS_iT e (wpS_pure ⟨rfl, R2, hC2, e⟩)
      refine wpS_iF e ?_
      refine wpS_bind (wpS_mChn hc (R2.kind.trans hk) (R2.failed.trans hf) (R2.us hU) hC2 (by rw [R2.size]; exact Nat.le_refl _) ?_ fun st3 R3 hC3 hz => ?_)
      · show (if _ then (pendingOf st2).size - 2 - 1 else (pendingOf st2).size - 2) + 1 < (pendingOf st2).size
        have hb : ∀ (c : Prop) [Decidable c], (if c then (pendingOf st2).size - 2 - 1 else (pendingOf st2).size - 2) + 1 < (pendingOf st2).size := fun c _ => by
          split <;> omega
        exact hb _
      · exact wpS_iF (by decide) (wpS_pure ⟨rfl, R2.rs R3, hC3, by omega⟩)
    · rintro c st2 ⟨rfl, R2, hC2, hx2⟩
      replace hx2 : (pendingOf st2).size + max 0 (arrOf st).size ≤ (arrOf st).size + 1 := hx2
      exact ⟨rfl, R2, hC2, by omega⟩
    · have := hC.le
      rw [Array.length_toList] at this
      show (pendingOf st').size + 0 ≤ _
      omega
    · rintro c st2 ⟨rfl, R2, hC2, hz⟩
      refine wpS_pure (h st2 R2 ?_)
      have hz' : (pendingOf st2).toList.length ≤ 1 := by rw [Array.length_toList]; exact hz
      match hl : (pendingOf st2).toList, hC2, hz' with
      | [], hC2, _ =>
        have : 0 = (arrOf st).size := hC2
        omega
      | [q], ⟨g1, g2, g3, g4⟩, _ =>
        have e : 0 + q.2.1 = (arrOf st).size := g4
        rw [e] at g3
        exact g3
      | _ :: _ :: _, _, hz' => simp at hz'
  rintro x c st' _ hx ⟨lo, rfl, l1, l2, R, hC⟩
  by_cases c1 : lo ≥ (arrOf st).size
  · have : lo = (arrOf st).size := Nat.le_antisymm l1 c1
    subst this
    exact wpS_iT c1 (wpS_pure ⟨rfl, R, hC⟩)
  refine wpS_iF c1 ?_
  have hsz := R.size
  refine wpS_bind (wpS_cnt hc (R.kind.trans hk) (R.us hU) (by show 1 ≤ (arrOf st).size - lo; omega) (by show lo + ((arrOf st).size - lo) ≤ _; omega) fun m st2 R2 m1 m2 S2 => ?_)
  replace m2 : m ≤ (arrOf st).size - lo := m2
  dsimp -zeta only
  extract_lets n' jp force force'
  replace R2 : Rp st' st2 lo (lo + ((arrOf st).size - lo)) := R2
  replace S2 : SdG key (arrOf st2) lo (lo + m) := S2
  have C2 : Chn key (arrOf st2) (pendingOf st2).toList 0 lo := by
    rw [R2.2]
    exact hC.out R2.1.out (.inl (Nat.le_refl _))
  refine wpS_jpn' (jp ()) (fun m st2 => Rg st st2 ∧ 1 ≤ m ∧ lo + m ≤ (arrOf st).size ∧ Chn key (arrOf st2) (pendingOf st2).toList 0 lo ∧ SdR key (arrOf st2) lo (lo + m)) (fun n st3 hR => ?_) fun hJ => ?_
  rotate_left
  · have hs2 := R2.1.size
    have hf1 : force ≤ (arrOf st).size - lo := Nat.min_le_left _ _
    by_cases c2 : m < minRun' (arrOf st).size (arrOf st).size 0
    · have hf2 : m ≤ force := Nat.le_min.mpr ⟨m2, Nat.le_of_lt c2⟩
      refine wpS_iT c2 ?_
      refine wpS_bind (wpS_lift (wpAny_rule ⟨rfl, ?_⟩))
      refine wpS_bind (wpS_bin hc (R2.1.kind.trans (R.kind.trans hk)) (R2.1.us (R.us hU)) (n := force) (by omega) hf2 S2 fun st3 R3 S3 => ?_)
      refine wpS_iF (by decide) (hJ _ _ ⟨(R.rs R2.1).rs R3.1, Nat.le_trans m1 hf2, by show lo + force ≤ _; omega, ?_, S3.sdR⟩)
      rw [R3.2]
      exact C2.out R3.1.out (.inl (Nat.le_refl _))
    · exact wpS_iF c2 (hJ m st2 ⟨R.rs R2.1, m1, by omega, C2, S2.sdR⟩)
  clear R2 S2 C2 m1 m2 hC R hsz
  obtain ⟨R3, n1, n2, C3, S3⟩ := hR
  refine wpS_bind (wpS_get ?_)
  extract_lets lo2 jp2
  refine wpS_jq jp2 (fun st4 => Rg st st4 ∧ Chn key (arrOf st4) (pendingOf st4).toList 0 lo ∧ SdR key (arrOf st4) lo (lo + n)) (fun u st4 hR => ?_) fun hJ => ?_
  · obtain ⟨R4, C4, S4⟩ := hR
    refine wpS_bind (wpS_modify (wpS_pure ⟨lo + n, rfl, n2, by omega, ⟨R4.kind, R4.failed, R4.perm⟩, ?_⟩))
    show Chn key (arrOf st4) ((pendingOf st4).push (lo, n, 0)).toList 0 (lo + n)
    rw [Array.toList_push]
    exact C4.snoc n1 S4
  split
  · rename_i s1 k1 p1 _
    refine wpS_bind (wpS_mono (wpS_forRange (I := fun x c st4 => c = (none, ()) ∧ Rg st st4 ∧ Chn key (arrOf st4) (pendingOf st4).toList 0 lo ∧ SdR key (arrOf st4) lo (lo + n)) (Q := fun c st4 => c = (none, ()) ∧ Rg st st4 ∧ Chn key (arrOf st4) (pendingOf st4).toList 0 lo ∧ SdR key (arrOf st4) lo (lo + n)) ?_ (fun _ _ z => z) ⟨rfl, R3, C3, S3⟩) ?_)
    · rintro y c st4 _ hy ⟨rfl, R4, C4, S4⟩
      refine wpS_bind (wpS_get ?_)
      dsimp only
      by_cases e : (pendingOf st4).size > 1
      · have e' : (if (pendingOf st4).size > 1 then (pendingOf st4)[(pendingOf st4).size - 2]? else none) = some ((pendingOf st4)[(pendingOf st4).size - 2]'(by omega)) := by
          rw [if_pos e]
          exact getElem?_pos _ _ (by omega)
        rw [e']
        generalize (pendingOf st4)[(pendingOf st4).size - 2]'(by omega) = q
        obtain ⟨q1, q2, q3⟩ := q
        dsimp only
        split
        · exact wpS_pure ⟨rfl, R4, C4, S4⟩
        · refine wpS_bind (wpS_mChn hc (R4.kind.trans hk) (R4.failed.trans hf) (R4.us hU) C4 (by rw [R4.size]; omega) (by show (pendingOf st4).size - 2 + 1 < _; omega) fun st5 R5 C5 _ => ?_)
          exact wpS_iF (by decide) (wpS_pure ⟨rfl, R4.rs R5, C5, S4.out R5.out (.inr (Nat.le_refl _))⟩)
      · have e' : (if (pendingOf st4).size > 1 then (pendingOf st4)[(pendingOf st4).size - 2]? else none) = none := if_neg e
        rw [e']
        exact wpS_pure ⟨rfl, R4, C4, S4⟩
    · rintro c st4 ⟨rfl, R4, C4, S4⟩
      refine wpS_bind (wpS_modify (hJ () _ ⟨⟨R4.kind, R4.failed, R4.perm⟩, ?_, S4⟩))
      show Chn key (arrOf st4) ((pendingOf st4).modify _ _).toList 0 lo
      rw [Array.toList_modify]
      refine Chn.pow (fun q => ?_) _ C4
      exact ⟨rfl, rfl⟩
  · exact hJ () _ ⟨R3, C3, S3⟩
end
end L2
/-! EvBig: sorted of tuples, as many as there are. Behind EvLex and EvTim. -/
namespace L2
open PySem PySem.Spec PyProof.Rows PySem.W
theorem perm_idx {α : Type} (d : α) {l' l : List α} (h : l'.Perm l) : ∃ idx : List Nat, idx.Perm (List.range l.length) ∧ l' = idx.map fun i => l.getD i d := by
  induction h with
  | nil => exact ⟨[], List.Perm.refl _, rfl⟩
  | cons x _ ih =>
    obtain ⟨idx, h1, h2⟩ := ih
    refine ⟨0 :: idx.map (· + 1), ?_, ?_⟩
    · rw [List.length_cons, List.range_succ_eq_map]
      exact (h1.map _).cons _
    · rw [List.map_cons, List.map_map, h2]
      rfl
  | swap x y l =>
    refine ⟨1 :: 0 :: (List.range l.length).map (· + 2), ?_, ?_⟩
    · rw [List.length_cons, List.length_cons, List.range_succ_eq_map, List.range_succ_eq_map, List.map_cons, List.map_map]
      exact List.Perm.swap _ _ _
    · rw [List.map_cons, List.map_cons, List.map_map]
      show y :: x :: l = y :: x :: (List.range l.length).map fun i => l.getD i d
      congr 2
      apply List.ext_getElem
      · simp
      · intro i h1 h2
        simp [h1]
  | @trans l1 l2 l3 _ _ ih1 ih2 =>
    obtain ⟨i1, a1, b1⟩ := ih1
    obtain ⟨i2, a2, b2⟩ := ih2
    have hl2 : l2.length = l3.length := by rw [b2, List.length_map, a2.length_eq, List.length_range]
    refine ⟨i1.map fun i => i2.getD i 0, ?_, ?_⟩
    · refine (a1.map _).trans ?_
      rw [hl2]
      have e : ((List.range l3.length).map fun i => i2.getD i 0) = i2 := by
        have hi : i2.length = l3.length := by rw [a2.length_eq, List.length_range]
        apply List.ext_getElem
        · simp [hi]
        · intro i h1 h2
          simp [h2]
      rw [e]
      exact a2
    · rw [b1, List.map_map]
      refine List.map_congr_left fun i hi => ?_
      have hil : i < l2.length := List.mem_range.mp (a1.mem_iff.mp hi)
      have hi2 : i < i2.length := by rw [a2.length_eq, List.length_range]; omega
      show l2.getD i d = l3.getD (i2.getD i 0) d
      have e1 : l2.getD i d = (i2.map fun i => l3.getD i d).getD i d := by rw [← b2]
      rw [e1]
      simp [hi2]
def Later (a : Addr) (s s1 : Shared) : Prop := ∀ b o, b ≠ a → s.heap.get? b = some o → s1.heap.get? b = some o
section
variable {prog : Program} {w : World} {A : Around} {E : Value → Shared → Prop} {s : Shared}
theorem list_sortG {a : Addr} {vs : List Value} {n : Nat} {Z : PySem.Fin → Shared → Prop} (ho : s.heap.get? a = some (seqObj "list" vs.toArray n)) (hbig : vs.length ≤ 4000) (rk : Value → Int) (P : SortKind → Prop)
    (hκ : ∀ s1 : Shared, Later a s s1 → 0 < vs.length → ∀ Q : SortKind → Shared → Prop, (∀ κ, P κ → Q κ s1) → wpAny (model prog w) A (keyKind' vs.toArray) Q E s1)
    (hlt : ∀ s1 : Shared, Later a s s1 → ∀ κ, P κ → ∀ v ∈ vs, ∀ v' ∈ vs, ∀ (C : Bool → Shared → Prop) (E' : Value → Shared → Prop), C (decide (rk v < rk v')) s1 → wpAny (model prog w) A (keyLt' κ v v') C E' s1)
    (h : ∀ out : List Value, out.Perm vs → out.Pairwise (fun x y => rk x ≤ rk y) → Z (.done (.ret .none)) { s with heap := sortedHeap s.heap a vs out.toArray }) : wpAny (model prog w) A (Builtin.«list.sort» ⟨[.ref a], []⟩) Z E s := by
  have hlt' : a < s.heap.objs.size := Heap.lt_size ho
  obtain ⟨c1, g1⟩ : ∃ c1, (s.heap.update a (Obj.mapSeq fun _ => #[])).get? a = some (seqObj "list" #[] c1) := ⟨_, get?_update_seq ho (fun _ => #[])⟩
  have up : ∀ b o, b ≠ a → s.heap.get? b = some o → (((s.heap.update a (Obj.mapSeq fun _ => #[])).push (seqObj "tuple" vs.toArray 0)).push (seqObj "list" #[] 0)).get? b = some o := fun b o nb q => by
    refine Heap.get?_push_of_some _ (Heap.get?_push_of_some _ ?_)
    rw [Heap.get?_update_ne _ _ _ _ nb]
    exact q
  have g6 : (((s.heap.update a (Obj.mapSeq fun _ => #[])).push (seqObj "tuple" vs.toArray 0)).push (seqObj "list" #[] 0)).get? a = some (seqObj "list" #[] c1) := Heap.get?_push_of_some _ (Heap.get?_push_of_some _ g1)
  have hL : Later a s { s with heap := ((s.heap.update a (Obj.mapSeq fun _ => #[])).push (seqObj "tuple" vs.toArray 0)).push (seqObj "list" #[] 0) } := up
  rw [list_sort_plain]
  refine wpAny_bind (listItems_at ho rfl (wpAny_bind (listUpdate_at ho rfl ?_ (by rw [List.size_toArray, sizeLine_eq]; omega) (Nat.zero_le _))))
  refine wpAny_bind (seqEpoch_at g1 rfl (wpAny_bind (wpAny_newTuple ?_ (show vs.length ≤ sizeLine by rw [sizeLine_eq]; omega))))
  refine wpAny_bind (wpAny_newList (wpAny_holding ?_) (Nat.zero_le _))
  show wpAny (model prog w) A _ Z E { s with heap := ((s.heap.update a (Obj.mapSeq fun _ => #[])).push (seqObj "tuple" vs.toArray 0)).push (seqObj "list" #[] 0) }
  dsimp only
  by_cases h2 : vs.toArray.size < 2
  · rw [if_pos h2, if_pos h2]
    refine wpAny_bind (wpAny_pure ?_)
    rw [StateT.run_pure]
    refine wpAny_bind (wpAny_pure ?_)
    dsimp only
    refine wpAny_bind (seqEpoch_at g6 rfl (wpAny_bind (listUpdate_at g6 rfl ?_ (Nat.zero_le _) (by rw [Array.size_map]; show (pairsOf vs).size ≤ _; rw [pairsOf_size, sizeLine_eq]; omega))))
    simp only [bne_self_eq_false, Bool.false_eq_true, if_false]
    have e : (arrOf (SortSt.mk' general' (vs.toArray.zip vs.toArray) #[] 7 none)).map (·.2) = vs.toArray := by
      show (vs.toArray.zip vs.toArray).map (·.2) = vs.toArray
      apply Array.toList_inj.mp
      simp [List.map_snd_zip]
    have := h vs (List.Perm.refl _) (by
      rw [List.size_toArray] at h2
      match vs, h2 with
      | [], _ => exact .nil
      | [v], _ => exact List.pairwise_singleton _ _
      | _ :: _ :: _, h2 => (simp at h2; omega))
    refine wpAny_pure ?_
    rw [e]
    exact this
  · rw [if_neg h2, if_neg h2]
    rw [List.size_toArray] at h2
    refine wpAny_bind (hκ _ hL (by omega) _ fun κ hP => ?_)
    have ez : (vs.toArray.zip vs.toArray).toList = vs.map fun v => (v, v) := by
      rw [Array.toList_zip]
      apply List.ext_getElem
      · simp
      · intro i h1 h2
        simp
    have run := wpS_srt (prog := prog) (w := w) (A := A) (E := E) (s := { s with heap := ((s.heap.update a (Obj.mapSeq fun _ => #[])).push (seqObj "tuple" vs.toArray 0)).push (seqObj "list" #[] 0) }) (κ := κ) (key := fun p => rk p.1) (U := fun p => p.1 ∈ vs ∧ p.2 = p.1) (st := SortSt.mk' κ (vs.toArray.zip vs.toArray) #[] 7 none)
      (Q := fun _ st' => failedOf st' = none ∧ ∃ out : List Value, (arrOf st').map (·.2) = out.toArray ∧ out.Perm vs ∧ out.Pairwise (fun x y => rk x ≤ rk y))
      (fun x y Q E' hx hy q => hlt _ hL κ hP x.1 hx.1 y.1 hy.1 Q E' q) rfl rfl (fun x hx => by
        replace hx : x ∈ (vs.toArray.zip vs.toArray).toList := hx
        rw [ez] at hx
        obtain ⟨v, hv, rfl⟩ := List.mem_map.mp hx
        exact ⟨hv, rfl⟩) rfl (by show 1 ≤ (vs.toArray.zip vs.toArray).size; rw [← Array.length_toList, ez, List.length_map]; omega) (fun st' R hs => by
      refine ⟨R.failed, (arrOf st').toList.map (·.2), ?_, ?_, ?_⟩
      · apply Array.toList_inj.mp
        rw [Array.toList_map]
      · have := (Array.perm_iff_toList_perm.mp R.perm).map (·.2)
        replace this : ((arrOf st').toList.map (·.2)).Perm ((vs.toArray.zip vs.toArray).toList.map (·.2)) := this
        rw [ez, List.map_map] at this
        have e2 : (vs.map ((fun x : Keyed => x.2) ∘ fun v => (v, v))) = vs := by
          show vs.map id = vs
          exact List.map_id vs
        rw [e2] at this
        exact this
      · have hsz : (arrOf st').size = (arrOf (SortSt.mk' κ (vs.toArray.zip vs.toArray) #[] 7 none)).size := R.size
        have hm : ∀ p ∈ (arrOf st').toList, p.2 = p.1 := fun p hp => by
          have := (Array.perm_iff_toList_perm.mp R.perm).mem_iff.mp hp
          replace this : p ∈ (vs.toArray.zip vs.toArray).toList := this
          rw [ez] at this
          obtain ⟨v, hv, rfl⟩ := List.mem_map.mp this
          rfl
        rw [List.pairwise_map, List.pairwise_iff_getElem]
        intro i j hi hj hij
        rw [hm _ (List.getElem_mem hi), hm _ (List.getElem_mem hj)]
        rw [Array.length_toList] at hi hj
        exact hs i j _ _ (Nat.zero_le _) (Nat.le_of_lt hij) (by rw [← hsz]; exact hj) (getElem?_pos _ i hi) (getElem?_pos _ j hj))
    refine wpAny_bind (wpAny_mono run ?_ fun _ _ e => e)
    rintro ⟨⟨⟩, st'⟩ s' ⟨rfl, hf, out, eo, hpm, hsd⟩
    dsimp only at hf eo ⊢
    have fin := h out hpm hsd
    rw [eo]
    refine wpAny_bind (seqEpoch_at g6 rfl (wpAny_bind (listUpdate_at g6 rfl ?_ (Nat.zero_le _) (by rw [List.size_toArray, hpm.length_eq, sizeLine_eq]; omega))))
    rw [hf]
    simp only [bne_self_eq_false, Bool.false_eq_true, if_false]
    exact wpAny_pure fin
theorem sorted_G {l : Addr} {vs : List Value} {Q : Value → Shared → Prop} (hl : s.heap.IsList l vs.toArray ∨ s.heap.IsTuple l vs.toArray) (hbig : vs.length ≤ 4000) (rk : Value → Int) (P : SortKind → Prop)
    (hκ : ∀ s1 : Shared, (∀ b o, s.heap.get? b = some o → s1.heap.get? b = some o) → 0 < vs.length → ∀ (E' : Value → Shared → Prop) (Q : SortKind → Shared → Prop), (∀ κ, P κ → Q κ s1) → wpAny (model prog w) A.in1.in1 (keyKind' vs.toArray) Q E' s1)
    (hlt : ∀ s1 : Shared, (∀ b o, s.heap.get? b = some o → s1.heap.get? b = some o) → ∀ κ, P κ → ∀ v ∈ vs, ∀ v' ∈ vs, ∀ (C : Bool → Shared → Prop) (E' : Value → Shared → Prop), C (decide (rk v < rk v')) s1 → wpAny (model prog w) A.in1.in1 (keyLt' κ v v') C E' s1)
    (h : ∀ out : List Value, out.Perm vs → out.Pairwise (fun x y => rk x ≤ rk y) → Q (.ref (s.heap.objs.size + 1)) { s with heap := sortedAll s.heap vs out.toArray }) : wpAny (model prog w) A (call (.builtin "sorted") [.ref l]) Q E s := by
  refine Calls.call_function_entry kind_sorted plain_sorted entry_sorted (args_sorted1 _) ?_
  unfold Builtin.«sorted»
  have col : ∀ {A' : Around} {E' : Value → Shared → Prop} {Q' : List Value → Shared → Prop}, Q' vs { s with heap := (s.heap.push (seqObj "list" #[] 0)).update s.heap.objs.size (Obj.mapSeq (· ++ vs.toArray)) } → wpAny (model prog w) A' (collect (.ref l)) Q' E' s := fun q => by
    rcases hl with hl | hl
    · exact collect_list hl q (by rw [sizeLine_eq]; omega)
    · exact collect_tup hl q (by rw [sizeLine_eq]; omega)
  refine wpAny_bind (m := checkCount "sorted" 1 1 _) (wpAny_pure (wpAny_bind (col (wpAny_bind (wpAny_newList ?_ (by rw [sizeLine_eq]; omega))))))
  have n1 : ((s.heap.push (seqObj "list" #[] 0)).update s.heap.objs.size (Obj.mapSeq (· ++ vs.toArray))).objs.size = s.heap.objs.size + 1 := by rw [Heap.size_update, size_push']
  have up : ∀ b o, s.heap.get? b = some o → (((s.heap.push (seqObj "list" #[] 0)).update s.heap.objs.size (Obj.mapSeq (· ++ vs.toArray))).push (seqObj "list" vs.toArray 0)).get? b = some o := fun b o q => by
    refine Heap.get?_push_of_some _ ?_
    rw [Heap.get?_update_ne _ _ _ _ (Nat.ne_of_lt (Heap.lt_size q))]
    exact Heap.get?_push_of_some _ q
  have g2 : (((s.heap.push (seqObj "list" #[] 0)).update s.heap.objs.size (Obj.mapSeq (· ++ vs.toArray))).push (seqObj "list" vs.toArray 0)).get? (s.heap.objs.size + 1) = some (seqObj "list" vs.toArray 0) := by
    rw [← n1]; exact Heap.get?_push_size _ rfl
  show wpAny _ _ _ _ _ { s with heap := ((s.heap.push (seqObj "list" #[] 0)).update s.heap.objs.size (Obj.mapSeq (· ++ vs.toArray))).push (seqObj "list" vs.toArray 0) }
  rw [n1]
  have ln : ∀ s1 : Shared, Later (s.heap.objs.size + 1) { s with heap := ((s.heap.push (seqObj "list" #[] 0)).update s.heap.objs.size (Obj.mapSeq (· ++ vs.toArray))).push (seqObj "list" vs.toArray 0) } s1 → ∀ b o, s.heap.get? b = some o → s1.heap.get? b = some o := fun s1 hL b o q => hL b o (Nat.ne_of_lt (Nat.lt_succ_of_lt (Heap.lt_size q))) (up b o q)
  refine wpAny_bind (wpAny_holding (wpAny_call_entry slot_list_sort ⟨_, g2, rfl⟩ entry_list_sort (list_sortG (s := { s with heap := ((s.heap.push (seqObj "list" #[] 0)).update s.heap.objs.size (Obj.mapSeq (· ++ vs.toArray))).push (seqObj "list" vs.toArray 0) }) g2 hbig rk P (fun s1 hL h0 Q q => hκ s1 (ln s1 hL) h0 _ Q q) (fun s1 hL => hlt s1 (ln s1 hL)) fun out hp hs => ⟨_, rfl, wpAny_pure ⟨_, rfl, h out hp hs⟩⟩) (args_list_sort _)))
end
/-- how many of them are ahead -/
def rkB {α : Type} (lt : α → α → Bool) (vs : List α) (v : α) : Int := ((vs.countP fun u => lt u v : Nat) : Int)
theorem rkB_iff {α : Type} {lt : α → α → Bool} {vs : List α} (irr : ∀ a, lt a a = false) (tr : ∀ a b c, lt a b = true → lt b c = true → lt a c = true) (tri : ∀ a b, a ∈ vs → b ∈ vs → lt a b = false → lt b a = false → ∀ c, lt c a = lt c b) {u v : α} (hu : u ∈ vs) (hv : v ∈ vs) : decide (rkB lt vs u < rkB lt vs v) = lt u v := by
  have hlt : ∀ {x y}, x ∈ vs → lt x y = true → rkB lt vs x < rkB lt vs y := fun {x y} hx h => by
    have := countP_lt (p := fun u => lt u x) (q := fun u => lt u y) (l := vs) (fun z _ e => tr _ _ _ e h) hx h (irr x)
    unfold rkB
    omega
  cases e : lt u v with
  | true => exact decide_eq_true (hlt hu e)
  | false =>
    refine decide_eq_false fun z => ?_
    cases e2 : lt v u with
    | true => exact absurd (hlt hv e2) (by omega)
    | false =>
      have : rkB lt vs u = rkB lt vs v := by
        unfold rkB
        congr 1
        exact congrArg (fun p => vs.countP p) (funext fun c => tri u v hu hv e e2 c)
      omega
theorem rkB_le {α : Type} {lt : α → α → Bool} {vs : List α} (irr : ∀ a, lt a a = false) (tr : ∀ a b c, lt a b = true → lt b c = true → lt a c = true) (tri : ∀ a b, a ∈ vs → b ∈ vs → lt a b = false → lt b a = false → ∀ c, lt c a = lt c b) {u v : α} (hu : u ∈ vs) (hv : v ∈ vs) (h : rkB lt vs u ≤ rkB lt vs v) : lt v u = false := by
  rw [← rkB_iff irr tr tri hv hu]
  exact decide_eq_false (by omega)
theorem ints_uniq : ∀ {vs : List Value} {xs ys : List Int}, PyProof.Rows.IntsAre vs xs → PyProof.Rows.IntsAre vs ys → xs = ys
  | _, _, _, .nil, .nil => rfl
  | _, _, _, .cons n t h1, .cons _ _ h2 => by rw [ints_uniq h1 h2]
theorem TupI.uniq {h : Heap} {v : Value} {xs ys : List Int} (h1 : TupI h v xs) (h2 : TupI h v ys) : xs = ys := by
  obtain ⟨a, o, its, k, e, g, _, d, i1⟩ := h1
  obtain ⟨a', o', its', k', e', g', _, d', i2⟩ := h2
  rw [e] at e'
  cases e'
  rw [g] at g'
  cases g'
  rw [d] at d'
  cases d'
  exact ints_uniq i1 i2
open Classical in
noncomputable def Lv (h : Heap) (v : Value) : List Int := if e : ∃ L, TupI h v L then e.choose else []
theorem Lv_eq {h : Heap} {v : Value} {L : List Int} (e : TupI h v L) : Lv h v = L := by
  unfold Lv
  have e' : ∃ L, TupI h v L := ⟨L, e⟩
  rw [dif_pos e']
  exact e'.choose_spec.uniq e
section
variable {prog : Program} {w : World} {A : Around} {E : Value → Shared → Prop} {s : Shared}
theorem sorted_tupB {l : Addr} {vs : List Value} {Q : Value → Shared → Prop} (hl : s.heap.IsList l vs.toArray ∨ s.heap.IsTuple l vs.toArray) (hbig : vs.length ≤ 4000) (hu : A.units + 64 < cLine) {L : Nat → List Int} (hk : ∀ i (hi : i < vs.length), TupI s.heap vs[i] (L i))
    (h : ∀ (out : List Value) (idx : List Nat), idx.Perm (List.range vs.length) → (∀ i, i + 1 < vs.length → lexB (L (idx.getD (i + 1) 0)) (L (idx.getD i 0)) = false) → out = idx.map (fun i => vs.getD i Value.none) → out.Perm vs → Q (.ref (s.heap.objs.size + 1)) { s with heap := sortedAll s.heap vs out.toArray }) : wpAny (model prog w) A (call (.builtin "sorted") [.ref l]) Q E s := by
  have irr : ∀ a, (fun u v => lexB (Lv s.heap u) (Lv s.heap v)) a a = false := fun a => lex_irr _
  have tr : ∀ a b c, (fun u v => lexB (Lv s.heap u) (Lv s.heap v)) a b = true → (fun u v => lexB (Lv s.heap u) (Lv s.heap v)) b c = true → (fun u v => lexB (Lv s.heap u) (Lv s.heap v)) a c = true := fun a b c => lex_trans
  have tri : ∀ a b, a ∈ vs → b ∈ vs → (fun u v => lexB (Lv s.heap u) (Lv s.heap v)) a b = false → (fun u v => lexB (Lv s.heap u) (Lv s.heap v)) b a = false → ∀ c, (fun u v => lexB (Lv s.heap u) (Lv s.heap v)) c a = (fun u v => lexB (Lv s.heap u) (Lv s.heap v)) c b := fun a b _ _ h1 h2 c => by
    show lexB _ (Lv s.heap a) = lexB _ (Lv s.heap b)
    rw [lex_tri h1 h2]
  have hv : ∀ v ∈ vs, TupI s.heap v (Lv s.heap v) := fun v hv => by
    obtain ⟨i, hi, rfl⟩ := List.getElem_of_mem hv
    have := hk i hi
    rw [Lv_eq this]
    exact this
  have mv : ∀ {s1 : Shared}, (∀ b o, s.heap.get? b = some o → s1.heap.get? b = some o) → ∀ {v : Value} {L : List Int}, TupI s.heap v L → TupI s1.heap v L := fun {s1} hs {v L} ⟨a, o, its, k, e, g, c, d, i⟩ => ⟨a, o, its, k, e, hs _ _ g, c, d, i⟩
  refine sorted_G hl hbig (rkB (fun u v => lexB (Lv s.heap u) (Lv s.heap v)) vs) Kd (fun s1 hs h0 E' Q q => tup_kind (fun v hv' => ⟨_, mv hs (hv v hv')⟩) h0 q) (fun s1 hs κ hκ v hv' v2 hv2 C E' hC => ?_) fun out hp hsd => ?_
  · refine wpAny_mono (tup_lt hκ (by show A.units + 1 + 1 < cLine; omega) (mv hs (hv v hv')) (mv hs (hv v2 hv2)) (C := C) ?_) (fun _ _ z => z) fun _ _ z => z.elim
    rw [rkB_iff irr tr tri hv' hv2] at hC
    exact hC
  · obtain ⟨idx, h1, h2⟩ := perm_idx Value.none hp
    refine h out idx h1 (fun i hi => ?_) h2 hp
    have hlen : idx.length = vs.length := by rw [h1.length_eq, List.length_range]
    have hol : out.length = vs.length := hp.length_eq
    have hpw := List.pairwise_iff_getElem.mp hsd i (i + 1) (by omega) (by omega) (by omega)
    have hle := rkB_le irr tr tri (hp.mem_iff.mp (List.getElem_mem (by omega))) (hp.mem_iff.mp (List.getElem_mem (by omega))) hpw
    have eo : ∀ j (hj : j < out.length), Lv s.heap out[j] = L (idx.getD j 0) := fun j hj => by
      have hjx : idx.getD j 0 < vs.length := by
        have : idx.getD j 0 = idx[j]'(by omega) := by simp [show j < idx.length by omega]
        rw [this]
        exact List.mem_range.mp (h1.mem_iff.mp (List.getElem_mem _))
      have e3 : out[j] = vs[idx.getD j 0] := by
        have : out[j] = (idx.map fun i => vs.getD i Value.none)[j]'(by rw [List.length_map]; omega) := by
          congr 1
        rw [this, List.getElem_map]
        have e4 : idx.getD j 0 = idx[j]'(by omega) := by simp [show j < idx.length by omega]
        have e5 : idx[j]'(by omega) < vs.length := by rw [← e4]; exact hjx
        simp [e4, e5, show j < idx.length by omega]
      rw [e3]
      exact Lv_eq (hk _ hjx)
    have : lexB (Lv s.heap out[i + 1]) (Lv s.heap out[i]) = false := hle
    rw [eo (i + 1) (by omega), eo i (by omega)] at this
    exact this
end
/-- sorted(list or tuple of tuples of numbers), as many as there are: the same refs, the rows in order -/
def rSortB (K : PySem.W.Frag) : List V → Hp → VK → Prop := fun xs H Q => ∃ (a : Addr) (vs : List V) (bs : List (List Nat)), xs = [.ref a] ∧ (SqL K H a vs ∨ SqT K H a vs) ∧ TpAt H vs bs ∧ vs.length ≤ 4000 ∧
  ∀ (l : Addr) (idx : List Nat), H l = none → idx.Perm (List.range bs.length) → (∀ i, i + 1 < bs.length → lexB ((bs.getD (idx.getD (i + 1) 0) []).map fun p => ((p : Nat) : Int)) ((bs.getD (idx.getD i 0) []).map fun p => ((p : Nat) : Int)) = false) → Q (.ref l) (upd H l (.lst (idx.map fun i => vs.getD i .non)))
theorem call_sortB {X : Cx} (hu : X.A.units + 64 < cLine) : CallR X (.builtin "sorted") (rSortB X.K) := by
  intro pins s σ H xs us Q I r h
  obtain ⟨a, vs, bs, rfl, hq, hP, h64, q⟩ := h
  obtain ⟨u, rfl, rx⟩ := vals1 r
  cases rx
  obtain ⟨its, r', pl⟩ : ∃ its : List Value, Vals vs its ∧ (s.heap.IsList a its.toArray ∨ s.heap.IsTuple a its.toArray) := by
    rcases hq with hq | hq
    · obtain ⟨its, r', pl, _⟩ := I.list hq
      exact ⟨its, r', .inl pl.isList⟩
    · obtain ⟨its, r', pl, _⟩ := I.tuple hq
      exact ⟨its, r', .inr pl⟩
  have hlen := r'.length
  have hpl := hP.len
  obtain ⟨hkk, hvs⟩ := TpAt.keys I hP r'
  refine sorted_tupB (L := fun i => (bs.getD i []).map fun p => ((p : Nat) : Int)) pl (by omega) hu hkk fun out idx z1 z2 z3 hp => ?_
  obtain ⟨e, he⟩ := sortedAll_at s.heap its out.toArray
  have hl2 := hp.length_eq
  have hmap : (out.map fun u => V.ref (match u with | .ref a => a | _ => 0)) = idx.map fun i => vs.getD i .non := by
    rw [z3, List.map_map]
    apply List.map_congr_left
    intro i hi
    have hil : i < its.length := List.mem_range.mp (z1.mem_iff.mp hi)
    show V.ref (match its.getD i Value.none with | .ref a => a | _ => 0) = vs.getD i .non
    have e1 : its.getD i Value.none = its[i] := by simp [hil]
    have e2 : vs.getD i .non = vs[i]'(by omega) := by simp [show i < vs.length by omega]
    rw [e1, e2]
    have : vs[i]'(by omega) = (its.map fun u => V.ref (match u with | .ref a => a | _ => 0))[i]'(by rw [List.length_map]; exact hil) := by congr 1
    rw [this, List.getElem_map]
  refine ⟨.ref (s.heap.objs.size + 1), _, I.laid (t' := s.toks) (o := .lst (out.map fun u => V.ref (match u with | .ref a => a | _ => 0))) (fun b o => sortedAll_old) (Nat.le_succ _) ?_, rfl, ?_⟩
  · refine ⟨by rw [List.length_map]; exact Nat.le_trans (show out.length ≤ 4000 by omega) (by decide), out, e, ?_, he⟩
    have hall : ∀ u ∈ out, ∃ x, u = .ref x := fun u hu => by
      obtain ⟨i, hi, rfl⟩ := List.getElem_of_mem (hp.mem_iff.mp hu)
      obtain ⟨x, _, _, _, e, _⟩ := hkk i hi
      exact ⟨x, e⟩
    clear he hp hl2 hmap z3
    induction out with
    | nil => exact .nil
    | cons u out ih =>
      obtain ⟨x, rfl⟩ := hall u (List.mem_cons_self ..)
      exact .cons rfl (ih fun u hu => hall u (List.mem_cons_of_mem _ hu))
  · rw [hmap]
    rw [show its.length = bs.length by omega] at z1 z2
    exact q _ idx (I.hok.fresh (Nat.le_succ _)) z1 z2
end L2
namespace E1
open PySem L2
abbrev pw : Program := PySem.Challenge.pw_evenmeet_k11_layouts_renamed
def top (i : Nat) : Stmt := pw.main.body.getD i (.Pass ⟨0, 0, 0, 0⟩)
abbrev sWhole : Stmt := top 17
abbrev sIsBelow : Stmt := top 18
abbrev sLayoutOf : Stmt := top 22
abbrev sIsPointsNumber : Stmt := top 23
abbrev sSortedLayout : Stmt := top 24
abbrev sRenamed : Stmt := top 25
abbrev sBlockRenamed : Stmt := top 26
abbrev sInOrder : Stmt := top 27
abbrev sIsRow : Stmt := top 28
abbrev sAreUnlikePoints : Stmt := top 29
abbrev sCell : Stmt := top 31
abbrev sLNumbers : Stmt := top 32
abbrev sLBits : Stmt := top 33
abbrev sLTurned : Stmt := top 34
abbrev sLManyBlocks : Stmt := top 35
abbrev sLDrawn : Stmt := top 36
abbrev sLRow : Stmt := top 37
abbrev sLOddRow : Stmt := top 38
abbrev sRef : Stmt := top 39
abbrev sLIs : Stmt := top 40
abbrev sLaw : Stmt := top 41
section
variable {P : Program} {w : World} {K : PySem.W.Frag} {mg : Str → Option Value} {base : Heap} {M C : Addr}
structure RefsD (K : PySem.W.Frag) (M C o1 o2 o3 o4 o5 o6 o7 o8 o9 o10 o11 o12 o13 : Addr) : Prop where
  nM : PySem.W.nsIn K mainGlobals "MeetError" = some (some (.ref M))
  nC : PySem.W.nsIn K mainGlobals "NoRow" = some (some (.ref C))
  nV : PySem.W.nsIn K mainGlobals "ValueError" = some none
  n1 : PySem.W.nsIn K mainGlobals "NoArc" = some (some (.ref o1))
  n2 : PySem.W.nsIn K mainGlobals "NoBases" = some (some (.ref o2))
  n3 : PySem.W.nsIn K mainGlobals "NoField" = some (some (.ref o3))
  n4 : PySem.W.nsIn K mainGlobals "NoLayout" = some (some (.ref o4))
  n5 : PySem.W.nsIn K mainGlobals "NoMeeting" = some (some (.ref o5))
  n6 : PySem.W.nsIn K mainGlobals "NoNet" = some (some (.ref o6))
  n7 : PySem.W.nsIn K mainGlobals "NoNumber" = some (some (.ref o7))
  n8 : PySem.W.nsIn K mainGlobals "NoPart" = some (some (.ref o8))
  n9 : PySem.W.nsIn K mainGlobals "NoDual" = some (some (.ref o9))
  n10 : PySem.W.nsIn K mainGlobals "NoText" = some (some (.ref o10))
  n11 : PySem.W.nsIn K mainGlobals "NoWish" = some (some (.ref o11))
  n12 : PySem.W.nsIn K mainGlobals "NoDeskRow" = some (some (.ref o12))
  n13 : PySem.W.nsIn K mainGlobals "NoName" = some (some (.ref o13))
  eM : PySem.W.ExcK K M
  eC : PySem.W.ExcK K C
  cl : PySem.W.ClsK K
  sub : PySem.W.mroIn K C (.ref M) = some true
  kC : PySem.W.kitOne K (.ref C) (.ref C) = some true
  kV : PySem.W.kitOne K (.ref C) (.type "ValueError") = some true
  q1 : PySem.W.kitOne K (.ref C) (.ref o1) = some false
  q2 : PySem.W.kitOne K (.ref C) (.ref o2) = some false
  q3 : PySem.W.kitOne K (.ref C) (.ref o3) = some false
  q4 : PySem.W.kitOne K (.ref C) (.ref o4) = some false
  q5 : PySem.W.kitOne K (.ref C) (.ref o5) = some false
  q6 : PySem.W.kitOne K (.ref C) (.ref o6) = some false
  q7 : PySem.W.kitOne K (.ref C) (.ref o7) = some false
  q8 : PySem.W.kitOne K (.ref C) (.ref o8) = some false
  q9 : PySem.W.kitOne K (.ref C) (.ref o9) = some false
  q10 : PySem.W.kitOne K (.ref C) (.ref o10) = some false
  q11 : PySem.W.kitOne K (.ref C) (.ref o11) = some false
  q12 : PySem.W.kitOne K (.ref C) (.ref o12) = some false
  q13 : PySem.W.kitOne K (.ref C) (.ref o13) = some false
theorem refsD_mk {K : PySem.W.Frag} {M C o1 o2 o3 o4 o5 o6 o7 o8 o9 o10 o11 o12 o13 : Addr}
    (nM : PySem.W.nsIn K mainGlobals "MeetError" = some (some (.ref M))) (nC : PySem.W.nsIn K mainGlobals "NoRow" = some (some (.ref C))) (nV : PySem.W.nsIn K mainGlobals "ValueError" = some none)
    (n1 : PySem.W.nsIn K mainGlobals "NoArc" = some (some (.ref o1)))
    (n2 : PySem.W.nsIn K mainGlobals "NoBases" = some (some (.ref o2)))
    (n3 : PySem.W.nsIn K mainGlobals "NoField" = some (some (.ref o3)))
    (n4 : PySem.W.nsIn K mainGlobals "NoLayout" = some (some (.ref o4)))
    (n5 : PySem.W.nsIn K mainGlobals "NoMeeting" = some (some (.ref o5)))
    (n6 : PySem.W.nsIn K mainGlobals "NoNet" = some (some (.ref o6)))
    (n7 : PySem.W.nsIn K mainGlobals "NoNumber" = some (some (.ref o7)))
    (n8 : PySem.W.nsIn K mainGlobals "NoPart" = some (some (.ref o8)))
    (n9 : PySem.W.nsIn K mainGlobals "NoDual" = some (some (.ref o9)))
    (n10 : PySem.W.nsIn K mainGlobals "NoText" = some (some (.ref o10)))
    (n11 : PySem.W.nsIn K mainGlobals "NoWish" = some (some (.ref o11)))
    (n12 : PySem.W.nsIn K mainGlobals "NoDeskRow" = some (some (.ref o12)))
    (n13 : PySem.W.nsIn K mainGlobals "NoName" = some (some (.ref o13)))
    (exM : PySem.W.excIn K M [.type "ValueError", .type "Exception", .type "BaseException", .type "object"] "ValueError.__new__" = true) (gaM : PySem.W.findIn K (.ref M) "__getattribute__" = some (some (.builtin "BaseException.__getattribute__"))) (noM : PySem.W.findIn K (.ref M) "__getattr__" = some none)
    (clM : PySem.W.findIn K (.ref M) "__class__" = some (some (.builtin "object.__class__"))) (obM : PySem.W.mroIn K M (.type "object") = some true) (beM : PySem.W.mroIn K M (.type "BaseException") = some true)
    (exC : PySem.W.excIn K C [.type "ValueError", .type "Exception", .type "BaseException", .type "object"] "ValueError.__new__" = true) (gaC : PySem.W.findIn K (.ref C) "__getattribute__" = some (some (.builtin "BaseException.__getattribute__"))) (noC : PySem.W.findIn K (.ref C) "__getattr__" = some none)
    (clC : PySem.W.findIn K (.ref C) "__class__" = some (some (.builtin "object.__class__"))) (obC : PySem.W.mroIn K C (.type "object") = some true) (beC : PySem.W.mroIn K C (.type "BaseException") = some true)
    (gt : PySem.W.specialIn K (.builtin "object.__class__") "__get__" = some (some (.builtin "getset_descriptor.__get__"))) (tk : PySem.W.takesIn K (.builtin "object.__class__") = some true)
    (sub : PySem.W.mroIn K C (.ref M) = some true) (kC : PySem.W.kitOne K (.ref C) (.ref C) = some true) (kV : PySem.W.kitOne K (.ref C) (.type "ValueError") = some true)
    (q1 : PySem.W.kitOne K (.ref C) (.ref o1) = some false) (q2 : PySem.W.kitOne K (.ref C) (.ref o2) = some false) (q3 : PySem.W.kitOne K (.ref C) (.ref o3) = some false) (q4 : PySem.W.kitOne K (.ref C) (.ref o4) = some false) (q5 : PySem.W.kitOne K (.ref C) (.ref o5) = some false) (q6 : PySem.W.kitOne K (.ref C) (.ref o6) = some false) (q7 : PySem.W.kitOne K (.ref C) (.ref o7) = some false) (q8 : PySem.W.kitOne K (.ref C) (.ref o8) = some false) (q9 : PySem.W.kitOne K (.ref C) (.ref o9) = some false) (q10 : PySem.W.kitOne K (.ref C) (.ref o10) = some false) (q11 : PySem.W.kitOne K (.ref C) (.ref o11) = some false) (q12 : PySem.W.kitOne K (.ref C) (.ref o12) = some false) (q13 : PySem.W.kitOne K (.ref C) (.ref o13) = some false) : ∃ M C o1 o2 o3 o4 o5 o6 o7 o8 o9 o10 o11 o12 o13 : Addr, RefsD K M C o1 o2 o3 o4 o5 o6 o7 o8 o9 o10 o11 o12 o13 :=
  ⟨M, C, o1, o2, o3, o4, o5, o6, o7, o8, o9, o10, o11, o12, o13, nM, nC, nV, n1, n2, n3, n4, n5, n6, n7, n8, n9, n10, n11, n12, n13, ⟨exM, gaM, noM, clM, obM, beM⟩, ⟨exC, gaC, noC, clC, obC, beC⟩, ⟨gt, tk⟩, sub, kC, kV, q1, q2, q3, q4, q5, q6, q7, q8, q9, q10, q11, q12, q13⟩
/-- the classes by their names -/
structure MarksD (K : PySem.W.Frag) (mg : Str → Option Value) (M C o1 o2 o3 o4 o5 o6 o7 o8 o9 o10 o11 o12 o13 : Addr) : Prop where
  R : RefsD K M C o1 o2 o3 o4 o5 o6 o7 o8 o9 o10 o11 o12 o13
  mM : mg "MeetError" = some (.ref M)
  mC : mg "NoRow" = some (.ref C)
  mV : mg "ValueError" = none
  m1 : mg "NoArc" = some (.ref o1)
  m2 : mg "NoBases" = some (.ref o2)
  m3 : mg "NoField" = some (.ref o3)
  m4 : mg "NoLayout" = some (.ref o4)
  m5 : mg "NoMeeting" = some (.ref o5)
  m6 : mg "NoNet" = some (.ref o6)
  m7 : mg "NoNumber" = some (.ref o7)
  m8 : mg "NoPart" = some (.ref o8)
  m9 : mg "NoDual" = some (.ref o9)
  m10 : mg "NoText" = some (.ref o10)
  m11 : mg "NoWish" = some (.ref o11)
  m12 : mg "NoDeskRow" = some (.ref o12)
  m13 : mg "NoName" = some (.ref o13)
theorem marks_of {K : PySem.W.Frag} {h : Heap} {mg : Str → Option Value} {M C o1 o2 o3 o4 o5 o6 o7 o8 o9 o10 o11 o12 o13 : Addr} (X : K.In h) (G : h.Ns mainGlobals mg) (R : RefsD K M C o1 o2 o3 o4 o5 o6 o7 o8 o9 o10 o11 o12 o13) : MarksD K mg M C o1 o2 o3 o4 o5 o6 o7 o8 o9 o10 o11 o12 o13 :=
  ⟨R, PySem.W.mg_of X G R.nM, PySem.W.mg_of X G R.nC, PySem.W.mg_none_of X G R.nV, PySem.W.mg_of X G R.n1, PySem.W.mg_of X G R.n2, PySem.W.mg_of X G R.n3, PySem.W.mg_of X G R.n4, PySem.W.mg_of X G R.n5, PySem.W.mg_of X G R.n6, PySem.W.mg_of X G R.n7, PySem.W.mg_of X G R.n8, PySem.W.mg_of X G R.n9, PySem.W.mg_of X G R.n10, PySem.W.mg_of X G R.n11, PySem.W.mg_of X G R.n12, PySem.W.mg_of X G R.n13⟩
def rIsX (K : PySem.W.Frag) : List V → Hp → VK → Prop := fun xs H Q => ∃ a C c b, xs = [.ref a, c] ∧ H a = some (XO a C) ∧ PySem.W.ExcK K C ∧ (∀ u, RelV c u → PySem.W.kitOne K (.ref C) u = some b) ∧ Q (.bl b) H
theorem scWhole : FnScope ["thing"] ["thing"] (defScope sWhole) := ⟨rfl, rfl, rfl, by decide +kernel, rfl, by decide +kernel, by decide +kernel⟩
theorem ok_whole {f : Addr} {fd : FuncData} (F : Fun K "is_whole" "is_whole" sWhole f fd) (T : TxtB mg) : FnOk P w K mg base CX0 1 f fd ["thing"] (spWhole K) := by
  refine F.okQ scWhole (fun vs H Q E h => ?_) (fun cdv A outer s H vs Q E hr h => ?_)
  · obtain ⟨v, b, rfl, _⟩ := h
    rfl
  · obtain ⟨v, b, rfl, hw, k⟩ := h
    refine ⟨_, qss_one (qs_ret (qe_and (qe_callB call_isinst (by rfl) T.isi PyProof.Rows.boot_isinstance (qac (qv 0) (qac (qe_bltn (v := .ty "int") rfl T.int PyProof.Rows.boot_int rfl) qa_nil)))
      (qe_one (qe_not (qe_callB call_isinst (by rfl) T.isi PyProof.Rows.boot_isinstance (qac (qv 0) (qac (qe_bltn (v := .ty "bool") rfl T.bool PyProof.Rows.boot_bool rfl) qa_nil))))))), ?_⟩
    cases hw with
    | int i =>
      refine ⟨_, rfl, _, _, _, _, rfl, .int i, rel_ty (kit_int_int K), true, rfl, iteT ?_⟩
      exact ⟨_, rfl, _, _, _, _, rfl, .int i, rel_ty (kit_int_bool K), false, rfl, k⟩
    | bl x =>
      refine ⟨_, rfl, _, _, _, _, rfl, .bl x, rel_ty (kit_bool_int K), true, rfl, iteT ?_⟩
      exact ⟨_, rfl, _, _, _, _, rfl, .bl x, rel_ty (kit_bool_bool K), true, rfl, k⟩
    | odd ty kk =>
      exact ⟨_, rfl, _, _, _, _, rfl, ty, rel_ty kk, false, rfl, iteF k⟩
/-- no number below m -/
def Bad (K : PySem.W.Frag) (H : Hp) (v : V) (m : Int) : Prop := (∃ x, v = .int x ∧ ¬ (0 ≤ x ∧ x < m)) ∨ WholeIs K H v false
def spBelowX (K : PySem.W.Frag) : Sp := fun vs H Q _ => (∃ x m : Int, vs = [.int x, .int m] ∧ 0 ≤ x ∧ x < m ∧ Q (.bl true) H) ∨ ∃ (v : V) (m : Int), vs = [v, .int m] ∧ Bad K H v m ∧ Q (.bl false) H
theorem scIsBelow : FnScope ["thing", "many"] ["thing", "many"] (defScope sIsBelow) := ⟨rfl, rfl, rfl, by decide +kernel, rfl, by decide +kernel, by decide +kernel⟩
theorem ok_belowX {f : Addr} {fd : FuncData} (F : Fun K "is_below" "is_below" sIsBelow f fd) (pWhole : Pm P w K mg base CX0 1 "is_whole" ["thing"] (spWhole K)) : FnOk P w K mg base CX0 2 f fd ["thing", "many"] (spBelowX K) := by
  refine F.okQ scIsBelow (fun vs H Q E h => ?_) (fun cdv A outer s H vs Q E hr1 h => ?_)
  · rcases h with ⟨x, m, rfl, _⟩ | ⟨v, m, rfl, _⟩ <;> rfl
  · refine ⟨_, (qss_one (qs_ret (qe_and (qe_callP pWhole hr1 rfl pass0 (qac (qv 0) qa_nil)) (qe_one (qe_chain op_le op_lt qe_int (qv 0) (qv 1)))))), ?_⟩
    rcases h with ⟨x, m, rfl, h0, h1, q⟩ | ⟨v, m, rfl, hb, q⟩
    · refine ⟨_, rfl, .int x, true, rfl, .int x, true, rfl, iteT ?_⟩
      refine ⟨_, rfl, _, _, rfl, rfl, _, rfl, ifT h0 ?_⟩
      exact ⟨_, rfl, _, _, rfl, rfl, blT h1 q⟩
    · rcases hb with ⟨x, rfl, hx⟩ | hw
      · refine ⟨_, rfl, .int x, true, rfl, .int x, true, rfl, iteT ?_⟩
        refine ⟨_, rfl, _, _, rfl, rfl, _, rfl, ?_⟩
        by_cases h0 : 0 ≤ x
        · exact ifT h0 ⟨_, rfl, _, _, rfl, rfl, blF (by omega) q⟩
        · exact ifF h0 q
      · exact ⟨_, rfl, v, false, rfl, hw, false, rfl, iteF q⟩
def spCell2 (K : PySem.W.Frag) : Sp := fun vs H Q _ => ∃ (a : Addr) (ns : List Int) (k : Nat), vs = [.ref a, .int (k : Int)] ∧ SqL K H a (ns.map V.int) ∧ k ≤ 1000 ∧ ∀ (z : Int) (H' : Hp), Same H H' → Q (.int z) H'
theorem scCell : FnScope ["_law_script", "_law_k", "_law_state", "_law_cell_here"] ["_law_script", "_law_k"] (defScope sCell) := ⟨rfl, rfl, rfl, by decide +kernel, rfl, by decide +kernel, by decide +kernel⟩
theorem ok_cell2 {f : Addr} {fd : FuncData} (F : Fun K "_law_cell" "_law_cell" sCell f fd) (T : TxtB mg) : FnOk P w K mg base CX0 1 f fd ["_law_script", "_law_k"] (spCell2 K) := by
  refine F.okQ scCell (fun vs H Q E h => ?_) (fun cdv A outer s H vs Q E hr h => ?_)
  · obtain ⟨a, ns, k, rfl, _⟩ := h
    rfl
  · obtain ⟨a, ns, k, rfl, hS, hk, q⟩ := h
    refine ⟨_, (qss_cons (qs_if (qt_cmpR op_lt (qv 1) (qe_callB call_len_seq (by rfl) T.len PySem.boot_len (qac (qv 0) qa_nil)) (nomark _)) (qss_one (qs_ret (qe_ix ix_list (qv 0) (qv 1) (fun _ _ => rfl)))) qss_nil)
      (qss_cons (qs_set (i := 2) scCell.nd rfl (Or.inl rfl) (qe_op op_mod (qe_op op_mul qe_int (qe_op op_add (qe_op op_add (qe_op op_mul (qv 1) (qv 1)) (qe_op op_mul qe_int (qv 1))) qe_int)) qe_int))
      (qss_cons (qs_for PassesOwn.never rfl (qi_list (qe_slice sl_list (qv 0) qo_none (qo_some qe_int))) (qg_name (i := 3) scCell.nd rfl (Or.inl rfl))
        (qss_one (qs_set (i := 2) scCell.nd rfl (Or.inl rfl) (qe_op op_mod (qe_op op_add (qe_op op_mul (qv 2) qe_int) (qv 3)) qe_int))))
      (qss_one (qs_ret (qv 2)))))), ?_⟩
    refine ⟨_, rfl, _, rfl, a, _, rfl, .inl hS, _, _, rfl, rfl, _, rfl, ?_⟩
    refine ite2 (fun hc => ?_) (fun hc => ?_)
    · have hlt : k < ns.length := by
        have := of_decide_eq_true hc
        rw [List.length_map] at this
        omega
      refine ⟨_, rfl, _, rfl, a, _, _, V.int ns[k], rfl, rfl, hS, atI_nat (by rw [List.getElem?_map, List.getElem?_eq_getElem hlt]; rfl), q _ _ (Same.refl _)⟩
    · refine ⟨_, rfl, _, rfl, _, _, rfl, rfl, .inr ⟨by omega, by omega⟩, _, rfl, _, _, rfl, rfl, .inl ⟨by decide, by decide⟩, _, _, rfl, rfl, _, _, rfl, rfl, _, _, rfl, rfl, .inl ⟨by decide, by decide⟩, _, _, rfl, rfl, by show (0 : Int) < 2147483647; decide, ?_⟩
      refine ⟨_, rfl, _, rfl, a, _, rfl, hS, fun l hl => ?_⟩
      refine ⟨l, rfl, ⟨_, SqL.of upd_same⟩, for_list (K := K) (a := l) (xs := cutV (ns.map V.int) none (some 3)) (fun i σ H2 => H2 = upd H l (.lst (cutV (ns.map V.int) none (some 3))) ∧ ∃ (z : Int) (x3 : Option V), σ = [some (.ref a), some (.int k), some (.int z), x3]) ⟨rfl, _, _, rfl⟩ (fun i σ H2 _ ⟨e, _⟩ => SqL.of (e ▸ upd_same)) ?_ ?_⟩
      · rintro i v σ H2 hi ⟨rfl, z, x3, rfl⟩
        obtain ⟨c, rfl⟩ := cut_ints v (List.mem_of_getElem? hi)
        exact ⟨_, rfl, _, _, rfl, rfl, .inr ⟨by decide, by decide⟩, _, rfl, _, _, rfl, rfl, _, _, rfl, rfl, by show (0 : Int) < 2147483647; decide, rfl, _, _, rfl⟩
      · rintro σ H2 ⟨rfl, z, x3, rfl⟩
        exact ⟨_, rfl, q _ _ (same_new hl)⟩
theorem pickB {x y : Int} (b : Bool) : atI [V.int x, V.int y] (if b then 1 else 0) = some (V.int (if b then y else x)) := by cases b <;> rfl
def spNums : Sp := fun vs H Q _ => ∃ (c : Int) (m : Nat), vs = [.int c, .int (m : Nat)] ∧ m ≤ 1000 ∧ ∀ (l : Addr) (ns : List Int) (H' : Hp), H l = none → Same H H' → H' l = some (.lst (ns.map V.int)) → ns.length = m → (∀ x ∈ ns, 0 ≤ x ∧ x < 2000000000) → Q (.ref l) H'
theorem scLNumbers : FnScope ["_law_cell_here", "_law_many", "_law_found", "_law_state", "_law_digits", "_law_k"] ["_law_cell_here", "_law_many"] (defScope sLNumbers) := ⟨rfl, rfl, rfl, by decide +kernel, rfl, by decide +kernel, by decide +kernel⟩
theorem ok_numbers {f : Addr} {fd : FuncData} (F : Fun K "_law_numbers" "_law_numbers" sLNumbers f fd) (T : TxtB mg) : FnOk P w K mg base CX0 1 f fd ["_law_cell_here", "_law_many"] spNums := by
  refine F.okQ scLNumbers (fun vs H Q E h => ?_) (fun cdv A outer s H vs Q E hr h => ?_)
  · obtain ⟨c, m, rfl, _⟩ := h
    rfl
  · obtain ⟨c, m, rfl, hm, q⟩ := h
    refine ⟨_, (qss_cons (qs_set (i := 2) scLNumbers.nd rfl (Or.inl rfl) (qe_lst qa_nil))
      (qss_cons (qs_set (i := 3) scLNumbers.nd rfl (Or.inl rfl) (qe_op op_mod (qe_op op_mul (qe_op op_add (qe_op op_mod (qv 0) qe_int) qe_int) qe_int) qe_int))
      (qss_cons (qs_set (i := 4) scLNumbers.nd rfl (Or.inl rfl) qe_int)
      (qss_cons (qs_if (QW.pt (qw_or (qt_cmpR op_lt (qv 0) qe_int (nomark _)) (qw_or1 (qt_cmpR op_ge (qv 0) (qe_op op_pow qe_int qe_int) (nomark _))))) (qss_one (qs_set (i := 4) scLNumbers.nd rfl (Or.inl rfl) (qe_callB call_abs (by rfl) T.abs PyProof.Rows.boot_abs (qac (qv 0) qa_nil)))) qss_nil)
      (qss_cons (qs_for PassesOwn.never rfl (qi_range1 rfl T.range (qac (qv 1) qa_nil)) (qg_name (i := 5) scLNumbers.nd rfl (Or.inl rfl))
        (qss_cons (qs_set (i := 3) scLNumbers.nd rfl (Or.inl rfl) (qe_op op_mod (qe_op op_add (qe_op op_add (qe_op op_mul (qv 3) (qe_op op_add (qe_op op_mod (qv 3) qe_int) qe_int)) (qe_op op_mul qe_int (qv 5))) qe_int) qe_int))
        (qss_cons (qs_expr (qe_bm PySem.F.plainAttrs_list PySem.F.slot_list_append PySem.F.type_list_append mt_append (qv 2) (qac (qe_ix ix_list (qe_lst (qac (qv 3) (qac (qe_op op_mod (qv 4) qe_int) qa_nil))) (qe_callTy call_int1 (by rfl) T.int PyProof.Rows.boot_int (qac (qe_cmpR op_gt (qv 4) qe_int (nomark _)) qa_nil)) (fun _ _ => rfl)) qa_nil)))
        (qss_one (qs_set (i := 4) scLNumbers.nd rfl (Or.inl rfl) (qe_op op_fdiv (qv 4) qe_int))))))
      (qss_one (qs_ret (qv 2)))))))), ?_⟩
    refine ⟨by show 0 ≤ sizeLine; decide, fun l hl => ?_⟩
    have big : (0 : Int) < 1999999973 := by decide
    have c1 := Int.emod_nonneg c (show (1999999973 : Int) ≠ 0 by decide)
    have c2 := Int.emod_lt_of_pos c big
    refine ⟨_, rfl, _, _, rfl, rfl, (by show (0 : Int) < 1999999973; decide), _, _, rfl, rfl, _, _, rfl, rfl, .inr ⟨by decide, by decide⟩, _, _, rfl, rfl, (by show (0 : Int) < 1999999973; decide), ?_⟩
    generalize hst : (c % 1999999973 + 31) * 765432101 % 1999999973 = st0
    have st1 : 0 ≤ st0 ∧ st0 < 1999999973 := by
      rw [← hst]
      exact ⟨Int.emod_nonneg _ (by decide), Int.emod_lt_of_pos _ (by decide)⟩
    refine ⟨_, rfl, _, _, rfl, rfl, _, rfl, ?_⟩
    obtain ⟨dg, hdg, hw⟩ : ∃ dg : Int, 0 ≤ dg ∧ ((c < 0 ∧ dg = (if c < 0 then -c else c)) ∨ (¬ c < 0 ∧ c ≥ 10 ^ (18 : Int).toNat ∧ dg = (if c < 0 then -c else c)) ∨ (¬ c < 0 ∧ ¬ c ≥ 10 ^ (18 : Int).toNat ∧ dg = 0)) := by
      by_cases h1 : c < 0
      · exact ⟨_, abs_nn c, .inl ⟨h1, rfl⟩⟩
      · by_cases h2 : c ≥ 10 ^ (18 : Int).toNat
        · exact ⟨_, abs_nn c, .inr (.inl ⟨h1, h2, rfl⟩)⟩
        · exact ⟨0, Int.le_refl 0, .inr (.inr ⟨h1, h2, rfl⟩)⟩
    rcases hw with ⟨h1, e⟩ | ⟨h1, h2, e⟩ | ⟨h1, h2, e⟩
    all_goals first | refine ifF h1 ⟨_, rfl, _, _, rfl, rfl, ⟨by decide, by decide, by decide⟩, _, _, rfl, rfl, _, rfl, ifT h2 ⟨_, rfl, c, rfl, ?_⟩⟩ | refine ifF h1 ⟨_, rfl, _, _, rfl, rfl, ⟨by decide, by decide, by decide⟩, _, _, rfl, rfl, _, rfl, ifF h2 ?_⟩ | refine ifT h1 ⟨_, rfl, c, rfl, ?_⟩
    all_goals
      refine ⟨_, rfl, ((m : Nat) : Int), rfl, by omega, by omega, for_range (n := m) (fun i σ H2 => Same H H2 ∧ ∃ (ns : List Int) (sd dg : Int) (x : Option V), σ = [some (.int c), some (.int (m : Nat)), some (.ref l), some (.int sd), some (.int dg), x] ∧ H2 l = some (.lst (ns.map V.int)) ∧ ns.length = i ∧ (∀ x ∈ ns, 0 ≤ x ∧ x < 2000000000) ∧ 0 ≤ sd ∧ sd < 1999999973 ∧ 0 ≤ dg)
        ⟨same_new hl, [], st0, dg, none, by rw [e, ← hst]; rfl, upd_same, rfl, by simp, st1.1, st1.2, hdg⟩ ?_ ?_⟩
      · rintro i σ H2 hi ⟨s2, ns, sd, dg, x, rfl, hl2, hlen, hns, h1, h2, h3⟩
        have a1 := Int.emod_nonneg sd (show (65521 : Int) ≠ 0 by decide)
        have a2 := Int.emod_lt_of_pos sd (show (0 : Int) < 65521 by decide)
        refine ⟨_, rfl, _, rfl, _, _, rfl, rfl, (by show (0 : Int) < 65521; decide), _, _, rfl, rfl, _, _, rfl, rfl, .inl ⟨by omega, by omega⟩, _, rfl, _, _, rfl, rfl, .inl ⟨by decide, by decide⟩, _, _, rfl, rfl, _, _, rfl, rfl, _, _, rfl, rfl, (by show (0 : Int) < 1999999973; decide), ?_⟩
        refine ⟨_, rfl, .inl ⟨rfl, _, SqL.of hl2⟩, _, rfl, _, rfl, _, _, rfl, rfl, (by show (0 : Int) < 1000000; decide), by show 2 ≤ sizeLine; decide, fun t ht => ?_⟩
        refine ⟨_, rfl, _, _, rfl, rfl, .inr ⟨_, rfl, t, _, _, _, rfl, rfl, SqL.of upd_same, pickB _, l, _, _, rfl, rfl, (same_new ht) _ _ hl2, ?_, ?_⟩⟩
        · rw [List.length_map, hlen]
          exact Nat.lt_of_lt_of_le hi (Nat.le_trans hm (by decide))
        refine ⟨_, rfl, _, _, rfl, rfl, ⟨by decide, by decide⟩, same_upd (s2.trans (same_new ht)) hl, ns ++ [if decide (0 < dg) = true then dg % 1000000 else (sd * (sd % 65521 + 40487) + 7 * (0 + (i : Int)) + 5) % 1999999973], _, _, _, rfl, ?_, ?_, ?_, ?_, ?_, ?_⟩
        · rw [List.map_append]
          exact upd_same
        · rw [List.length_append, hlen]
          rfl
        · intro y hy
          rcases List.mem_append.mp hy with z | z
          · exact hns y z
          · rw [List.mem_singleton.mp z]
            split
            · exact ⟨Int.emod_nonneg _ (by decide), Int.lt_trans (Int.emod_lt_of_pos _ (by decide)) (by decide)⟩
            · exact ⟨Int.emod_nonneg _ (by decide), Int.lt_trans (Int.emod_lt_of_pos _ (by decide)) (by decide)⟩
        · exact Int.emod_nonneg _ (by decide)
        · exact Int.emod_lt_of_pos _ (by decide)
        · exact Int.ediv_nonneg h3 (by decide)
      · rintro σ H2 ⟨s2, ns, sd, dg, x, rfl, hl2, hlen, hns, _⟩
        exact ⟨_, rfl, q l ns H2 hl s2 hl2 hlen hns⟩
theorem at_ok {ns : List Int} {i : Nat} (h : i < ns.length) : ∃ x : Int, atI (ns.map V.int) (i : Int) = some (.int x) ∧ x ∈ ns := ⟨ns[i], atI_nat (by rw [List.getElem?_map, List.getElem?_eq_getElem h]; rfl), List.getElem_mem h⟩
def spBits (K : PySem.W.Frag) : Sp := fun vs H Q _ => ∃ (a : Addr) (ns : List Int) (p : Nat), vs = [.ref a, .int (p : Nat)] ∧ SqL K H a (ns.map V.int) ∧ 3 ≤ ns.length ∧ p ≤ 60 ∧ ∀ (l : Addr) (b : List Nat) (H' : Hp), H l = none → Same H H' → H' l = some (.lst (nats b)) → Blk p b → Q (.ref l) H'
theorem scLBits : FnScope ["_law_xs", "_law_points", "_law_mask", "_law_found", "_law_point"] ["_law_xs", "_law_points"] (defScope sLBits) := ⟨rfl, rfl, rfl, by decide +kernel, rfl, by decide +kernel, by decide +kernel⟩
theorem ok_bits {f : Addr} {fd : FuncData} (F : Fun K "_law_bits" "_law_bits" sLBits f fd) (T : TxtB mg) : FnOk P w K mg base CX0 1 f fd ["_law_xs", "_law_points"] (spBits K) := by
  refine F.okQ scLBits (fun vs H Q E h => ?_) (fun cdv A outer s H vs Q E hr h => ?_)
  · obtain ⟨a, ns, p, rfl, _⟩ := h
    rfl
  · obtain ⟨a, ns, p, rfl, hS, h3, hp, q⟩ := h
    refine ⟨_, (qss_cons (qs_set (i := 2) scLBits.nd rfl (Or.inl rfl) (qe_op op_add (qe_op op_add (qe_op op_mod (qe_ix ix_list (qv 0) qe_int (fun _ _ => rfl)) (qe_op op_pow qe_int qe_int)) (qe_op op_mul (qe_op op_mod (qe_ix ix_list (qv 0) qe_int (fun _ _ => rfl)) (qe_op op_pow qe_int qe_int)) (qe_op op_pow qe_int qe_int))) (qe_op op_mul (qe_op op_mod (qe_ix ix_list (qv 0) qe_int (fun _ _ => rfl)) (qe_op op_pow qe_int qe_int)) (qe_op op_pow qe_int qe_int))))
      (qss_cons (qs_set (i := 3) scLBits.nd rfl (Or.inl rfl) (qe_lst qa_nil))
      (qss_cons (qs_for PassesOwn.never rfl (qi_range1 rfl T.range (qac (qv 1) qa_nil)) (qg_name (i := 4) scLBits.nd rfl (Or.inl rfl))
        (qss_cons (qs_if (qt_cmpR op_eq (qe_op op_mod (qv 2) qe_int) qe_int (nomark _)) (qss_one (qs_expr (qe_bm PySem.F.plainAttrs_list PySem.F.slot_list_append PySem.F.type_list_append mt_append (qv 3) (qac (qv 4) qa_nil)))) qss_nil)
        (qss_one (qs_set (i := 2) scLBits.nd rfl (Or.inl rfl) (qe_op op_fdiv (qv 2) qe_int)))))
      (qss_one (qs_ret (qv 3)))))), ?_⟩
    obtain ⟨y0, e0, _⟩ := at_ok (show 0 < ns.length by omega)
    obtain ⟨y1, e1, _⟩ := at_ok (show 1 < ns.length by omega)
    obtain ⟨y2, e2, _⟩ := at_ok (show 2 < ns.length by omega)
    have c20 : CPow 2 20 := ⟨by decide, by decide, by decide⟩
    have c40 : CPow 2 40 := ⟨by decide, by decide, by decide⟩
    have p20 : (0 : Int) < 2 ^ (20 : Int).toNat := by decide
    refine ⟨_, rfl, a, _, 0, .int y0, rfl, rfl, hS, e0, _, _, rfl, rfl, c20, _, _, rfl, rfl, p20, _, rfl, a, _, 1, .int y1, rfl, rfl, hS, e1, _, _, rfl, rfl, c20, _, _, rfl, rfl, p20, _, _, rfl, rfl, c20, _, _, rfl, rfl, .inr ⟨by decide, by decide⟩, _, _, rfl, rfl,
      _, rfl, a, _, 2, .int y2, rfl, rfl, hS, e2, _, _, rfl, rfl, c20, _, _, rfl, rfl, p20, _, _, rfl, rfl, c40, _, _, rfl, rfl, .inr ⟨by decide, by decide⟩, _, _, rfl, rfl, ?_⟩
    refine ⟨by show 0 ≤ sizeLine; decide, fun l hl => ?_⟩
    refine ⟨_, rfl, ((p : Nat) : Int), rfl, by omega, by omega, for_range (n := p) (fun i σ H2 => Same H H2 ∧ ∃ (b : List Nat) (m : Int) (x : Option V), σ = [some (.ref a), some (.int (p : Nat)), some (.int m), some (.ref l), x] ∧ H2 l = some (.lst (nats b)) ∧ Blk i b)
      ⟨same_new hl, [], _, none, rfl, upd_same, ⟨by simp, by simp⟩⟩ ?_ ?_⟩
    · rintro i σ H2 hi ⟨s2, b, m, x, rfl, hl2, hb⟩
      refine ⟨_, rfl, _, _, rfl, rfl, (by show (0 : Int) < 2; decide), rfl, _, rfl, ?_⟩
      refine iteV (fun σ' H' => Same H H' ∧ ∃ b' : List Nat, σ' = [some (.ref a), some (.int (p : Nat)), some (.int m), some (.ref l), some (.int (0 + (i : Int)))] ∧ H' l = some (.lst (nats b')) ∧ Blk (i + 1) b') ?_ (fun _ go => ?_) (fun _ go => ?_)
      rotate_left
      · refine ⟨_, rfl, .inl ⟨rfl, _, SqL.of hl2⟩, _, rfl, l, _, _, rfl, rfl, hl2, ?_, go _ _ ⟨same_upd s2 hl, b ++ [i], rfl, ?_, ?_, ?_⟩⟩
        · rw [nats_len]
          exact Nat.lt_of_le_of_lt hb.len (Nat.lt_of_lt_of_le hi (Nat.le_trans hp (by decide)))
        · rw [nats_snoc, Int.zero_add]
          exact upd_same
        · rw [List.nodup_append]
          exact ⟨hb.nd, by simp, fun x hx y hy e => by
            have := hb.lt x hx
            rw [List.mem_singleton.mp hy] at e
            omega⟩
        · intro x hx
          rcases List.mem_append.mp hx with z | z
          · exact Nat.lt_succ_of_lt (hb.lt x z)
          · rw [List.mem_singleton.mp z]
            exact Nat.lt_succ_self i
      · exact go _ _ ⟨s2, b, rfl, hl2, hb.nd, fun x hx => Nat.lt_succ_of_lt (hb.lt x hx)⟩
      rintro σ' H' ⟨s3, b', rfl, hl3, hb'⟩
      exact ⟨_, rfl, _, _, rfl, rfl, ⟨by decide, by decide⟩, s3, b', _, _, rfl, hl3, hb'⟩
    · rintro σ H2 ⟨s2, b, m, x, rfl, hl2, hb⟩
      exact ⟨_, rfl, q l b H2 hl s2 hl2 hb⟩
def spTurned : Sp := fun vs H Q _ => ∃ (a : Addr) (b : List Nat) (x : Int), vs = [.ref a, .int x] ∧ H a = some (.lst (nats b)) ∧ 0 ≤ x ∧ b.length ≤ 60 ∧ ∀ (l : Addr) (b' : List Nat) (H' : Hp), H l = none → Same H H' → H' l = some (.lst (nats b')) → b'.Perm b → Q (.ref l) H'
theorem scLTurned : FnScope ["_law_some", "_law_x", "_law_at", "_law_found"] ["_law_some", "_law_x"] (defScope sLTurned) := ⟨rfl, rfl, rfl, by decide +kernel, rfl, by decide +kernel, by decide +kernel⟩
theorem cut_nats (b : List Nat) (k : Nat) (hk : k ≤ b.length) : cutV (nats b) (some (k : Int)) none = nats (b.drop k) ∧ cutV (nats b) none (some (k : Int)) = nats (b.take k) := by
  rw [cut_from (by rw [nats_len]; exact hk), cut_to (by rw [nats_len]; exact hk)]
  exact ⟨by simp [nats, List.map_drop], by simp [nats, List.map_take]⟩
theorem ok_turned {f : Addr} {fd : FuncData} (F : Fun K "_law_turned" "_law_turned" sLTurned f fd) (T : TxtB mg) : FnOk P w K mg base CX0 1 f fd ["_law_some", "_law_x"] spTurned := by
  refine F.okQ scLTurned (fun vs H Q E h => ?_) (fun cdv A outer s H vs Q E hr h => ?_)
  · obtain ⟨a, b, x, rfl, _⟩ := h
    rfl
  · obtain ⟨a, b, x, rfl, ha, hx, hb, q⟩ := h
    refine ⟨_, (qss_cons (qs_set (i := 2) scLTurned.nd rfl (Or.inl rfl) qe_int)
      (qss_cons (qs_if (qt_cmpR (op_neD hr.units) (qv 0) (qe_lst qa_nil) (nomark _)) (qss_one (qs_set (i := 2) scLTurned.nd rfl (Or.inl rfl) (qe_op op_mod (qv 1) (qe_callB call_len_seq (by rfl) T.len PySem.boot_len (qac (qv 0) qa_nil))))) qss_nil)
      (qss_cons (qs_set (i := 3) scLTurned.nd rfl (Or.inl rfl) (qe_op op_cat (qe_slice sl_list (qv 0) (qo_some (qv 2)) qo_none) (qe_slice sl_list (qv 0) qo_none (qo_some (qv 2)))))
      (qss_cons (qs_if (qt_cmpR op_eq (qe_op op_mod (qe_op op_fdiv (qv 1) qe_int) qe_int) qe_int (nomark _)) (qss_one (qs_ret (qe_rev (qv 3)))) qss_nil)
      (qss_one (qs_ret (qv 3))))))), ?_⟩
    refine ⟨_, rfl, by show 0 ≤ sizeLine; decide, fun m hm => ?_⟩
    have s1 := same_new (o := .lst []) hm
    refine ⟨dBlk b, .list [], by simp only [dBlk, IsD]; exact ⟨a, _, rfl, SqL.of (s1 _ _ ha), ints_isD' b⟩, by simp only [IsD]; exact ⟨m, _, rfl, SqL.of upd_same, by simp [IsDs]⟩, shaped_blk b, rfl, _, rfl, ?_⟩
    refine iteV (fun σ' H' => Same H H' ∧ H' a = some (.lst (nats b)) ∧ ∃ k : Nat, σ' = [some (.ref a), some (.int x), some (.int (k : Nat)), none] ∧ k ≤ b.length) ?_ (fun hc go => ?_) (fun hc go => ?_)
    rotate_left
    · have hne : 0 < b.length := by
        cases b with
        | nil => exact absurd hc (by decide)
        | cons y r => exact Nat.succ_pos _
      refine ⟨_, rfl, _, rfl, a, _, rfl, .inl (SqL.of (s1 _ _ ha)), _, _, rfl, rfl, by rw [nats_len]; omega, go _ _ ⟨s1, s1 _ _ ha, (x % (nats b).length).toNat, ?_, ?_⟩⟩
      · have := Int.emod_nonneg x (show ((nats b).length : Int) ≠ 0 by rw [nats_len]; omega)
        rw [Int.toNat_of_nonneg this]
        rfl
      · have h1 := Int.emod_lt_of_pos x (show (0 : Int) < ((nats b).length : Int) by rw [nats_len]; omega)
        have h2 := Int.emod_nonneg x (show ((nats b).length : Int) ≠ 0 by rw [nats_len]; omega)
        rw [nats_len] at h1 h2 ⊢
        omega
    · exact go _ _ ⟨s1, s1 _ _ ha, 0, rfl, Nat.zero_le _⟩
    rintro σ' H' ⟨s2, ha2, k, rfl, hk⟩
    obtain ⟨c1, c2⟩ := cut_nats b k hk
    refine ⟨_, rfl, _, rfl, _, rfl, a, _, rfl, SqL.of ha2, fun u hu => ?_⟩
    rw [c1]
    have s3 := same_new (o := .lst (nats (b.drop k))) hu
    refine ⟨_, rfl, _, rfl, _, rfl, a, _, rfl, SqL.of (s3 _ _ ha2), fun v hv => ?_⟩
    rw [c2]
    have s4 := same_new (o := .lst (nats (b.take k))) hv
    refine ⟨u, v, _, _, rfl, rfl, s4 _ _ upd_same, upd_same, ?_, fun l hl => ?_⟩
    · rw [nats_len, nats_len, List.length_drop, List.length_take]
      exact Nat.le_trans (show _ ≤ 60 by omega) (by decide)
    have e1 : nats (b.drop k) ++ nats (b.take k) = nats (b.drop k ++ b.take k) := by simp [nats]
    rw [e1]
    have pm : (b.drop k ++ b.take k).Perm b := by
      have := List.perm_append_comm (l₁ := b.drop k) (l₂ := b.take k)
      rwa [List.take_append_drop] at this
    have s5 := (((s2.trans s3).trans s4).trans (same_new (o := .lst (nats (b.drop k ++ b.take k))) hl))
    refine ⟨_, rfl, _, _, rfl, rfl, ⟨by decide, by decide⟩, _, _, rfl, rfl, (by show (0 : Int) < 2; decide), rfl, _, rfl, ?_⟩
    refine ite2 (fun _ => ?_) (fun _ => ?_)
    · refine ⟨_, rfl, l, _, rfl, SqL.of upd_same, fun r hr => ?_⟩
      have e2 : (nats (b.drop k ++ b.take k)).reverse = nats (b.drop k ++ b.take k).reverse := by simp [nats]
      rw [e2]
      exact q r _ _ (s5.free hr) (s5.trans (same_new hr)) upd_same ((List.reverse_perm _).trans pm)
    · exact ⟨_, rfl, q l _ _ (((s2.trans s3).trans s4).free hl) s5 upd_same pm⟩
theorem comp_list {K : PySem.W.Frag} {a : Addr} {xs : List V} {g : TG} {tc : TT} {te : TE} {σ' : St} {H : Hp} {G : Addr → Hp → List V → Prop} (Pv : Nat → List V → Hp → Prop) (h0 : Pv 0 [] H) (hl : ∀ i ys H, i ≤ xs.length → Pv i ys H → SqL K H a xs)
    (hs : ∀ i x ys H (N : List V → Hp → Prop), xs[i]? = some x → Pv i ys H → (∀ ys' H', Pv (i + 1) ys' H' → N ys' H') → g x σ' H fun σ2 H4 => Weak σ' σ2 ∧ tc σ2 H4 fun b H5 => if b = true then te σ2 H5 fun y H6 => ys.length < sizeLine ∧ N (ys ++ [y]) H6 else N ys H5)
    (hd : ∀ ys H, Pv xs.length ys H → ys.length ≤ sizeLine ∧ ∀ p, H p = none → G p H ys) :
    ∃ W : Nat → Nat → List V → Hp → Prop, (∃ m, W 0 m [] H) ∧ ∀ i m ys H2, W i m ys H2 →
      ((Itl K a).stop i H2 ∧ ys.length ≤ sizeLine ∧ ∀ p, H2 p = none → G p H2 ys) ∨
      ((Itl K a).go i H2 ∧ ∀ x H3, (Itl K a).yld i H2 x H3 → g x σ' H3 fun σ2 H4 => Weak σ' σ2 ∧ tc σ2 H4 fun b H5 =>
        if b = true then te σ2 H5 fun y H6 => ys.length < sizeLine ∧ ∃ m', m' < m ∧ W (i + 1) m' (ys ++ [y]) H6 else ∃ m', m' < m ∧ W (i + 1) m' ys H5) := by
  refine ⟨fun i m ys H => m = xs.length - i ∧ i ≤ xs.length ∧ Pv i ys H, ⟨xs.length, rfl, Nat.zero_le _, h0⟩, ?_⟩
  rintro i m ys H2 ⟨rfl, hi, p⟩
  have q := hl i ys H2 hi p
  by_cases hlt : i < xs.length
  · refine .inr ⟨⟨xs, xs[i], q, by simp [hlt]⟩, fun x H' y => ?_⟩
    obtain ⟨e, y⟩ := y
    subst e
    exact hs i x ys _ (fun ys' H'' => ∃ m', m' < xs.length - i ∧ m' = xs.length - (i + 1) ∧ i + 1 ≤ xs.length ∧ Pv (i + 1) ys' H'') (y xs q) p (fun ys' H'' p' => ⟨_, by omega, rfl, hlt, p'⟩)
  · have e : i = xs.length := by omega
    subst e
    exact .inl ⟨⟨xs, q, Nat.le_refl _⟩, hd ys H2 p⟩
theorem comp_tup {K : PySem.W.Frag} {a : Addr} {xs : List V} {g : TG} {tc : TT} {te : TE} {σ' : St} {H : Hp} {G : Addr → Hp → List V → Prop} (Pv : Nat → List V → Hp → Prop) (h0 : Pv 0 [] H) (hl : ∀ i ys H, i ≤ xs.length → Pv i ys H → SqT K H a xs)
    (hs : ∀ i x ys H (N : List V → Hp → Prop), xs[i]? = some x → Pv i ys H → (∀ ys' H', Pv (i + 1) ys' H' → N ys' H') → g x σ' H fun σ2 H4 => Weak σ' σ2 ∧ tc σ2 H4 fun b H5 => if b = true then te σ2 H5 fun y H6 => ys.length < sizeLine ∧ N (ys ++ [y]) H6 else N ys H5)
    (hd : ∀ ys H, Pv xs.length ys H → ys.length ≤ sizeLine ∧ ∀ p, H p = none → G p H ys) :
    ∃ W : Nat → Nat → List V → Hp → Prop, (∃ m, W 0 m [] H) ∧ ∀ i m ys H2, W i m ys H2 →
      ((Itt K a).stop i H2 ∧ ys.length ≤ sizeLine ∧ ∀ p, H2 p = none → G p H2 ys) ∨
      ((Itt K a).go i H2 ∧ ∀ x H3, (Itt K a).yld i H2 x H3 → g x σ' H3 fun σ2 H4 => Weak σ' σ2 ∧ tc σ2 H4 fun b H5 =>
        if b = true then te σ2 H5 fun y H6 => ys.length < sizeLine ∧ ∃ m', m' < m ∧ W (i + 1) m' (ys ++ [y]) H6 else ∃ m', m' < m ∧ W (i + 1) m' ys H5) := by
  refine ⟨fun i m ys H => m = xs.length - i ∧ i ≤ xs.length ∧ Pv i ys H, ⟨xs.length, rfl, Nat.zero_le _, h0⟩, ?_⟩
  rintro i m ys H2 ⟨rfl, hi, p⟩
  have q := hl i ys H2 hi p
  by_cases hlt : i < xs.length
  · refine .inr ⟨⟨xs, xs[i], q, by simp [hlt]⟩, fun x H' y => ?_⟩
    obtain ⟨e, y⟩ := y
    subst e
    exact hs i x ys _ (fun ys' H'' => ∃ m', m' < xs.length - i ∧ m' = xs.length - (i + 1) ∧ i + 1 ≤ xs.length ∧ Pv (i + 1) ys' H'') (y xs q) p (fun ys' H'' p' => ⟨_, by omega, rfl, hlt, p'⟩)
  · have e : i = xs.length := by omega
    subst e
    exact .inl ⟨⟨xs, q, Nat.le_refl _⟩, hd ys H2 p⟩
def dBls (bs : List (List Nat)) : PyData := .list (bs.map dBlk)
theorem bls_isD {K : PySem.W.Frag} {H : Hp} : ∀ {vs : List V} {bs : List (List Nat)}, BlAt H vs bs → IsDs K H (bs.map dBlk) vs
  | [], [], _ => by simp [IsDs]
  | v :: vs, b :: bs, ⟨⟨a, e, q⟩, r⟩ => by
    simp only [List.map_cons, IsDs]
    refine ⟨v, vs, rfl, ?_, bls_isD r⟩
    simp only [dBlk, IsD]
    exact ⟨a, _, e, SqL.of q, ints_isD' b⟩
theorem lay_bls : ∀ bs : List (List Nat), PyData.canLayAll0 (bs.map dBlk) = true
  | [] => by simp [PyData.canLayAll0]
  | b :: bs => by
    have h1 := lay_ints' b
    simp only [List.map_cons, PyData.canLayAll0, dBlk, PyData.canLay0, h1, lay_bls bs, Bool.and_self, Bool.true_and]
theorem depth_bls : ∀ bs : List (List Nat), PyData.depthAll (bs.map dBlk) ≤ 2
  | [] => by simp [PyData.depthAll]
  | b :: bs => by
    have h1 := depth_ints' b
    have h2 := depth_bls bs
    simp only [List.map_cons, PyData.depthAll, dBlk, PyData.depth]
    omega
theorem shaped_bls (bs : List (List Nat)) : PySem.SeqAt.shaped (dBls bs) = true := by
  unfold PySem.SeqAt.shaped dBls
  rw [Bool.and_eq_true]
  refine ⟨by simp only [PyData.canLay0]; exact lay_bls bs, decide_eq_true ?_⟩
  have := depth_bls bs
  simp only [PyData.depth]
  omega
def spDrawn (K : PySem.W.Frag) : Sp := fun vs H Q _ => ∃ c : Int, vs = [.int c] ∧ ∀ (t l : Addr) (p : Nat) (ws : List V) (bs : List (List Nat)) (H' : Hp), H l = none → Same H H' → H' t = some (.tup [.int (p : Nat), .ref l]) → H' l = some (.lst ws) → BlAt H' ws bs → 1 ≤ p → p ≤ 60 → bs.length ≤ 14 → (∀ b ∈ bs, Blk p b) → Q (.ref t) H'
theorem pickP {r : Int} (h0 : 0 ≤ r) (h1 : r < 4) : ∃ c : Int, atI [V.int 9, V.int 9, V.int 9, V.int 60] r = some (.int c) ∧ 1 ≤ c ∧ c ≤ 60 := by
  have h : r = 0 ∨ r = 1 ∨ r = 2 ∨ r = 3 := by omega
  rcases h with rfl | rfl | rfl | rfl <;> exact ⟨_, rfl, by decide, by decide⟩
theorem range_blk (p : Nat) : Blk p (List.range p) := ⟨List.nodup_range, fun x hx => List.mem_range.mp hx⟩
theorem scLDrawn : FnScope ["_law_cell_here", "_law_xs", "_law_points", "_law_blocks", "_law_k", "_law_some"] ["_law_cell_here"] (defScope sLDrawn) := ⟨rfl, rfl, rfl, by decide +kernel, rfl, by decide +kernel, by decide +kernel⟩
theorem ok_drawn {f : Addr} {fd : FuncData} (F : Fun K "_law_drawn" "_law_drawn" sLDrawn f fd) (T : TxtB mg) (pLNumbers : Pm P w K mg base CX0 1 "_law_numbers" ["_law_cell_here", "_law_many"] spNums) (pLBits : Pm P w K mg base CX0 1 "_law_bits" ["_law_xs", "_law_points"] (spBits K)) (pLTurned : Pm P w K mg base CX0 1 "_law_turned" ["_law_some", "_law_x"] spTurned) : FnOk P w K mg base CX0 2 f fd ["_law_cell_here"] (spDrawn K) := by
  refine F.okQ scLDrawn (fun vs H Q E h => ?_) (fun cdv A outer s H vs Q E hr1 h => ?_)
  · obtain ⟨c, rfl, _⟩ := h
    rfl
  · obtain ⟨c, rfl, q⟩ := h
    refine ⟨_, (qss_cons (qs_set (i := 1) scLDrawn.nd rfl (Or.inl rfl) (qe_callP pLNumbers hr1 rfl pass0 (qac (qv 0) (qac qe_int qa_nil))))
      (qss_cons (qs_set (i := 2) scLDrawn.nd rfl (Or.inl rfl) (qe_op op_add qe_int (qe_op op_mod (qe_ix ix_list (qv 1) qe_int (fun _ _ => rfl)) (qe_ix ix_list (qe_lst (qac qe_int (qac qe_int (qac qe_int (qac qe_int qa_nil))))) (qe_op op_mod (qe_ix ix_list (qv 1) qe_int (fun _ _ => rfl)) qe_int) (fun _ _ => rfl)))))
      (qss_cons (qs_set (i := 3) scLDrawn.nd rfl (Or.inl rfl) (qe_lst qa_nil))
      (qss_cons (qs_for PassesOwn.never rfl (qi_range1 rfl T.range (qac (qe_op op_mod (qe_ix ix_list (qv 1) qe_int (fun _ _ => rfl)) qe_int) qa_nil)) (qg_name (i := 4) scLDrawn.nd rfl (Or.inl rfl))
        (qss_cons (qs_set (i := 5) scLDrawn.nd rfl (Or.inl rfl) (qe_callP pLBits hr1 rfl pass0 (qac (qe_slice sl_list (qv 1) (qo_some (qe_op op_add (qe_op op_mul qe_int (qv 4)) qe_int)) qo_none) (qac (qv 2) qa_nil))))
        (qss_cons (qs_if (qt_cmpR op_eq (qe_op op_mod (qe_ix ix_list (qv 1) (qe_op op_add (qe_op op_mul qe_int (qv 4)) qe_int) (fun _ _ => rfl)) qe_int) qe_int (nomark _)) (qss_one (qs_set (i := 5) scLDrawn.nd rfl (Or.inl rfl) (qe_ix ix_list (qe_lst (qac (qe_lst qa_nil) (qac (qe_callTy (call_list_rng rfl) (by rfl) T.lst (by decide +kernel) (qac (qe_callTy call_rng1 (by rfl) T.range PyProof.Rows.boot_range (qac (qv 2) qa_nil)) qa_nil)) qa_nil))) (qe_op op_mod (qe_ix ix_list (qv 1) (qe_op op_add (qe_op op_mul qe_int (qv 4)) qe_int) (fun _ _ => rfl)) qe_int) (fun _ _ => rfl)))) qss_nil)
        (qss_cons (qs_if (QW.pt (qw_and (qt_cmpR op_eq (qe_op op_mod (qe_ix ix_list (qv 1) (qe_op op_add (qe_op op_mul qe_int (qv 4)) qe_int) (fun _ _ => rfl)) qe_int) qe_int (nomark _)) (qw_and1 (qt_cmpR (op_neD hr1.units) (qv 3) (qe_lst qa_nil) (nomark _))))) (qss_one (qs_set (i := 5) scLDrawn.nd rfl (Or.inl rfl) (qe_callTy call_list_of (by rfl) T.lst (by decide +kernel) (qac (qe_ix ix_list (qv 3) (qe_op op_mod (qe_ix ix_list (qv 1) (qe_op op_add (qe_op op_mul qe_int (qv 4)) qe_int) (fun _ _ => rfl)) (qe_callB call_len_seq (by rfl) T.len PySem.boot_len (qac (qv 3) qa_nil))) (fun _ _ => rfl)) qa_nil)))) qss_nil)
        (qss_one (qs_expr (qe_bm PySem.F.plainAttrs_list PySem.F.slot_list_append PySem.F.type_list_append mt_append (qv 3) (qac (qe_callP pLTurned hr1 rfl pass0 (qac (qv 5) (qac (qe_ix ix_list (qv 1) (qe_op op_add (qe_op op_mul qe_int (qv 4)) qe_int) (fun _ _ => rfl)) qa_nil))) qa_nil))))))))
      (qss_one (qs_ret (qe_tup (qac (qv 2) (qac (qv 3) qa_nil))))))))), ?_⟩
    refine ⟨_, rfl, c, 84, rfl, by decide, fun lx ns H1 hlx s1 hx1 hn hns => ?_⟩
    have g : ∀ j : Nat, j < 84 → ∃ x : Int, atI (ns.map V.int) (j : Int) = some (.int x) ∧ 0 ≤ x ∧ x < 2000000000 := fun j hj => by
      obtain ⟨x, e, m⟩ := at_ok (ns := ns) (i := j) (by omega)
      exact ⟨x, e, hns x m⟩
    have m0 : ∀ (u : Int) (n : Int), 0 < n → 0 ≤ u % n ∧ u % n < n := fun u n h => ⟨Int.emod_nonneg _ (by omega), Int.emod_lt_of_pos _ h⟩
    obtain ⟨y0, e0, p0, r0⟩ := g 0 (by decide)
    obtain ⟨y1, e1, p1, r1⟩ := g 1 (by decide)
    obtain ⟨y2, e2, p2, r2⟩ := g 2 (by decide)
    obtain ⟨cp, ecp, cp1, cp2⟩ := pickP (m0 y1 4 (by decide)).1 (m0 y1 4 (by decide)).2
    refine ⟨_, rfl, lx, _, 0, .int y0, rfl, rfl, SqL.of hx1, e0, by show 4 ≤ sizeLine; decide, fun d hd => ?_⟩
    have s2 := same_new (o := .lst [V.int 9, V.int 9, V.int 9, V.int 60]) hd
    have hx2 := s2 _ _ hx1
    refine ⟨_, rfl, lx, _, 1, .int y1, rfl, rfl, SqL.of hx2, e1, _, _, rfl, rfl, (by show (0 : Int) < 4; decide), d, _, _, _, rfl, rfl, SqL.of upd_same, ecp, _, _, rfl, rfl, (by show (0 : Int) < cp; omega), _, _, rfl, rfl, ?_⟩
    have hp := m0 y0 cp (by omega)
    obtain ⟨p, hpe, hp1, hp2⟩ : ∃ p : Nat, 1 + y0 % cp = (p : Int) ∧ 1 ≤ p ∧ p ≤ 60 := ⟨(1 + y0 % cp).toNat, by omega, by omega, by omega⟩
    refine ⟨by show 0 ≤ sizeLine; decide, fun lb hlb => ?_⟩
    have s3 := (s1.trans s2).trans (same_new (o := .lst []) hlb)
    have hx3 := (same_new (o := .lst []) hlb) _ _ hx2
    have nlb : lx ≠ lb := ne_of_none hx2 hlb
    have h15 := m0 y2 15 (by decide)
    refine ⟨_, rfl, lx, _, 2, .int y2, rfl, rfl, SqL.of hx3, e2, _, _, rfl, rfl, (by show (0 : Int) < 15; decide), _, rfl, by omega, by omega, for_range (lo := 0) (n := (y2 % 15).toNat)
      (fun i σ Hx => Same H Hx ∧ Hx lx = some (.lst (ns.map V.int)) ∧ ∃ (ws : List V) (bs : List (List Nat)) (x4 x5 : Option V), σ = [some (.int c), some (.ref lx), some (.int (p : Nat)), some (.ref lb), x4, x5] ∧ Hx lb = some (.lst ws) ∧ BlAt Hx ws bs ∧ bs.length = i ∧ (∀ b ∈ bs, Blk p b) ∧ ∀ a, V.ref a ∈ ws → a ≠ lb)
      ⟨s3, hx3, [], [], none, none, by rw [← hpe]; rfl, upd_same, trivial, rfl, by simp, by simp⟩ ?_ ?_⟩
    · rintro i σ Hx hi ⟨sx, hxx, ws, bs, x4, x5, rfl, hbx, hB, hlen, hbb, hnl⟩
      have hi14 : i < 15 := by omega
      obtain ⟨z9, e9, p9, r9⟩ := g (5 * i + 9) (by omega)
      obtain ⟨z10, e10, p10, r10⟩ := g (5 * i + 10) (by omega)
      have k6 : (5 * (0 + (i : Int)) + 6) = ((5 * i + 6 : Nat) : Int) := by omega
      have k9 : (5 * (0 + (i : Int)) + 9) = ((5 * i + 9 : Nat) : Int) := by omega
      have k10 : (5 * (0 + (i : Int)) + 10) = ((5 * i + 10 : Nat) : Int) := by omega
      have ez9 : atI (ns.map V.int) (5 * (0 + (i : Int)) + 9) = some (.int z9) := by rw [k9]; exact e9
      have ez10 : atI (ns.map V.int) (5 * (0 + (i : Int)) + 10) = some (.int z10) := by rw [k10]; exact e10
      have cm : CMul 5 (0 + (i : Int)) := .inl ⟨by decide, by decide⟩
      refine ⟨_, rfl, _, rfl, _, _, rfl, rfl, cm, _, _, rfl, rfl, _, rfl, lx, _, rfl, SqL.of hxx, fun u hu => ?_⟩
      have ecut : cutV (ns.map V.int) (some (5 * (0 + (i : Int)) + 6)) none = (ns.drop (5 * i + 6)).map V.int := by
        rw [k6, cut_from (by rw [List.length_map]; omega), List.map_drop]
      rw [ecut]
      have q1 := same_new (o := .lst ((ns.drop (5 * i + 6)).map V.int)) hu
      refine ⟨_, rfl, u, ns.drop (5 * i + 6), p, rfl, SqL.of upd_same, by rw [List.length_drop]; omega, hp2, fun l1 b1 Ha hl1 sa hl1a hb1 => ?_⟩
      have sA : Same Hx Ha := q1.trans sa
      have hxa := sA _ _ hxx
      -- an empty or a full one
      refine ⟨_, rfl, _, rfl, _, _, rfl, rfl, cm, _, _, rfl, rfl, lx, _, _, _, rfl, rfl, SqL.of hxa, ez9, _, _, rfl, rfl, (by show (0 : Int) < 7; decide), rfl, _, rfl, ?_⟩
      refine iteV (fun σ' H' => Same Hx H' ∧ ∃ (ls : Addr) (b : List Nat), σ' = [some (.int c), some (.ref lx), some (.int (p : Nat)), some (.ref lb), some (.int (0 + (i : Int))), some (.ref ls)] ∧ H' ls = some (.lst (nats b)) ∧ Blk p b) ?_ (fun _ go => ?_) (fun _ go => go _ _ ⟨sA, l1, b1, rfl, hl1a, hb1⟩)
      rotate_left
      · refine ⟨by show 0 ≤ sizeLine; decide, fun v1 hv1 => ?_⟩
        have w1 := same_new (o := .lst []) hv1
        refine ⟨_, rfl, ((p : Nat) : Int), rfl, fun v2 hv2 => ⟨v2, p, rfl, upd_same, Nat.le_trans hp2 (by decide), fun v3 hv3 => ?_⟩⟩
        have w2 := same_new (o := .rng 0 ((p : Nat) : Int)) hv2
        have w3 := same_new (o := .lst ((List.range p).map fun p => V.int ((p : Nat) : Int))) hv3
        refine ⟨by show 2 ≤ sizeLine; decide, fun v4 hv4 => ?_⟩
        have w4 := same_new (o := .lst [.ref v1, .ref v3]) hv4
        have w34 := w3.trans w4
        have w14 := w1.trans (w2.trans w34)
        have m2 := m0 z10 2 (by decide)
        refine ⟨_, rfl, _, rfl, _, _, rfl, rfl, cm, _, _, rfl, rfl, lx, _, _, _, rfl, rfl, SqL.of (w14 _ _ hxa), ez10, _, _, rfl, rfl, (by show (0 : Int) < 2; decide), ?_⟩
        rcases (show z10 % 2 = 0 ∨ z10 % 2 = 1 by omega) with e | e
        · exact ⟨v4, _, 0, .ref v1, rfl, congrArg V.int e, SqL.of upd_same, rfl, go _ _ ⟨sA.trans w14, v1, [], rfl, (w2.trans w34) _ _ upd_same, ⟨by simp, by simp⟩⟩⟩
        · exact ⟨v4, _, 1, .ref v3, rfl, congrArg V.int e, SqL.of upd_same, rfl, go _ _ ⟨sA.trans w14, v3, List.range p, rfl, w4 _ _ upd_same, range_blk p⟩⟩
      rintro σ' Hy ⟨sy, ls, b, rfl, hls, hb⟩
      have hxy := sy _ _ hxx
      have hby := sy _ _ hbx
      have hBy := hB.same sy
      refine ⟨_, rfl, _, rfl, _, _, rfl, rfl, cm, _, _, rfl, rfl, lx, _, _, _, rfl, rfl, SqL.of hxy, ez9, _, _, rfl, rfl, (by show (0 : Int) < 7; decide), rfl, _, rfl, ?_⟩
      have fin : ∀ (ls : Addr) (b : List Nat) (Hv : Hp), Same Hx Hv → Hv ls = some (.lst (nats b)) → Blk p b → ∀ (l2 : Addr) (b2 : List Nat) (Hz : Hp), Hv l2 = none → Same Hv Hz → Hz l2 = some (.lst (nats b2)) → b2.Perm b →
          Same H (upd Hz lb (.lst (ws ++ [.ref l2]))) ∧ upd Hz lb (.lst (ws ++ [.ref l2])) lx = some (.lst (ns.map V.int)) ∧ BlAt (upd Hz lb (.lst (ws ++ [.ref l2]))) (ws ++ [.ref l2]) (bs ++ [b2]) ∧ (bs ++ [b2]).length = i + 1 ∧ (∀ b ∈ bs ++ [b2], Blk p b) ∧ (∀ a, V.ref a ∈ ws ++ [.ref l2] → a ≠ lb) ∧ ws.length < sizeLine ∧ Hz lb = some (.lst ws) := by
        intro ls b Hv sv hls hb l2 b2 Hz hl2 sz hl2z pm
        have n2 : lb ≠ l2 := ne_of_none (sv _ _ hbx) hl2
        have sxz := sv.trans sz
        refine ⟨same_upd (sx.trans sxz) ((s1.trans s2).free hlb), by rw [upd_ne nlb]; exact sxz _ _ hxx, ?_, by rw [List.length_append, hlen]; rfl, fun b' hb' => ?_, fun a ha => ?_, ?_, sxz _ _ hbx⟩
        · refine BlAt.snoc (by rw [upd_ne n2.symm]; exact hl2z) ((hB.same sxz).imp fun a xs ha hq => ?_)
          rw [upd_ne (hnl a ha)]
          exact hq
        · rcases List.mem_append.mp hb' with z | z
          · exact hbb b' z
          · rw [List.mem_singleton.mp z]
            exact hb.perm pm
        · rcases List.mem_append.mp ha with z | z
          · exact hnl a z
          · cases List.mem_singleton.mp z
            exact n2.symm
        · rw [hB.len, hlen]
          exact Nat.lt_trans hi14 (by decide)
      by_cases hc : V.int (z9 % 7) = V.int 2
      · refine ifT hc ⟨_, rfl, by show 0 ≤ sizeLine; decide, fun m hm => ?_⟩
        have w1 := same_new (o := .lst []) hm
        refine ⟨dBls bs, .list [], by simp only [dBls, IsD]; exact ⟨lb, _, rfl, SqL.of (w1 _ _ hby), bls_isD (hBy.same w1)⟩, by simp only [IsD]; exact ⟨m, _, rfl, SqL.of upd_same, by simp [IsDs]⟩, shaped_bls bs, rfl, _, rfl, ?_⟩
        show if (!PyData.eqv (dBls bs) (.list [])) = true then _ else _
        by_cases hbe : bs = []
        · rw [show PyData.eqv (dBls bs) (.list []) = true by rw [hbe]; rfl]
          refine iteF ⟨_, rfl, .inl ⟨rfl, _, SqL.of (w1 _ _ hby)⟩, _, rfl, _, rfl, _, rfl, _, _, rfl, rfl, cm, _, _, rfl, rfl, lx, _, _, _, rfl, rfl, SqL.of (w1 _ _ hxy), ez10, ls, b, z10, rfl, w1 _ _ hls, p10, Nat.le_trans hb.len hp2, fun l2 b2 Hz hl2 sz hl2z pm => ?_⟩
          obtain ⟨f1, f2, f3, f4, f5, f6, f7, f8⟩ := fin ls b _ (sy.trans w1) (w1 _ _ hls) hb l2 b2 Hz hl2 sz hl2z pm
          exact ⟨lb, _, _, rfl, rfl, f8, f7, f1, f2, _, _, _, _, rfl, upd_same, f3, f4, f5, f6⟩
        · have hlen0 : 0 < bs.length := by
            cases bs with
            | nil => exact absurd rfl hbe
            | cons y r => exact Nat.succ_pos _
          rw [show PyData.eqv (dBls bs) (.list []) = false by
            cases bs with
            | nil => exact absurd rfl hbe
            | cons y r => simp [dBls, PyData.eqv, PyData.eqvAll]]
          have hwl : ws.length = bs.length := hB.len
          have hm2 := m0 z10 (ws.length : Int) (by omega)
          obtain ⟨j, hje, hjl⟩ : ∃ j : Nat, z10 % (ws.length : Int) = (j : Int) ∧ j < ws.length := ⟨(z10 % (ws.length : Int)).toNat, by omega, by omega⟩
          have hget : ws[j]? = some ws[j] := List.getElem?_eq_getElem hjl
          obtain ⟨ab, bb, eab, hbs, hab⟩ := (hBy.same w1).get hget
          have hbb' : Blk p bb := hbb bb (List.mem_of_getElem? hbs)
          refine iteT ⟨_, rfl, _, rfl, _, rfl, _, _, rfl, rfl, cm, _, _, rfl, rfl, lx, _, _, _, rfl, rfl, SqL.of (w1 _ _ hxy), ez10, _, rfl, lb, _, rfl, .inl (SqL.of (w1 _ _ hby)), _, _, rfl, rfl, by omega, lb, ws, _, .ref ab, rfl, rfl, SqL.of (w1 _ _ hby), by rw [hje]; exact atI_nat (hget.trans (congrArg some eab)), ab, _, rfl, .inl (SqL.of hab), fun l3 hl3 => ?_⟩
          have w2 := same_new (o := .lst (nats bb)) hl3
          have w12 := w1.trans w2
          refine ⟨_, rfl, .inl ⟨rfl, _, SqL.of (w12 _ _ hby)⟩, _, rfl, _, rfl, _, rfl, _, _, rfl, rfl, cm, _, _, rfl, rfl, lx, _, _, _, rfl, rfl, SqL.of (w12 _ _ hxy), ez10, l3, bb, z10, rfl, upd_same, p10, Nat.le_trans hbb'.len hp2, fun l2 b2 Hz hl2 sz hl2z pm => ?_⟩
          obtain ⟨f1, f2, f3, f4, f5, f6, f7, f8⟩ := fin l3 bb _ (sy.trans w12) upd_same hbb' l2 b2 Hz hl2 sz hl2z pm
          exact ⟨lb, _, _, rfl, rfl, f8, f7, f1, f2, _, _, _, _, rfl, upd_same, f3, f4, f5, f6⟩
      · refine ifF hc ⟨_, rfl, .inl ⟨rfl, _, SqL.of hby⟩, _, rfl, _, rfl, _, rfl, _, _, rfl, rfl, cm, _, _, rfl, rfl, lx, _, _, _, rfl, rfl, SqL.of hxy, ez10, ls, b, z10, rfl, hls, p10, Nat.le_trans hb.len hp2, fun l2 b2 Hz hl2 sz hl2z pm => ?_⟩
        obtain ⟨f1, f2, f3, f4, f5, f6, f7, f8⟩ := fin ls b _ sy hls hb l2 b2 Hz hl2 sz hl2z pm
        exact ⟨lb, _, _, rfl, rfl, f8, f7, f1, f2, _, _, _, _, rfl, upd_same, f3, f4, f5, f6⟩
    · rintro σ Hx ⟨sx, hxx, ws, bs, x4, x5, rfl, hbx, hB, hlen, hbb, hnl⟩
      refine ⟨_, rfl, _, rfl, by show 2 ≤ sizeLine; decide, fun t ht => ?_⟩
      have s4 := same_new (o := .tup [.int (p : Nat), .ref lb]) ht
      exact q t lb p ws bs _ ((s1.trans s2).free hlb) (sx.trans s4) upd_same (s4 _ _ hbx) (hB.same s4) hp1 hp2 (by omega) hbb
def spUnlike : Sp := fun vs H Q _ => ∃ (a : Addr) (b : List Nat) (p : Nat), vs = [.ref a, .int (p : Nat)] ∧ H a = some (.lst (nats b)) ∧ Blk p b ∧ p ≤ 60 ∧ ∀ H' : Hp, Same H H' → Q (.bl true) H'
theorem scAreUnlikePoints : FnScope ["things", "points"] ["things", "points"] (defScope sAreUnlikePoints) := ⟨rfl, rfl, rfl, by decide +kernel, rfl, by decide +kernel, by decide +kernel⟩
theorem nats_get {b : List Nat} {i : Nat} {v : V} (h : (nats b)[i]? = some v) : ∃ x, b[i]? = some x ∧ v = .int ((x : Nat) : Int) := by
  unfold nats at h
  rw [List.getElem?_map] at h
  cases hq : b[i]? with
  | none => rw [hq] at h; cases h
  | some p => rw [hq] at h; cases h; exact ⟨p, rfl, rfl⟩
theorem nodup_cast {b : List Nat} (h : b.Nodup) : (b.map fun p => ((p : Nat) : Int)).Nodup := by
  rw [List.nodup_iff_pairwise_ne] at h ⊢
  rw [List.pairwise_map]
  exact h.imp fun hn z => hn (by omega)
def spOrder : Sp := fun vs H Q _ => ∃ (a : Addr) (b : List Nat), vs = [.ref a] ∧ H a = some (.lst (nats b)) ∧ b.length ≤ 60 ∧ ∀ (t : Addr) (b' : List Nat) (H' : Hp), H t = none → Same H H' → H' t = some (.tup (nats b')) → b'.Perm b → b'.Pairwise (· ≤ ·) → Q (.ref t) H'
theorem scInOrder : FnScope ["block"] ["block"] (defScope sInOrder) := ⟨rfl, rfl, rfl, by decide +kernel, rfl, by decide +kernel, by decide +kernel⟩
theorem ok_order {f : Addr} {fd : FuncData} (F : Fun K "in_order" "in_order" sInOrder f fd) (T : TxtB mg) : FnOk P w K mg base CX0 1 f fd ["block"] spOrder := by
  refine F.okQ scInOrder (fun vs H Q E h => ?_) (fun cdv A outer s H vs Q E hr h => ?_)
  · obtain ⟨a, b, rfl, _⟩ := h
    rfl
  · obtain ⟨a, b, rfl, ha, hb, q⟩ := h
    refine ⟨_, (qss_one (qs_ret (qe_callTy call_tuple_of (by rfl) T.tup (by decide +kernel) (qac (qe_callB call_sortI (by rfl) T.sor (by decide +kernel) (qac (qv 0) qa_nil)) qa_nil)))), ?_⟩
    refine ⟨_, rfl, a, b.map fun p => ((p : Nat) : Int), rfl, SqL.of (by rw [← nats_ints]; exact ha), by rw [List.length_map]; omega, fun l ns hl hp hs => ?_⟩
    obtain ⟨b', e, hp', hs'⟩ := back_nats hp hs
    rw [e]
    have s1 := same_new (o := .lst (nats b')) hl
    exact ⟨l, _, rfl, .inl ⟨SqL.of upd_same, fun t ht => q t b' _ (s1.free ht) (s1.trans (same_new ht)) upd_same hp' hs'⟩⟩
def spPN : Sp := fun vs H Q _ => ∃ x : Int, vs = [.int x] ∧ 1 ≤ x ∧ x ≤ 60 ∧ Q (.bl true) H
theorem scIsPointsNumber : FnScope ["thing"] ["thing"] (defScope sIsPointsNumber) := ⟨rfl, rfl, rfl, by decide +kernel, rfl, by decide +kernel, by decide +kernel⟩
/-- a point of so many -/
def belowV (n : Nat) : V → Bool
  | .int x => decide (0 ≤ x ∧ x < (n : Int))
  | _ => false
/-- unlike points, of so many -/
def okB (n : Nat) (xs : List V) : Bool := xs.all (belowV n) && decide xs.Nodup
theorem below_nats {n : Nat} : ∀ {xs : List V}, xs.all (belowV n) = true → ∃ b : List Nat, xs = nats b ∧ ∀ x ∈ b, x < n
  | [], _ => ⟨[], rfl, by simp⟩
  | v :: xs, h => by
    rw [List.all_cons, Bool.and_eq_true] at h
    obtain ⟨b, rfl, hb⟩ := below_nats h.2
    match v, h.1 with
    | .int x, h1 =>
      have h1 : 0 ≤ x ∧ x < (n : Int) := of_decide_eq_true h1
      refine ⟨x.toNat :: b, by unfold nats; rw [List.map_cons, Int.toNat_of_nonneg h1.1], fun y hy => ?_⟩
      rcases List.mem_cons.mp hy with z | z
      · omega
      · exact hb y z
theorem nats_nodup {b : List Nat} : (nats b).Nodup ↔ b.Nodup := by
  unfold nats
  rw [List.nodup_iff_pairwise_ne, List.nodup_iff_pairwise_ne, List.pairwise_map]
  exact ⟨fun h => h.imp fun z e => z (by rw [e]), fun h => h.imp fun z e => z (by injection e with e; omega)⟩
theorem nats_below {n : Nat} {b : List Nat} (h : ∀ x ∈ b, x < n) : (nats b).all (belowV n) = true := by
  unfold nats
  rw [List.all_map, List.all_eq_true]
  intro x hx
  have := h x hx
  show decide (0 ≤ ((x : Nat) : Int) ∧ ((x : Nat) : Int) < (n : Int)) = true
  rw [decide_eq_true]
  omega
theorem okB_iff {n : Nat} {xs : List V} : okB n xs = true ↔ ∃ b : List Nat, xs = nats b ∧ Blk n b := by
  unfold okB
  rw [Bool.and_eq_true]
  constructor
  · rintro ⟨h1, h2⟩
    obtain ⟨b, rfl, hb⟩ := below_nats h1
    exact ⟨b, rfl, nats_nodup.mp (of_decide_eq_true h2), hb⟩
  · rintro ⟨b, rfl, hb⟩
    exact ⟨nats_below hb.lt, decide_eq_true (nats_nodup.mpr hb.nd)⟩
theorem bad_of {K : PySem.W.Frag} {H : Hp} {x : V} {b : Bool} {p : Nat} (h : WholeIs K H x b) (hf : belowV p x = false) : Bad K H x (p : Nat) := by
  cases h with
  | int i => exact .inl ⟨i, rfl, of_decide_eq_false hf⟩
  | bl y => exact .inr (.bl y)
  | odd ty k => exact .inr (.odd ty k)
theorem below_int {n : Nat} {v : V} (h : belowV n v = true) : ∃ x : Int, v = .int x ∧ 0 ≤ x ∧ x < (n : Int) := by
  match v, h with
  | .int x, h => exact ⟨x, rfl, of_decide_eq_true h⟩
def spUnlikeM (K : PySem.W.Frag) : Sp := fun vs H Q _ => ∃ (a : Addr) (xs : List V) (p : Nat), vs = [.ref a, .int (p : Nat)] ∧ H a = some (.lst xs) ∧ (∀ x ∈ xs, ∃ b, WholeIs K H x b) ∧ xs.length ≤ 1000 ∧ ∀ H' : Hp, Same H H' → Q (.bl (okB p xs)) H'
theorem ok_unlikeM {f : Addr} {fd : FuncData} (F : Fun K "are_unlike_points" "are_unlike_points" sAreUnlikePoints f fd) (T : TxtB mg) (pIsBelow : Pm P w K mg base CX0 2 "is_below" ["thing", "many"] (spBelowX K)) : FnOk P w K mg base CX0 3 f fd ["things", "points"] (spUnlikeM K) := by
  refine F.okQ scAreUnlikePoints (fun vs H Q E h => ?_) (fun cdv A outer s H vs Q E hr2 h => ?_)
  · obtain ⟨a, xs, p, rfl, _⟩ := h
    rfl
  · obtain ⟨a, xs, p, rfl, ha, hx, hl, q⟩ := h
    refine ⟨_, (qss_one (qs_ret (qe_and (qe_callB (call_all rfl) (by rfl) T.all (by decide +kernel) (qac (qe_comp (g := gName 0) (N := ["thing", "points"]) (src := [none, some 1]) rfl (comp_scope (defScope sAreUnlikePoints) ["things", "points"] rfl rfl (by decide +kernel) rfl) (qi_list (qv 0)) (fun _ _ _ _ _ => (qg_name (i := 0) (show (["thing", "points"] : List Str).Nodup by decide +kernel) rfl (Or.inl rfl) (Or.inr rfl))) (fun _ _ _ _ _ => qif_nil) (fun _ _ _ _ _ => (qe_callP pIsBelow hr2 rfl pass0 (qac (qv 0) (qac (qv 1) qa_nil))))) qa_nil)) (qe_one (qe_cmpR op_eq (qe_callB call_len_setI (by rfl) T.len PySem.boot_len (qac (qe_callTy (call_setI rfl) (by rfl) T.set (by decide +kernel) (qac (qv 0) qa_nil)) qa_nil)) (qe_callB call_len_seq (by rfl) T.len PySem.boot_len (qac (qv 0) qa_nil)) (nomark _)))))), ?_⟩
    have hsl : xs.length ≤ sizeLine := Nat.le_trans hl (by decide)
    refine ⟨_, rfl, a, rfl, ⟨_, SqL.of ha⟩, comp_list (K := K) (xs := xs) (fun i ys H2 => H2 = H ∧ ys = ((xs.take i).map (belowV p)).map V.bl) ⟨rfl, rfl⟩ (fun i ys H2 _ ⟨e, _⟩ => SqL.of (e ▸ ha)) ?_ ?_⟩
    · rintro i v ys H2 N hi ⟨rfl, rfl⟩ nx
      have hil : i < xs.length := (List.getElem?_eq_some_iff.mp hi).1
      have hlt : (((xs.take i).map (belowV p)).map V.bl).length < sizeLine := by
        rw [List.length_map, List.length_map, List.length_take]
        exact Nat.lt_of_lt_of_le (show _ < xs.length by omega) hsl
      have e : ((xs.take (i + 1)).map (belowV p)).map V.bl = ((xs.take i).map (belowV p)).map V.bl ++ [V.bl (belowV p v)] := by
        rw [List.take_add_one, hi, Option.toList_some, List.map_append, List.map_append]
        rfl
      refine ⟨Weak.set (by intro v z; cases z), ⟨_, rfl, _, rfl, ?_⟩⟩
      cases hb : belowV p v with
      | true =>
        obtain ⟨x, rfl, h0, h1⟩ := below_int hb
        exact .inl ⟨x, _, rfl, h0, h1, hlt, nx _ _ ⟨rfl, by rw [e, hb]⟩⟩
      | false =>
        obtain ⟨b, hw⟩ := hx v (List.mem_of_getElem? hi)
        exact .inr ⟨v, _, rfl, bad_of hw hb, hlt, nx _ _ ⟨rfl, by rw [e, hb]⟩⟩
    rintro ys H2 ⟨eH, rfl⟩
    cases eH
    rw [List.take_length]
    refine ⟨by rw [List.length_map, List.length_map]; exact hsl, fun r hr => ?_⟩
    have s1 := same_new (o := .lst ((xs.map (belowV p)).map V.bl)) hr
    have ha1 := s1 _ _ ha
    have ea : ((xs.map (belowV p)).all id) = xs.all (belowV p) := by rw [List.all_map]; rfl
    refine ⟨r, xs.map (belowV p), rfl, SqL.of upd_same, _, rfl, ?_⟩
    rw [ea]
    cases hall : xs.all (belowV p) with
    | false =>
      refine iteF ?_
      have := q _ s1
      unfold okB at this
      rw [hall, Bool.false_and] at this
      exact this
    | true =>
      obtain ⟨b, rfl, hb⟩ := below_nats hall
      refine iteT ?_
      refine ⟨_, rfl, a, b.map fun p => ((p : Nat) : Int), rfl, SqL.of (by rw [← nats_ints]; exact ha1), by rw [List.length_map, ← nats_len]; exact hl, fun l S n hl hn => ?_⟩
      have s2 := same_new (o := .set S n) hl
      have hn' : n = (nats b).length ↔ (nats b).Nodup := by
        rw [nats_len, nats_nodup, ← List.length_map (f := fun p : Nat => ((p : Nat) : Int)), hn]
        constructor
        · intro z
          rw [List.nodup_iff_pairwise_ne] at z ⊢
          rw [List.pairwise_map] at z
          exact z.imp fun h e => h (by rw [e])
        · exact nodup_cast
      refine ⟨l, S, n, rfl, upd_same, _, rfl, a, _, rfl, .inl (SqL.of (s2 _ _ ha1)), rfl, ?_⟩
      have := q _ (s1.trans s2)
      unfold okB at this
      rw [hall, Bool.true_and] at this
      by_cases hnd : (nats b).Nodup
      · rw [decide_eq_true hnd] at this
        exact blT (by rw [hn'.mpr hnd]) this
      · rw [decide_eq_false hnd] at this
        exact blF (fun z => hnd (hn'.mp (by injection z with z; omega))) this
/-- a number of points, or none -/
def PnV (K : PySem.W.Frag) (H : Hp) (v : V) : Prop := ∃ b, WholeIs K H v b
def pnB : V → Bool
  | .int x => decide (1 ≤ x ∧ x ≤ 60)
  | _ => false
def spPnX (K : PySem.W.Frag) : Sp := fun vs H Q _ => ∃ v : V, vs = [v] ∧ PnV K H v ∧ Q (.bl (pnB v)) H
theorem ok_pnX {f : Addr} {fd : FuncData} {t60 : Tok} (F : Fun K "is_points_number" "is_points_number" sIsPointsNumber f fd) (m60 : mg "MOST_POINTS" = some (.int 60 t60)) (pWhole : Pm P w K mg base CX0 1 "is_whole" ["thing"] (spWhole K)) : FnOk P w K mg base CX0 2 f fd ["thing"] (spPnX K) := by
  refine F.okQ scIsPointsNumber (fun vs H Q E h => ?_) (fun cdv A outer s H vs Q E hr1 h => ?_)
  · obtain ⟨x, rfl, _⟩ := h
    rfl
  · obtain ⟨v, rfl, ⟨b, hw⟩, q⟩ := h
    refine ⟨_, (qss_one (qs_ret (qe_and (qe_callP pWhole hr1 rfl pass0 (qac (qv 0) qa_nil)) (qe_one (qe_chain op_le op_le qe_int (qv 0) (qe_glob (v := .int 60) rfl m60 ⟨_, rfl⟩)))))), ?_⟩
    refine ⟨_, rfl, v, b, rfl, hw, b, rfl, ?_⟩
    cases hw with
    | int x =>
      refine iteT ⟨_, rfl, _, _, rfl, rfl, _, rfl, ?_⟩
      by_cases h0 : (1 : Int) ≤ x
      · refine ifT h0 ⟨_, _, rfl, rfl, ?_⟩
        by_cases h1 : x ≤ 60
        · have : pnB (.int x) = true := decide_eq_true ⟨h0, h1⟩
          rw [this] at q
          exact blT h1 q
        · have : pnB (.int x) = false := decide_eq_false fun z => h1 z.2
          rw [this] at q
          exact blF h1 q
      · have : pnB (.int x) = false := decide_eq_false fun z => h0 z.1
        rw [this] at q
        exact ifF h0 q
    | bl y => exact iteF q
    | odd ty k =>
      have : pnB v = false := by
        cases v with
        | int x => cases ty; exact absurd k (by rw [kit_int_int]; decide)
        | _ => rfl
      rw [this] at q
      exact iteF q
/-- what a layout is told as -/
structure LayAt (H : Hp) (t : Addr) (p : Nat) (bs : List (List Nat)) : Prop where
  it : ∃ (u : Addr) (vs : List V) (cs : List (List Nat)), H t = some (.tup [.int (p : Nat), .ref u]) ∧ H u = some (.tup vs) ∧ TpAt H vs cs ∧ Srt cs bs
def spLayout : Sp := fun vs H Q _ => ∃ (l : Addr) (p : Nat) (ws : List V) (bs : List (List Nat)), vs = [.int (p : Nat), .ref l] ∧ H l = some (.lst ws) ∧ BlAt H ws bs ∧ 1 ≤ p ∧ p ≤ 60 ∧ bs.length ≤ 200 ∧ (∀ b ∈ bs, Blk p b) ∧ ∀ (t : Addr) (H' : Hp), Same H H' → LayAt H' t p bs → Q (.ref t) H'
theorem scLayoutOf : FnScope ["points", "blocks", "place", "block"] ["points", "blocks"] (defScope sLayoutOf) := ⟨rfl, rfl, rfl, by decide +kernel, rfl, by decide +kernel, by decide +kernel⟩
theorem ok_layout {f : Addr} {fd : FuncData} {t200 : Tok} (F : Fun K "layout_of" "layout_of" sLayoutOf f fd) (T : TxtB mg) (m200 : mg "MOST_BLOCKS" = some (.int 200 t200)) (pPN : Pm P w K mg base CX0 2 "is_points_number" ["thing"] spPN)
    (pAreUnlikePoints : Pm P w K mg base CX0 3 "are_unlike_points" ["things", "points"] spUnlike) (pInOrder : Pm P w K mg base CX0 1 "in_order" ["block"] spOrder) : FnOk P w K mg base CX0 4 f fd ["points", "blocks"] spLayout := by
  refine F.okQ scLayoutOf (fun vs H Q E h => ?_) (fun cdv A outer s H vs Q E hr3 h => ?_)
  · obtain ⟨l, p, ws, bs, rfl, _⟩ := h
    rfl
  · obtain ⟨l, p, ws, bs, rfl, hl, hB, hp1, hp2, hlen, hbb, q⟩ := h
    have hr1 : Room 1 (A.deeper (PyProof.Rows.envOfC "layout_of" (defScope sLayoutOf) s.heap.objs.size f cdv)) := hr3.mono (by decide)
    have hr2 := hr3.mono (show 2 ≤ 3 by decide)
    refine ⟨_, (qss_cons (qs_if (QW.pt (qw_or (qt_not (qt_val (qe_callP pPN hr2 rfl pass0 (qac (qv 0) qa_nil)))) (qw_or1 (qt_cmpR op_gt (qe_callB call_len_seq (by rfl) T.len PySem.boot_len (qac (qv 1) qa_nil)) (qe_glob (v := .int 200) rfl m200 ⟨_, rfl⟩) (nomark _))))) qss_never qss_nil)
      (qss_cons (qs_for PassesOwn.never rfl (qi_enum rfl T.enu (qac (qv 1) qa_nil)) (qg_tup rfl (qgs_cons (qg_name (i := 2) scLayoutOf.nd rfl (Or.inl rfl)) (qgs_cons (qg_name (i := 3) scLayoutOf.nd rfl (Or.inl rfl)) qgs_nil)))
        (qss_one (qs_if (qt_not (qt_val (qe_callP pAreUnlikePoints hr3 rfl pass0 (qac (qv 3) (qac (qv 0) qa_nil))))) qss_never qss_nil)))
      (qss_one (qs_ret (qe_tup (qac (qv 0) (qac (qe_callTy call_tuple_of (by rfl) T.tup (by decide +kernel) (qac (qe_comp (g := gName 0) (N := ["block"]) (src := [none]) rfl (comp_scope (defScope sLayoutOf) ["points", "blocks", "place", "block"] rfl rfl (by decide +kernel) rfl) (qi_list (qv 1)) (fun _ _ _ _ _ => (qg_name (i := 0) (show (["block"] : List Str).Nodup by decide +kernel) rfl (Or.inl rfl) (Or.inr rfl))) (fun _ _ _ _ _ => qif_nil) (fun _ _ _ _ _ => (qe_callP pInOrder hr1 rfl pass0 (qac (qv 0) qa_nil)))) qa_nil)) qa_nil))))))), ?_⟩
    have hwl := hB.len
    refine ⟨_, rfl, _, rfl, by omega, by omega, true, rfl, iteF ?_⟩
    refine ⟨_, rfl, l, _, rfl, .inl (SqL.of hl), _, _, rfl, rfl, _, rfl, ifF (by omega) ?_⟩
    refine ⟨_, rfl, l, rfl, ⟨_, SqL.of hl⟩, for_enum (K := K) (a := l) (xs := ws) (fun i σ Hx => Same H Hx ∧ ∃ x2 x3 : Option V, σ = [some (.int (p : Nat)), some (.ref l), x2, x3]) ⟨Same.refl _, _, _, rfl⟩ (fun i σ Hx _ ⟨e, _⟩ => SqL.of (e _ _ hl)) ?_ ?_⟩
    · rintro i v U σ Hx hi ⟨sx, x2, x3, rfl⟩ hU
      obtain ⟨a, b, rfl, hb, ha⟩ := (hB.same sx).get hi
      have s1 := same_new (o := .tup [.int (i : Nat), .ref a]) hU
      refine ⟨U, _, rfl, SqT.of upd_same, rfl, _, _, rfl, _, _, rfl, rfl, ?_⟩
      refine ⟨_, rfl, _, rfl, a, b, p, rfl, s1 _ _ ha, hbb b (List.mem_of_getElem? hb), hp2, fun Hy sy => ⟨true, rfl, iteF ?_⟩⟩
      exact ⟨(sx.trans s1).trans sy, _, _, rfl⟩
    rintro σ Hx ⟨sx, x2, x3, rfl⟩
    have hlx := sx _ _ hl
    have hBx := hB.same sx
    refine ⟨_, rfl, _, rfl, l, rfl, ⟨_, SqL.of hlx⟩, comp_list (K := K) (xs := ws) (fun i ys H2 => Same Hx H2 ∧ ∃ cs : List (List Nat), TpAt H2 ys cs ∧ Srt cs (bs.take i)) ⟨Same.refl _, [], trivial, trivial⟩ (fun i ys H2 _ ⟨e, _⟩ => SqL.of (e _ _ hlx)) ?_ ?_⟩
    · rintro i v ys H2 N hi ⟨s2, cs, hT, hS⟩ nx
      obtain ⟨a, b, rfl, hb, ha⟩ := (hBx.same s2).get hi
      have hbk := hbb b (List.mem_of_getElem? hb)
      have hil : i < bs.length := (List.getElem?_eq_some_iff.mp hb).1
      refine ⟨Weak.set (by intro v z; cases z), ⟨_, rfl, a, b, rfl, ha, Nat.le_trans hbk.len hp2, fun t c Hy ht sy hty pm so => ⟨?_, nx _ _ ⟨s2.trans sy, cs ++ [c], ?_, ?_⟩⟩⟩⟩
      · have := hT.len
        have h2 := hS.len
        rw [List.length_take] at h2
        exact Nat.lt_of_le_of_lt (show ys.length ≤ 200 by omega) (by decide)
      · exact (hT.same fun a xs e => sy _ _ e).snoc hty
      · rw [List.take_add_one, hb, Option.toList_some]
        exact hS.snoc pm so
    rintro ys H2 ⟨s2, cs, hT, hS⟩
    rw [hwl, List.take_length] at hS
    have hyl : ys.length ≤ 200 := by
      have := hT.len
      have := hS.len
      omega
    refine ⟨Nat.le_trans hyl (by decide), fun r hr => ⟨r, _, rfl, .inl ⟨SqL.of upd_same, fun u hu => ?_⟩⟩⟩
    have w1 := same_new (o := .lst ys) hr
    have w2 := same_new (o := .tup ys) hu
    refine ⟨by show 2 ≤ sizeLine; decide, fun t ht => ?_⟩
    have w3 := same_new (o := .tup [.int (p : Nat), .ref u]) ht
    refine q t _ ((sx.trans s2).trans (w1.trans (w2.trans w3))) ⟨u, ys, cs, upd_same, w3 _ _ upd_same, hT.same fun a xs e => (w1.trans (w2.trans w3)) _ _ e, hS⟩
def LayA (H : Hp) (t : Addr) (m : Nat) (bs : List (List Nat)) : Prop := ∃ (l : Addr) (ws : List V), H t = some (.tup [.int (m : Nat), .ref l]) ∧ H l = some (.tup ws) ∧ TpAt H ws bs ∧ bs.length ≤ 200
theorem LayA.sm {H H' : Hp} (s : Same H H') {t : Addr} {m : Nat} {bs : List (List Nat)} (h : LayA H t m bs) : LayA H' t m bs := by
  obtain ⟨l, ws, h1, h2, h3, h4⟩ := h
  exact ⟨l, ws, s _ _ h1, s _ _ h2, h3.sm s, h4⟩
/-- numbers, in order -/
def so (l : List Nat) : List Nat := l.mergeSort fun a b => decide (a ≤ b)
theorem so_perm (l : List Nat) : (so l).Perm l := List.mergeSort_perm l _
theorem so_sorted (l : List Nat) : (so l).Pairwise (· ≤ ·) := by
  have := List.pairwise_mergeSort (le := fun a b : Nat => decide (a ≤ b)) (fun a b c h1 h2 => by simp only [decide_eq_true_eq] at *; omega) (fun a b => by simp only [Bool.or_eq_true, decide_eq_true_eq]; omega) l
  exact this.imp fun h => of_decide_eq_true h
theorem so_eq {c l : List Nat} (h1 : c.Perm l) (h2 : c.Pairwise (· ≤ ·)) : c = so l := srt_eq h1 h2 (so_perm l) (so_sorted l)
/-- a block, by a row -/
def rn (r b : List Nat) : List Nat := so (b.map fun x => r.getD x 0)
theorem row_blk {r : List Nat} {m : Nat} (hr : r.Perm (List.range m)) : Blk m r := ⟨hr.nodup_iff.mpr List.nodup_range, fun x hx => List.mem_range.mp (hr.mem_iff.mp hx)⟩
theorem kit_list_list (K : PySem.W.Frag) : PySem.W.kitOne K (.type "list") (.type "list") = some true := by kernel_rfl
def spIsRow : Sp := fun vs H Q _ => ∃ (l : Addr) (r : List Nat) (m : Nat), vs = [.ref l, .int (m : Nat)] ∧ H l = some (.lst (nats r)) ∧ r.Perm (List.range m) ∧ m ≤ 60 ∧ ∀ H' : Hp, Same H H' → Q (.bl true) H'
theorem scIsRow : FnScope ["thing", "points"] ["thing", "points"] (defScope sIsRow) := ⟨rfl, rfl, rfl, by decide +kernel, rfl, by decide +kernel, by decide +kernel⟩
theorem ok_isrow {f : Addr} {fd : FuncData} (F : Fun K "is_row" "is_row" sIsRow f fd) (T : TxtB mg) (pAreUnlikePoints : Pm P w K mg base CX0 3 "are_unlike_points" ["things", "points"] spUnlike) : FnOk P w K mg base CX0 4 f fd ["thing", "points"] spIsRow := by
  refine F.okQ scIsRow (fun vs H Q E h => ?_) (fun cdv A outer s H vs Q E hr3 h => ?_)
  · obtain ⟨l, r, m, rfl, _⟩ := h
    rfl
  · obtain ⟨l, r, m, rfl, hl, hr, hm, q⟩ := h
    refine ⟨_, (qss_one (qs_ret (qe_and (qe_callB call_isinst (by rfl) T.isi PyProof.Rows.boot_isinstance (qac (qv 0) (qac (qe_bltn (v := .ty "list") rfl T.lst (by decide +kernel) rfl) qa_nil))) (qe_and (qe_cmpR op_eq (qe_callB call_len_seq (by rfl) T.len PySem.boot_len (qac (qv 0) qa_nil)) (qv 1) (nomark _)) (qe_one (qe_callP pAreUnlikePoints hr3 rfl pass0 (qac (qv 0) (qac (qv 1) qa_nil)))))))), ?_⟩
    have hlen : r.length = m := by rw [hr.length_eq, List.length_range]
    refine ⟨_, rfl, _, _, _, _, rfl, .lst hl, rel_ty (kit_list_list K), true, rfl, iteT ?_⟩
    refine ⟨_, rfl, l, _, rfl, .inl (SqL.of hl), _, rfl, rfl, true, congrArg V.bl (decide_eq_true (congrArg (fun n : Nat => V.int (n : Int)) (by rw [nats_len, hlen]))), iteT ?_⟩
    exact ⟨_, rfl, _, rfl, l, r, m, rfl, hl, row_blk hr, hm, q⟩
def spBR : Sp := fun vs H Q _ => ∃ (a l : Addr) (b r : List Nat), vs = [.ref a, .ref l] ∧ H a = some (.tup (nats b)) ∧ H l = some (.lst (nats r)) ∧ (∀ x ∈ b, x < r.length) ∧ b.length ≤ 60 ∧ ∀ (t : Addr) (H' : Hp), Same H H' → H' t = some (.tup (nats (rn r b))) → Q (.ref t) H'
theorem scBlockRenamed : FnScope ["block", "row"] ["block", "row"] (defScope sBlockRenamed) := ⟨rfl, rfl, rfl, by decide +kernel, rfl, by decide +kernel, by decide +kernel⟩
theorem nat_at {r : List Nat} {x : Nat} (h : x < r.length) : atI (nats r) ((x : Nat) : Int) = some (.int ((r.getD x 0 : Nat) : Int)) := atI_nat (by
  unfold nats
  rw [List.getElem?_map, List.getElem?_eq_getElem h]
  simp [h])
theorem ok_brn {f : Addr} {fd : FuncData} (F : Fun K "block_renamed" "block_renamed" sBlockRenamed f fd) (pInOrder : Pm P w K mg base CX0 1 "in_order" ["block"] spOrder) : FnOk P w K mg base CX0 2 f fd ["block", "row"] spBR := by
  refine F.okQ scBlockRenamed (fun vs H Q E h => ?_) (fun cdv A outer s H vs Q E hr1 h => ?_)
  · obtain ⟨a, l, b, r, rfl, _⟩ := h
    rfl
  · obtain ⟨a, l, b, r, rfl, ha, hl, hb, hn, q⟩ := h
    refine ⟨_, (qss_one (qs_ret (qe_callP pInOrder hr1 rfl pass0 (qac (qe_comp (g := gName 0) (N := ["point", "row"]) (src := [none, some 1]) rfl (comp_scope (defScope sBlockRenamed) ["block", "row"] rfl rfl (by decide +kernel) rfl) (qi_tup (qv 0)) (fun _ _ _ _ _ => (qg_name (i := 0) (show (["point", "row"] : List Str).Nodup by decide +kernel) rfl (Or.inl rfl) (Or.inr rfl))) (fun _ _ _ _ _ => qif_nil) (fun _ _ _ _ _ => (qe_ix (show IxR _ (rIxL K) from ix_list) (qv 1) (qv 0) (fun _ _ => rfl)))) qa_nil)))), ?_⟩
    refine ⟨_, rfl, a, rfl, ⟨_, SqT.of ha⟩, comp_tup (K := K) (xs := nats b) (fun i ys H2 => H2 = H ∧ ys = nats ((b.take i).map fun x => r.getD x 0)) ⟨rfl, rfl⟩ (fun i ys H2 _ ⟨e, _⟩ => SqT.of (e ▸ ha)) ?_ ?_⟩
    · rintro i v ys H2 N hi ⟨rfl, rfl⟩ nx
      obtain ⟨x, hx, rfl⟩ := nats_get hi
      refine ⟨Weak.set (by intro v z; cases z), ⟨_, rfl, _, rfl, l, _, _, _, rfl, rfl, SqL.of hl, nat_at (hb x (List.mem_of_getElem? hx)), ?_, nx _ _ ⟨rfl, ?_⟩⟩⟩
      · rw [nats_len, List.length_map, List.length_take]
        exact Nat.lt_of_le_of_lt (show min i b.length ≤ 60 by omega) (by decide)
      · rw [List.take_add_one, hx, Option.toList_some, List.map_append, List.map_cons, List.map_nil, nats_snoc]
    rintro ys H2 ⟨eH, rfl⟩
    cases eH
    rw [nats_len b, List.take_length]
    refine ⟨by rw [nats_len, List.length_map]; exact Nat.le_trans hn (by decide), fun p hp => ?_⟩
    refine ⟨p, _, rfl, upd_same, by rw [List.length_map]; exact hn, fun t c H' ht s' hc pm sd => ?_⟩
    cases so_eq pm sd
    exact q t H' ((same_new hp).trans s') hc
def spRn : Sp := fun vs H Q _ => ∃ (t l : Addr) (m : Nat) (bs : List (List Nat)) (r : List Nat), vs = [.ref t, .ref l] ∧ LayA H t m bs ∧ H l = some (.lst (nats r)) ∧ r.Perm (List.range m) ∧ m ≤ 60 ∧ (∀ b ∈ bs, Blk m b) ∧ ∀ (u : Addr) (H' : Hp), Same H H' → LayA H' u m (bs.map (rn r)) → Q (.ref u) H'
theorem scRenamed : FnScope ["M", "row"] ["M", "row"] (defScope sRenamed) := ⟨rfl, rfl, rfl, by decide +kernel, rfl, by decide +kernel, by decide +kernel⟩
theorem ok_rn {f : Addr} {fd : FuncData} (F : Fun K "renamed" "renamed" sRenamed f fd) (T : TxtB mg) (pIsRow : Pm P w K mg base CX0 4 "is_row" ["thing", "points"] spIsRow) (pBlockRenamed : Pm P w K mg base CX0 2 "block_renamed" ["block", "row"] spBR) : FnOk P w K mg base CX0 5 f fd ["M", "row"] spRn := by
  refine F.okQ scRenamed (fun vs H Q E h => ?_) (fun cdv A outer s H vs Q E hr4 h => ?_)
  · obtain ⟨t, l, m, bs, r, rfl, _⟩ := h
    rfl
  · obtain ⟨t, l, m, bs, r, rfl, ⟨lb, ws, ht, hlb, hT, hn⟩, hl, hr, hm, hb, q⟩ := h
    have hr2 : Room 2 (A.deeper (PyProof.Rows.envOfC "renamed" (defScope sRenamed) s.heap.objs.size f cdv)) := hr4.mono (by decide)
    refine ⟨_, (qss_cons (qs_if (qt_not (qt_val (qe_callP pIsRow hr4 rfl pass0 (qac (qv 1) (qac (qe_ix ix_tup (qv 0) qe_int (fun _ _ => rfl)) qa_nil))))) qss_never qss_nil)
      (qss_one (qs_ret (qe_tup (qac (qe_ix ix_tup (qv 0) qe_int (fun _ _ => rfl)) (qac (qe_callTy call_tuple_of (by rfl) T.tup (by decide +kernel) (qac (qe_comp (g := gName 0) (N := ["block", "row"]) (src := [none, some 1]) rfl (comp_scope (defScope sRenamed) ["M", "row"] rfl rfl (by decide +kernel) rfl) (qi_tup (qe_ix ix_tup (qv 0) qe_int (fun _ _ => rfl))) (fun _ _ _ _ _ => (qg_name (i := 0) (show (["block", "row"] : List Str).Nodup by decide +kernel) rfl (Or.inl rfl) (Or.inr rfl))) (fun _ _ _ _ _ => qif_nil) (fun _ _ _ _ _ => (qe_callP pBlockRenamed hr2 rfl pass0 (qac (qv 0) (qac (qv 1) qa_nil))))) qa_nil)) qa_nil)))))), ?_⟩
    have hrl : r.length = m := by rw [hr.length_eq, List.length_range]
    refine ⟨_, rfl, _, rfl, t, _, 0, .int (m : Nat), rfl, rfl, SqT.of ht, rfl, l, r, m, rfl, hl, hr, hm, fun H1 s1 => ⟨true, rfl, iteF ?_⟩⟩
    have hlb1 := s1 _ _ hlb
    refine ⟨_, rfl, t, _, 0, .int (m : Nat), rfl, rfl, SqT.of (s1 _ _ ht), rfl, _, rfl, t, _, 1, .ref lb, rfl, rfl, SqT.of (s1 _ _ ht), rfl, lb, rfl, ⟨_, SqT.of hlb1⟩, comp_tup (K := K) (xs := ws) (fun i ys H2 => Same H1 H2 ∧ TpAt H2 ys ((bs.take i).map (rn r))) ⟨Same.refl _, trivial⟩ (fun i ys H2 _ ⟨e, _⟩ => SqT.of (e _ _ hlb1)) ?_ ?_⟩
    · rintro i v ys H2 N hi ⟨s2, hY⟩ nx
      obtain ⟨a, b, rfl, hbi, ha⟩ := (hT.sm (s1.trans s2)).get hi
      have hbb := hb b (List.mem_of_getElem? hbi)
      refine ⟨Weak.set (by intro v z; cases z), ⟨_, rfl, _, rfl, a, l, b, r, rfl, ha, (s1.trans s2) _ _ hl, fun x hx => by rw [hrl]; exact hbb.lt x hx, Nat.le_trans hbb.len hm, fun t' H' s' ht' => ⟨?_, nx _ _ ⟨s2.trans s', ?_⟩⟩⟩⟩
      · have := hY.len
        rw [List.length_map, List.length_take] at this
        exact Nat.lt_of_le_of_lt (show ys.length ≤ 200 by omega) (by decide)
      · rw [List.take_add_one, hbi, Option.toList_some, List.map_append]
        exact (hY.sm s').snoc ht'
    rintro ys H2 ⟨s2, hY⟩
    rw [hT.len, List.take_length] at hY
    have hyl := hY.len
    rw [List.length_map] at hyl
    refine ⟨Nat.le_trans (show ys.length ≤ 200 by omega) (by decide), fun p hp => ⟨p, _, rfl, .inl ⟨SqL.of upd_same, fun u hu => ?_⟩⟩⟩
    have w1 := same_new (o := .lst ys) hp
    have w2 := same_new (o := .tup ys) hu
    refine ⟨by show 2 ≤ sizeLine; decide, fun t' ht' => ?_⟩
    have w3 := same_new (o := .tup [.int (m : Nat), .ref u]) ht'
    exact q t' _ ((s1.trans s2).trans (w1.trans (w2.trans w3))) ⟨u, ys, upd_same, w3 _ _ upd_same, hY.sm (w1.trans (w2.trans w3)), by rw [List.length_map]; exact hn⟩
/-- one row of numbers is not behind the other -/
def LexLe (a b : List Nat) : Prop := lexB (b.map fun p => ((p : Nat) : Int)) (a.map fun p => ((p : Nat) : Int)) = false
theorem map_int_inj {a b : List Nat} (h : (a.map fun p => ((p : Nat) : Int)) = b.map fun p => ((p : Nat) : Int)) : a = b := (List.map_inj_right fun x y (e : ((x : Nat) : Int) = ((y : Nat) : Int)) => by omega).mp h
theorem LexLe.trans {a b c : List Nat} (h1 : LexLe a b) (h2 : LexLe b c) : LexLe a c := by
  unfold LexLe at *
  cases h : lexB (c.map fun p => ((p : Nat) : Int)) (a.map fun p => ((p : Nat) : Int)) with
  | false => rfl
  | true =>
    cases h3 : lexB (a.map fun p => ((p : Nat) : Int)) (b.map fun p => ((p : Nat) : Int)) with
    | true =>
      rw [lex_trans h h3] at h2
      cases h2
    | false =>
      rw [lex_tri h3 h1] at h
      rw [h] at h2
      cases h2
theorem LexLe.anti {a b : List Nat} (h1 : LexLe a b) (h2 : LexLe b a) : a = b := map_int_inj (lex_tri h2 h1)
theorem adj_pair {α : Type} {R : α → α → Prop} (ht : ∀ a b c, R a b → R b c → R a c) : ∀ l : List α, (∀ i (h : i + 1 < l.length), R (l[i]'(by omega)) l[i + 1]) → l.Pairwise R
  | [], _ => .nil
  | [a], _ => by simp
  | a :: b :: l, h => by
    have ih := adj_pair ht (b :: l) fun i hi => h (i + 1) (by simpa using hi)
    have h0 : R a b := h 0 (by simp)
    refine List.pairwise_cons.mpr ⟨fun x hx => ?_, ih⟩
    rcases List.mem_cons.mp hx with e | e
    · rw [e]
      exact h0
    · exact ht _ _ _ h0 ((List.pairwise_cons.mp ih).1 x e)
theorem lex_uniq {cs ds bs : List (List Nat)} (h1 : cs.Perm bs) (h2 : cs.Pairwise LexLe) (h3 : ds.Perm bs) (h4 : ds.Pairwise LexLe) : cs = ds := (h1.trans h3.symm).eq_of_pairwise (fun _ _ _ _ x y => LexLe.anti x y) h2 h4
theorem tp_idx {H : Hp} {vs : List V} {bs : List (List Nat)} (h : TpAt H vs bs) : ∀ {idx : List Nat}, (∀ i ∈ idx, i < bs.length) → TpAt H (idx.map fun i => vs.getD i .non) (idx.map fun i => bs.getD i [])
  | [], _ => trivial
  | i :: idx, hi => by
    have hl := h.len
    have hib := hi i (List.mem_cons_self ..)
    obtain ⟨a, b, e1, e2, e3⟩ := h.get (i := i) (v := vs.getD i .non) (by simp [show i < vs.length by omega])
    have e4 : bs.getD i [] = b := by rw [List.getD_eq_getElem?_getD, e2]; rfl
    exact ⟨⟨a, e1, by show H a = some (.tup (nats (bs.getD i []))); rw [e4]; exact e3⟩, tp_idx h fun j hj => hi j (List.mem_cons_of_mem _ hj)⟩
theorem idx_perm {bs : List (List Nat)} {idx : List Nat} (h : idx.Perm (List.range bs.length)) : (idx.map fun i => bs.getD i []).Perm bs := by
  have := h.map fun i => bs.getD i []
  refine this.trans (List.Perm.of_eq ?_)
  apply List.ext_getElem
  · simp
  · intro i h1 h2
    simp [List.getElem_map, List.getElem_range, h2]
def spSl : Sp := fun vs H Q _ => ∃ (t : Addr) (m : Nat) (bs : List (List Nat)), vs = [.ref t] ∧ LayA H t m bs ∧ bs.length ≤ 200 ∧ ∀ (u : Addr) (cs : List (List Nat)) (H' : Hp), Same H H' → LayA H' u m cs → cs.Perm bs → cs.Pairwise LexLe → Q (.ref u) H'
theorem scSortedLayout : FnScope ["M"] ["M"] (defScope sSortedLayout) := ⟨rfl, rfl, rfl, by decide +kernel, rfl, by decide +kernel, by decide +kernel⟩
theorem ok_sl {f : Addr} {fd : FuncData} (F : Fun K "sorted_layout" "sorted_layout" sSortedLayout f fd) (T : TxtB mg) : FnOk P w K mg base CX0 1 f fd ["M"] spSl := by
  refine F.okQ scSortedLayout (fun vs H Q E h => ?_) (fun cdv A outer s H vs Q E hr0 h => ?_)
  · obtain ⟨t, m, bs, rfl, _⟩ := h
    rfl
  · obtain ⟨t, m, bs, rfl, ⟨lb, ws, ht, hlb, hT, hn⟩, h64, q⟩ := h
    refine ⟨_, (qss_one (qs_ret (qe_tup (qac (qe_ix ix_tup (qv 0) qe_int (fun _ _ => rfl)) (qac (qe_callTy call_tuple_of (by rfl) T.tup (by decide +kernel) (qac (qe_callB (call_sortB hr0.units) (by rfl) T.sor (by decide +kernel) (qac (qe_ix ix_tup (qv 0) qe_int (fun _ _ => rfl)) qa_nil)) qa_nil)) qa_nil))))), ?_⟩
    have hwl := hT.len
    refine ⟨_, rfl, t, _, 0, .int (m : Nat), rfl, rfl, SqT.of ht, rfl, _, rfl, t, _, 1, .ref lb, rfl, rfl, SqT.of ht, rfl, lb, ws, bs, rfl, .inr (SqT.of hlb), hT, by omega, fun l idx hl hp hs => ?_⟩
    have w1 := same_new (o := .lst (idx.map fun i => ws.getD i .non)) hl
    have hil : idx.length = bs.length := by rw [hp.length_eq, List.length_range]
    refine ⟨l, _, rfl, .inl ⟨SqL.of upd_same, fun u hu => ⟨by show 2 ≤ sizeLine; decide, fun t' ht' => ?_⟩⟩⟩
    have w2 := same_new (o := .tup (idx.map fun i => ws.getD i .non)) hu
    have w3 := same_new (o := .tup [.int (m : Nat), .ref u]) ht'
    have sA := w1.trans (w2.trans w3)
    refine q t' (idx.map fun i => bs.getD i []) _ sA ⟨u, _, upd_same, w3 _ _ upd_same, (tp_idx hT fun i hi => List.mem_range.mp (hp.mem_iff.mp hi)).sm sA, by rw [List.length_map]; omega⟩ (idx_perm hp) (adj_pair (R := LexLe) (fun _ _ _ => LexLe.trans) _ fun i hi => ?_)
    rw [List.length_map] at hi
    have := hs i (by omega)
    unfold LexLe
    have e1 : idx.getD (i + 1) 0 = idx[i + 1] := by simp [hi]
    have e2 : idx.getD i 0 = idx[i]'(by omega) := by simp [show i < idx.length by omega]
    rw [e1, e2] at this
    rw [List.getElem_map, List.getElem_map]
    exact this
theorem cells_for2 {K : PySem.W.Frag} {a : Addr} {ns : List Int} {H : Hp} {σ : St} {tb : TS} {D : Ends} {hi : Int} {g : TG} (h0 : σ[0]? = some (some (.ref a))) (hS : SqL K H a (ns.map V.int)) (hlen : ns.length ≤ 63) (Sg : St → Prop) (hs0 : Sg σ)
    (turn : ∀ (Hq : Hp), Same H Hq → ∀ (c : Int) (σ' : St) (H2 : Hp), Sg σ' → Same Hq H2 → g (.int c) σ' H2 fun σ2 H3 => tb { D with nx := fun σ4 H4 => Same Hq H4 ∧ Sg σ4, ct := fun σ4 H4 => Same Hq H4 ∧ Sg σ4, bk := D.nx } σ2 H3)
    (done : ∀ σ' H', Sg σ' → D.nx σ' H') :
    tFor (iList K (tOp rCat (tLst (tCons (tCall (spCell2 K) [] E0 (tCons (tVar 0) (tCons (tC (.int 0)) tNil))) tNil)) (tSl (rSlL K) (tVar 0) (tPart (tC (.int 1))) (tPart (tC (.int hi)))))) g tb D σ H := by
  refine ⟨_, h0, a, ns, 0, rfl, hS, by decide, fun z0 H0 s0 => ⟨by show 1 ≤ sizeLine; decide, fun l hl => ?_⟩⟩
  have s1 := same_new (o := .lst [.int z0]) hl
  refine ⟨_, h0, _, rfl, _, rfl, a, _, rfl, (s0.trans s1).seq hS, fun b hb => ?_⟩
  have s2 := s1.trans (same_new (o := .lst (cutV (ns.map V.int) (some 1) (some hi))) hb)
  have hlb : (upd (upd H0 l (.lst [.int z0])) b (.lst (cutV (ns.map V.int) (some 1) (some hi)))) l = some (.lst [.int z0]) := by
    rw [upd_ne (ne_of_none upd_same hb)]
    exact upd_same
  have hcl : (cutV (ns.map V.int) (some 1) (some hi)).length ≤ 63 := Nat.le_trans (cutV_length _ _ _) (by rw [List.length_map]; exact hlen)
  refine ⟨l, b, _, _, rfl, rfl, hlb, upd_same, Nat.le_trans (show 1 + _ ≤ 64 from by omega) (by decide), fun q hq => ?_⟩
  have s3 := s2.trans (same_new (o := .lst ([.int z0] ++ cutV (ns.map V.int) (some 1) (some hi))) hq)
  refine ⟨q, rfl, ⟨_, SqL.of upd_same⟩, for_list (K := K) (a := q) (xs := [.int z0] ++ cutV (ns.map V.int) (some 1) (some hi))
    (fun i σ' H2 => Same (upd (upd (upd H0 l (.lst [.int z0])) b (.lst (cutV (ns.map V.int) (some 1) (some hi)))) q (.lst ([.int z0] ++ cutV (ns.map V.int) (some 1) (some hi)))) H2 ∧ Sg σ')
    ⟨Same.refl _, hs0⟩ (fun i σ' H2 _ ⟨s4, _⟩ => SqL.of (s4 _ _ upd_same)) ?_ ?_⟩
  · rintro i y σ' H2 hi' ⟨s4, hsg⟩
    obtain ⟨c, rfl⟩ : ∃ c, y = V.int c := by
      rcases List.mem_append.mp (List.mem_of_getElem? hi') with z | z
      · exact ⟨z0, List.mem_singleton.mp z⟩
      · exact cut_ints y z
    exact turn _ (s0.trans s3) c σ' H2 hsg s4
  · rintro σ' H2 ⟨_, hsg⟩
    exact done σ' H2 hsg

def tDead : TS := fun _ _ _ => False
theorem qss_dead {X : Cx} {b : List Stmt} : QSs X b tDead := ⟨fun _ _ _ _ _ _ h => h.elim⟩
def spMB : Sp := fun vs H Q _ => ∃ (p : Nat) (l : Addr) (ws : List V) (bs : List (List Nat)) (x : Int), vs = [.int (p : Nat), .ref l, .int x] ∧ H l = some (.lst ws) ∧ BlAt H ws bs ∧ bs.length ≤ 200 ∧ p ≤ 60 ∧ 0 ≤ x ∧ (∀ b ∈ bs, Blk p b) ∧ ∀ (l' : Addr) (ws' : List V) (bs' : List (List Nat)) (H' : Hp), Same H H' → H' l' = some (.lst ws') → BlAt H' ws' bs' → bs'.length ≤ 200 → (∀ b ∈ bs', Blk p b) → Q (.ref l') H'
theorem scLManyBlocks : FnScope ["_law_points", "_law_blocks", "_law_x", "_law_found", "_law_k", "_law_mask"] ["_law_points", "_law_blocks", "_law_x"] (defScope sLManyBlocks) := ⟨rfl, rfl, rfl, by decide +kernel, rfl, by decide +kernel, by decide +kernel⟩
theorem ok_mb {f : Addr} {fd : FuncData} (F : Fun K "_law_many_blocks" "_law_many_blocks" sLManyBlocks f fd) (T : TxtB mg) : FnOk P w K mg base CX0 1 f fd ["_law_points", "_law_blocks", "_law_x"] spMB := by
  refine F.okQ scLManyBlocks (fun vs H Q E h => ?_) (fun cdv A outer s H vs Q E hr h => ?_)
  · obtain ⟨p, l, ws, bs, x, rfl, _⟩ := h
    rfl
  · obtain ⟨p, l, ws, bs, x, rfl, hl, hB, hn, hp, hx, hb, q⟩ := h
    refine ⟨_, (qss_cons (qs_if (QW.pt (qw_or (qt_cmpR op_ne (qe_op op_mod (qv 2) qe_int) qe_int (nomark _)) (qw_or1 (qt_cmpR op_gt (qv 0) qe_int (nomark _))))) (qss_one (qs_ret (qv 1))) qss_nil)
      (qss_cons (qs_set (i := 3) scLManyBlocks.nd rfl (Or.inl rfl) (qe_lst qa_nil))
      (qss_cons (qs_for PassesOwn.never rfl (qi_range1 rfl T.range (qac (qe_op op_sub qe_int (qe_op op_mod (qv 2) qe_int)) qa_nil)) (qg_name (i := 4) scLManyBlocks.nd rfl (Or.inl rfl))
        (qss_cons (qs_set (i := 5) scLManyBlocks.nd rfl (Or.inr rfl) (qe_op op_add (qe_op op_mul (qv 4) (qe_op op_add qe_int (qe_op op_mod (qv 2) qe_int))) (qe_op op_fdiv (qv 2) qe_int)))
        (qss_one (qs_expr (qe_bm PySem.F.plainAttrs_list PySem.F.slot_list_append PySem.F.type_list_append mt_append (qv 3) (qac (qe_comp (g := gName 0) (N := ["_law_point", "_law_mask"]) (src := [none, some 5]) rfl (comp_scope (defScope sLManyBlocks) ["_law_points", "_law_blocks", "_law_x", "_law_found", "_law_k", "_law_mask"] rfl rfl (by decide +kernel) rfl) (qi_range1 rfl T.range (qac (qv 0) qa_nil)) (fun _ _ _ _ _ => (qg_name (i := 0) (show (["_law_point", "_law_mask"] : List Str).Nodup by decide +kernel) rfl (Or.inl rfl) (Or.inr rfl))) (fun _ _ _ _ _ => (qif_one (qt_cmpR op_eq (qe_op op_and (qe_op op_shr (qv 1) (qv 0)) qe_int) qe_int (nomark _)))) (fun _ _ _ _ _ => (qv 0))) qa_nil))))))
      (qss_one (qs_ret (qv 3)))))), ?_⟩
    have done := q l ws bs H (Same.refl _) hl hB hn hb
    refine ⟨_, rfl, _, _, rfl, rfl, (by show (0 : Int) < 8; decide), rfl, _, rfl, ?_⟩
    refine ite2 (fun _ => iteT ⟨_, rfl, done⟩) (fun _ => ⟨_, rfl, _, _, rfl, rfl, _, rfl, ite2 (fun _ => ⟨_, rfl, done⟩) (fun _ => ?_)⟩)
    refine ⟨by show 0 ≤ sizeLine; decide, fun r hr' => ?_⟩
    have w0 := same_new (o := .lst []) hr'
    have m1 := Int.emod_nonneg x (show (3 : Int) ≠ 0 by decide)
    have m2 := Int.emod_lt_of_pos x (show (0 : Int) < 3 by decide)
    have m3 := Int.emod_nonneg x (show (97 : Int) ≠ 0 by decide)
    have m4 := Int.emod_lt_of_pos x (show (0 : Int) < 97 by decide)
    refine ⟨_, rfl, _, _, rfl, rfl, (by show (0 : Int) < 3; decide), _, _, rfl, rfl, _, rfl, by omega, by omega, for_range (lo := 0) (n := (200 - x % 3).toNat) (fun i σ Hx => Same H Hx ∧ ∃ (vs : List V) (cs : List (List Nat)) (x4 x5 : Option V), σ = [some (.int (p : Nat)), some (.ref l), some (.int x), some (.ref r), x4, x5] ∧ Hx r = some (.lst vs) ∧ BlAt Hx vs cs ∧ cs.length = i ∧ (∀ b ∈ cs, Blk p b) ∧ ∀ a, V.ref a ∈ vs → a ≠ r)
      ⟨w0, [], [], none, none, rfl, upd_same, trivial, rfl, by simp, by simp⟩ ?_ ?_⟩
    · rintro i σ Hx hi ⟨sx, vs, cs, x4, x5, rfl, hrx, hC, hcl, hcb, hne⟩
      refine ⟨_, rfl, _, rfl, _, _, rfl, rfl, (by show (0 : Int) < 97; decide), _, _, rfl, rfl, _, _, rfl, rfl, .inl ⟨by omega, by omega⟩, _, rfl, _, _, rfl, rfl, ⟨by decide, by decide⟩, _, _, rfl, rfl, ?_⟩
      refine ⟨_, rfl, .inl ⟨rfl, _, SqL.of hrx⟩, _, rfl, ((p : Nat) : Int), rfl, by omega, by omega, comp_rng (lo := 0) (n := p) (fun i ys H2 => H2 = Hx ∧ ∃ b, ys = nats b ∧ Blk i b) ⟨rfl, [], rfl, ⟨by simp, by simp⟩⟩ ?_ ?_⟩
      · rintro j ys H2 N hj ⟨rfl, b, rfl, hb'⟩ nx
        refine ⟨Weak.set (by intro v z; cases z), ?_⟩
        refine ⟨_, rfl, _, rfl, _, _, rfl, rfl, by omega, _, _, rfl, rfl, rfl, _, rfl, ?_⟩
        refine ite2 (fun _ => ⟨_, rfl, ?_, nx _ _ ⟨rfl, b ++ [j], ?_, hb'.snoc⟩⟩) (fun _ => nx _ _ ⟨rfl, b, rfl, hb'.up⟩)
        · rw [nats_len]
          exact Nat.lt_of_le_of_lt hb'.len (Nat.lt_of_lt_of_le hj (Nat.le_trans hp (by decide)))
        · rw [nats_snoc, Int.zero_add]
      · rintro ys H2 ⟨rfl, b, rfl, hb'⟩
        refine ⟨by rw [nats_len]; exact Nat.le_trans hb'.len (Nat.le_trans hp (by decide)), fun t ht => ?_⟩
        have w1 := same_new (o := .lst (nats b)) ht
        have nt : r ≠ t := ne_of_none hrx ht
        refine ⟨r, _, _, rfl, rfl, w1 _ _ hrx, ?_, ?_⟩
        · rw [hC.len, hcl]
          exact Nat.lt_of_lt_of_le (show i < 201 by omega) (by decide)
        refine ⟨same_upd (sx.trans w1) hr', _, cs ++ [b], _, _, rfl, upd_same, ?_, by rw [List.length_append, hcl]; rfl, fun b' hb2 => ?_, fun a ha => ?_⟩
        · refine BlAt.snoc (by rw [upd_ne nt.symm]; exact upd_same) ((hC.same w1).imp fun a xs ha hq => ?_)
          rw [upd_ne (hne a ha)]
          exact hq
        · rcases List.mem_append.mp hb2 with z | z
          · exact hcb b' z
          · rw [List.mem_singleton.mp z]
            exact hb'
        · rcases List.mem_append.mp ha with z | z
          · exact hne a z
          · cases List.mem_singleton.mp z
            exact nt.symm
    · rintro σ Hx ⟨sx, vs, cs, x4, x5, rfl, hrx, hC, hcl, hcb, hne⟩
      exact ⟨_, rfl, q r vs cs Hx sx hrx hC (by omega) hcb⟩
def spLRow (K : PySem.W.Frag) : Sp := fun vs H Q _ => ∃ (p : Nat) (l : Addr) (ns : List Int), vs = [.int (p : Nat), .ref l] ∧ SqL K H l (ns.map V.int) ∧ 1 ≤ p ∧ p ≤ 60 ∧ 1 ≤ ns.length ∧ ns.length ≤ 1000 ∧ (∀ x ∈ ns, 0 ≤ x ∧ x < 2000000000) ∧ ∀ (t : Addr) (r : List Nat) (H' : Hp), H t = none → Same H H' → H' t = some (.lst (nats r)) → r.Perm (List.range p) → Q (.ref t) H'
theorem scLRow : FnScope ["_law_points", "_law_xs", "_law_row_here", "_law_k"] ["_law_points", "_law_xs"] (defScope sLRow) := ⟨rfl, rfl, rfl, by decide +kernel, rfl, by decide +kernel, by decide +kernel⟩
theorem nats_app (a b : List Nat) : nats (a ++ b) = nats a ++ nats b := by
  unfold nats
  exact List.map_append
theorem nats_takeN (b : List Nat) (k : Nat) : (nats b).take k = nats (b.take k) := by
  unfold nats
  rw [List.map_take]
theorem nats_dropN (b : List Nat) (k : Nat) : (nats b).drop k = nats (b.drop k) := by
  unfold nats
  rw [List.map_drop]
theorem ok_lrow {f : Addr} {fd : FuncData} (F : Fun K "_law_row" "_law_row" sLRow f fd) (T : TxtB mg) : FnOk P w K mg base CX0 1 f fd ["_law_points", "_law_xs"] (spLRow K) := by
  refine F.okQ scLRow (fun vs H Q E h => ?_) (fun cdv A outer s H vs Q E hr h => ?_)
  · obtain ⟨p, l, ns, rfl, _⟩ := h
    rfl
  · obtain ⟨p, l, ns, rfl, hS, hp1, hp2, hn1, hn2, hns, q⟩ := h
    refine ⟨_, (qss_cons (qs_set (i := 2) scLRow.nd rfl (Or.inl rfl) (qe_lst qa_nil))
      (qss_cons (qs_for PassesOwn.never rfl (qi_range1 rfl T.range (qac (qv 0) qa_nil)) (qg_name (i := 3) scLRow.nd rfl (Or.inl rfl))
        (qss_one (qs_expr (qe_bm PySem.F.plainAttrs_list PySem.F.slot_list_insert PySem.F.type_list_insert mt_insert (qv 2) (qac (qe_op op_mod (qe_op op_fdiv (qe_ix ix_list (qv 1) (qe_op op_mod (qv 3) (qe_callB call_len_seq (by rfl) T.len PySem.boot_len (qac (qv 1) qa_nil))) (fun _ _ => rfl)) (qe_op op_add qe_int (qe_op op_fdiv (qv 3) (qe_callB call_len_seq (by rfl) T.len PySem.boot_len (qac (qv 1) qa_nil))))) (qe_op op_add (qv 3) qe_int)) (qac (qv 3) qa_nil))))))
      (qss_one (qs_ret (qv 2))))), ?_⟩
    refine ⟨by show 0 ≤ sizeLine; decide, fun t ht => ?_⟩
    have w0 := same_new (o := .lst []) ht
    refine ⟨_, rfl, ((p : Nat) : Int), rfl, by omega, by omega, for_range (lo := 0) (n := p) (fun i σ Hx => Same H Hx ∧ ∃ (r : List Nat) (x3 : Option V), σ = [some (.int (p : Nat)), some (.ref l), some (.ref t), x3] ∧ Hx t = some (.lst (nats r)) ∧ r.Perm (List.range i))
      ⟨w0, [], none, rfl, upd_same, List.Perm.refl _⟩ ?_ ?_⟩
    · rintro i σ Hx hi ⟨sx, r, x3, rfl, htx, hpm⟩
      have hrl : r.length = i := by rw [hpm.length_eq, List.length_range]
      have hSx : SqL K Hx l (ns.map V.int) := sx.seq hS
      rw [Int.zero_add]
      have hm := Int.emod_nonneg ((i : Nat) : Int) (show ((ns.length : Nat) : Int) ≠ 0 by omega)
      have hm2 := Int.emod_lt_of_pos ((i : Nat) : Int) (show (0 : Int) < ((ns.length : Nat) : Int) by omega)
      obtain ⟨j, hj⟩ : ∃ j : Nat, ((i : Nat) : Int) % ((ns.length : Nat) : Int) = ((j : Nat) : Int) := ⟨(((i : Nat) : Int) % ((ns.length : Nat) : Int)).toNat, by omega⟩
      obtain ⟨y, ey, my⟩ := at_ok (ns := ns) (i := j) (by omega)
      have hd0 : 0 ≤ ((i : Nat) : Int) / ((ns.length : Nat) : Int) := Int.ediv_nonneg (by omega) (by omega)
      have hd1 : ((i : Nat) : Int) / ((ns.length : Nat) : Int) ≤ ((i : Nat) : Int) := Int.ediv_le_self _ (by omega)
      refine ⟨_, rfl, .inl ⟨rfl, _, SqL.of htx⟩, _, rfl, _, rfl, _, rfl, l, _, rfl, .inl hSx, _, _, rfl, rfl, (by show (0 : Int) < (((ns.map V.int).length : Nat) : Int); rw [List.length_map]; omega), ?_⟩
      rw [List.length_map]
      refine ⟨l, _, ((j : Nat) : Int), .int y, rfl, congrArg V.int hj, hSx, ey, _, rfl, _, rfl, l, _, rfl, .inl hSx, _, _, rfl, rfl, ?_, _, _, rfl, rfl, _, _, rfl, rfl, ?_, _, rfl, _, _, rfl, rfl, _, _, rfl, rfl, (by show (0 : Int) < ((i : Nat) : Int) + 1; omega), _, rfl, ?_⟩
      · rw [List.length_map]
        exact ⟨by omega, by omega⟩
      · rw [List.length_map]
        exact ⟨by omega, by omega⟩
      rw [List.length_map]
      have hy := hns y my
      generalize hz : y / (1 + ((i : Nat) : Int) / ((ns.length : Nat) : Int)) = z
      have h0 := Int.emod_nonneg z (show ((i : Nat) : Int) + 1 ≠ 0 by omega)
      have h1 := Int.emod_lt_of_pos z (show (0 : Int) < ((i : Nat) : Int) + 1 by omega)
      obtain ⟨k, hk⟩ : ∃ k : Nat, z % (((i : Nat) : Int) + 1) = ((k : Nat) : Int) := ⟨(z % (((i : Nat) : Int) + 1)).toNat, by omega⟩
      refine ⟨t, nats r, k, .int ((i : Nat) : Int), rfl, congrArg (fun v => [V.int v, V.int ((i : Nat) : Int)]) hk, htx, by rw [nats_len]; omega, ?_, ?_⟩
      · rw [nats_len]
        exact Nat.lt_of_lt_of_le (show r.length < 61 by omega) (by decide)
      refine ⟨same_upd sx ht, r.take k ++ i :: r.drop k, _, rfl, ?_, ?_⟩
      · rw [upd_same, nats_takeN, nats_dropN, nats_app]
        rfl
      · rw [List.range_succ]
        refine List.perm_middle.trans ?_
        rw [List.take_append_drop]
        exact (hpm.cons i).trans (List.perm_append_comm (l₁ := [i]))
    · rintro σ Hx ⟨sx, r, x3, rfl, htx, hpm⟩
      exact ⟨_, rfl, q t r Hx ht sx htx hpm⟩
theorem kit_tup_lst (K : PySem.W.Frag) : PySem.W.kitOne K (.type "tuple") (.type "list") = some false := by kernel_rfl
theorem kit_non_lst (K : PySem.W.Frag) : PySem.W.kitOne K (.type "NoneType") (.type "list") = some false := by kernel_rfl
theorem kit_int_lst (K : PySem.W.Frag) : PySem.W.kitOne K (.type "int") (.type "list") = some false := by kernel_rfl
theorem kit_dct_lst (K : PySem.W.Frag) : PySem.W.kitOne K (.type "dict") (.type "list") = some false := by kernel_rfl
theorem kit_str_lst (K : PySem.W.Frag) : PySem.W.kitOne K (.type "str") (.type "list") = some false := by kernel_rfl
/-- no row of m points -/
def OddR (K : PySem.W.Frag) (H : Hp) (v : V) (m : Nat) : Prop := (∃ T : String, TyOf K H v (.type T) ∧ PySem.W.kitOne K (.type T) (.type "list") = some false) ∨
  ∃ (a : Addr) (xs : List V), v = .ref a ∧ H a = some (.lst xs) ∧ (∀ x ∈ xs, ∃ b, WholeIs K H x b) ∧ xs.length ≤ 100 ∧ (xs.length ≠ m ∨ okB m xs = false)
theorem OddR.sm {K : PySem.W.Frag} {H H' : Hp} (s : Same H H') {v : V} {m : Nat} (h : OddR K H v m) : OddR K H' v m := by
  rcases h with ⟨T, ty, k⟩ | ⟨a, xs, e, h1, h2, h3⟩
  · exact .inl ⟨T, ty_same s ty, k⟩
  · exact .inr ⟨a, xs, e, s _ _ h1, fun x hx => let ⟨b, hb⟩ := h2 x hx; ⟨b, hb.same s⟩, h3⟩
def spIsRowX (K : PySem.W.Frag) : Sp := fun vs H Q _ => ∃ (v : V) (m : Nat), vs = [v, .int (m : Nat)] ∧ OddR K H v m ∧ ∀ H' : Hp, Same H H' → Q (.bl false) H'
theorem ok_isrowX {f : Addr} {fd : FuncData} (F : Fun K "is_row" "is_row" sIsRow f fd) (T : TxtB mg) (pAreUnlikePoints : Pm P w K mg base CX0 3 "are_unlike_points" ["things", "points"] (spUnlikeM K)) : FnOk P w K mg base CX0 4 f fd ["thing", "points"] (spIsRowX K) := by
  refine F.okQ scIsRow (fun vs H Q E h => ?_) (fun cdv A outer s H vs Q E hr3 h => ?_)
  · obtain ⟨v, m, rfl, _⟩ := h
    rfl
  · obtain ⟨v, m, rfl, hO, q⟩ := h
    refine ⟨_, (qss_one (qs_ret (qe_and (qe_callB call_isinst (by rfl) T.isi PyProof.Rows.boot_isinstance (qac (qv 0) (qac (qe_bltn (v := .ty "list") rfl T.lst (by decide +kernel) rfl) qa_nil))) (qe_and (qe_cmpR op_eq (qe_callB call_len_seq (by rfl) T.len PySem.boot_len (qac (qv 0) qa_nil)) (qv 1) (nomark _)) (qe_one (qe_callP pAreUnlikePoints hr3 rfl pass0 (qac (qv 0) (qac (qv 1) qa_nil)))))))), ?_⟩
    rcases hO with ⟨Ty, ty, k⟩ | ⟨a, xs, rfl, ha, hx, hl, ho⟩
    · exact ⟨_, rfl, _, _, _, _, rfl, ty, rel_ty k, false, rfl, iteF (q H (Same.refl _))⟩
    · refine ⟨_, rfl, _, _, _, _, rfl, .lst ha, rel_ty (kit_list_list K), true, rfl, iteT ?_⟩
      refine ⟨_, rfl, a, _, rfl, .inl (SqL.of ha), _, rfl, rfl, _, rfl, ?_⟩
      by_cases hm : xs.length = m
      · refine ifT (congrArg (fun n : Nat => V.int (n : Int)) hm) ?_
        refine ⟨_, rfl, _, rfl, a, xs, m, rfl, ha, hx, Nat.le_trans hl (by decide), fun H' s' => ?_⟩
        rw [ho.resolve_left (fun z => z hm)]
        exact q H' s'
      · exact ifF (fun z => hm (by injection z with z; omega)) (q H (Same.refl _))
def spRnX (K : PySem.W.Frag) (C : Addr) : Sp := fun vs H Q E => ∃ (t : Addr) (v : V) (m : Nat) (bs : List (List Nat)), vs = [.ref t, v] ∧ LayA H t m bs ∧ OddR K H v m ∧ ∀ H' : Hp, Same H H' → E (.ref C) none H'
theorem ok_rnX {f : Addr} {fd : FuncData} (F : Fun K "renamed" "renamed" sRenamed f fd) (eC : PySem.W.ExcK K C) (mC : mg "NoRow" = some (.ref C)) (pIsRow : Pm P w K mg base CX0 4 "is_row" ["thing", "points"] (spIsRowX K)) : FnOk P w K mg base (CX1 P w) 5 f fd ["M", "row"] (spRnX K C) := by
  refine F.okXQ scRenamed (fun vs H Q E h => ?_) (fun cdv A outer s H vs Q E hr4 h => ?_)
  · obtain ⟨t, v, m, bs, rfl, _⟩ := h
    rfl
  · obtain ⟨t, v, m, bs, rfl, ⟨lb, ws, ht, hlb, hT, hn⟩, hO, q⟩ := h
    refine ⟨_, (qss_cons (qs_if (qt_not (qt_val (qe_callP pIsRow hr4 rfl pass0 (qac (qv 1) (qac (qe_ix ix_tup (qv 0) qe_int (fun _ _ => rfl)) qa_nil))))) (qss_one (qs_raise eC.ex rfl mC rfl rfl (qac qe_str qa_nil))) qss_nil) qss_dead), ?_⟩
    refine ⟨_, rfl, _, rfl, t, _, 0, .int (m : Nat), rfl, rfl, SqT.of ht, rfl, v, m, rfl, hO, fun H1 s1 => ⟨false, rfl, iteT ?_⟩⟩
    exact ⟨by show 1 ≤ sizeLine; decide, q _ s1⟩
def rIsXT (K : PySem.W.Frag) : List V → Hp → VK → Prop := fun xs H Q => ∃ a C p ys b, xs = [.ref a, .ref p] ∧ H a = some (XO a C) ∧ PySem.W.ExcK K C ∧ H p = some (.tup ys) ∧ (∀ us, Vals ys us → PySem.W.kitAny K (.ref C) us = some b) ∧ Q (.bl b) H
theorem kit_nones {K : PySem.W.Frag} {t : Value} : ∀ {cs : List Addr}, (∀ c ∈ cs, PySem.W.kitOne K t (.ref c) = some false) → ∀ us, Vals (cs.map V.ref) us → PySem.W.kitAny K t us = some false
  | [], _, us, r => by cases r; rfl
  | c :: cs, h, us, r => by
    cases r with
    | cons r1 r2 =>
      cases r1
      unfold PySem.W.kitAny
      rw [h c (by simp)]
      exact kit_nones (fun c' hc' => h c' (List.mem_cons_of_mem _ hc')) _ r2
def spRefR (K : PySem.W.Frag) : Sp := fun vs H Q _ => ∃ (t : Addr) (v : V) (m : Nat) (bs : List (List Nat)), vs = [.ref t, v] ∧ LayA H t m bs ∧ OddR K H v m ∧ ∀ H' : Hp, Same H H' → Q (.bl true) H'
theorem scRef : FnScope ["_law_layout", "_law_row_here", "_law_caught", "e"] ["_law_layout", "_law_row_here"] (defScope sRef) := ⟨rfl, rfl, rfl, by decide +kernel, rfl, by decide +kernel, by decide +kernel⟩
theorem ok_refR {f : Addr} {fd : FuncData} {o1 o2 o3 o4 o5 o6 o7 o8 o9 o10 o11 o12 o13 : Addr} (F : Fun K "_law_refused" "_law_refused" sRef f fd) (T : TxtB mg) (D : MarksD K mg M C o1 o2 o3 o4 o5 o6 o7 o8 o9 o10 o11 o12 o13) (pRn : Pm P w K mg base (CX1 P w) 5 "renamed" ["M", "row"] (spRnX K C)) : FnOk P w K mg base CX0 6 f fd ["_law_layout", "_law_row_here"] (spRefR K) := by
  refine F.okQ scRef (fun vs H Q E h => ?_) (fun cdv A outer s H vs Q E hr5 h => ?_)
  · obtain ⟨t, v, m, bs, rfl, _⟩ := h
    rfl
  · obtain ⟨t, v, m, bs, rfl, hL, hO, q⟩ := h
    refine ⟨_, (qss_cons (qs_set (i := 2) scRef.nd rfl (Or.inl rfl) qe_non)
      (qss_cons (qs_tryS rfl rfl rfl (fun pn E => qss_one (qs_expr (qe_callP pRn hr5 rfl (passT rfl) (qac (qv 0) (qac (qv 1) qa_nil))))) rfl D.mM D.R.eM scRef.nd (i := 3) rfl rfl (fun a => (qss_one (qs_set (i := 2) scRef.nd rfl (Or.inl rfl) (qv 3)))))
      (qss_cons (qs_if (qt_val (qe_callB (show CallR _ _ (rIsXT K) from call_isinstXT D.R.cl) (by rfl) T.isi PyProof.Rows.boot_isinstance (qac (qv 2) (qac (qe_tup (qac (qe_glob (v := .ref o1) rfl D.m1 rfl) (qac (qe_glob (v := .ref o2) rfl D.m2 rfl) (qac (qe_glob (v := .ref o12) rfl D.m12 rfl) (qac (qe_glob (v := .ref o9) rfl D.m9 rfl) (qac (qe_glob (v := .ref o3) rfl D.m3 rfl) (qac (qe_glob (v := .ref o4) rfl D.m4 rfl) (qac (qe_glob (v := .ref o5) rfl D.m5 rfl) (qac (qe_glob (v := .ref o13) rfl D.m13 rfl) (qac (qe_glob (v := .ref o6) rfl D.m6 rfl) (qac (qe_glob (v := .ref o7) rfl D.m7 rfl) qa_nil))))))))))) qa_nil)))) (qss_one (qs_ret qe_bl)) qss_nil)
      (qss_cons (qs_if (qt_val (qe_callB (show CallR _ _ (rIsXT K) from call_isinstXT D.R.cl) (by rfl) T.isi PyProof.Rows.boot_isinstance (qac (qv 2) (qac (qe_tup (qac (qe_glob (v := .ref o8) rfl D.m8 rfl) (qac (qe_glob (v := .ref o10) rfl D.m10 rfl) (qac (qe_glob (v := .ref o11) rfl D.m11 rfl) qa_nil)))) qa_nil)))) (qss_one (qs_ret qe_bl)) qss_nil)
      (qss_one (qs_ret (qe_and (qe_callB (show CallR _ _ (rIsX K) from call_isinstX D.R.cl) (by rfl) T.isi PyProof.Rows.boot_isinstance (qac (qv 2) (qac (qe_glob (v := .ref C) rfl D.mC rfl) qa_nil))) (qe_one (qe_callB (show CallR _ _ (rIsX K) from call_isinstX D.R.cl) (by rfl) T.isi PyProof.Rows.boot_isinstance (qac (qv 2) (qac (qe_bltn (v := .ty "ValueError") rfl D.mV (by decide +kernel) rfl) qa_nil))))))))))), ?_⟩
    refine ⟨_, rfl, _, rfl, t, v, m, bs, rfl, hL, hO, fun H1 s1 => ⟨C, rfl, D.R.sub, fun a ha => ?_⟩⟩
    have w0 := same_new (o := XO a C) ha
    have hx : (upd H1 a (XO a C)) a = some (XO a C) := upd_same
    have s2 := s1.trans w0
    generalize upd H1 a (XO a C) = H2 at hx s2 ⊢
    refine ⟨_, rfl, ?_⟩
    refine ⟨_, rfl, by show 10 ≤ sizeLine; decide, fun p hp => ?_⟩
    have w1 := same_new (o := .tup ([o1, o2, o12, o9, o3, o4, o5, o13, o6, o7].map V.ref)) hp
    refine ⟨a, C, p, [o1, o2, o12, o9, o3, o4, o5, o13, o6, o7].map V.ref, false, rfl, w1 _ _ hx, D.R.eC, upd_same, kit_nones (fun c hc => ?_), false, rfl, iteF ?_⟩
    · simp only [List.mem_cons, List.not_mem_nil, or_false] at hc
      rcases hc with rfl | rfl | rfl | rfl | rfl | rfl | rfl | rfl | rfl | rfl
      · exact D.R.q1
      · exact D.R.q2
      · exact D.R.q12
      · exact D.R.q9
      · exact D.R.q3
      · exact D.R.q4
      · exact D.R.q5
      · exact D.R.q13
      · exact D.R.q6
      · exact D.R.q7
    have hx3 := w1 _ _ hx
    have s3 := s2.trans w1
    show tSeq _ _ _ _ (upd H2 p (.tup ([o1, o2, o12, o9, o3, o4, o5, o13, o6, o7].map V.ref)))
    generalize upd H2 p (.tup ([o1, o2, o12, o9, o3, o4, o5, o13, o6, o7].map V.ref)) = H3 at hx3 s3 ⊢
    refine ⟨_, rfl, by show 3 ≤ sizeLine; decide, fun p2 hp2 => ?_⟩
    have w2 := same_new (o := .tup ([o8, o10, o11].map V.ref)) hp2
    refine ⟨a, C, p2, [o8, o10, o11].map V.ref, false, rfl, w2 _ _ hx3, D.R.eC, upd_same, kit_nones (fun c hc => ?_), false, rfl, iteF ?_⟩
    · simp only [List.mem_cons, List.not_mem_nil, or_false] at hc
      rcases hc with rfl | rfl | rfl
      · exact D.R.q8
      · exact D.R.q10
      · exact D.R.q11
    have hx4 := w2 _ _ hx3
    have s4 := s3.trans w2
    refine ⟨_, rfl, a, C, _, true, rfl, hx4, D.R.eC, rel_ref D.R.kC, true, rfl, iteT ?_⟩
    exact ⟨_, rfl, a, C, _, true, rfl, hx4, D.R.eC, rel_ty D.R.kV, q _ s4⟩
/-- what a reading gives, in any later heap -/
def Gv (e : TE) (σ : St) (H : Hp) (R : V → Hp → Prop) : Prop := ∀ H1, Same H H1 → ∀ k : VK, (∀ v H2, Same H1 H2 → R v H2 → k v H2) → e σ H1 k
def GvL (ts : TA) (σ : St) (H : Hp) (R : V → Hp → Prop) (n : Nat) : Prop := ∀ H1, Same H H1 → ∀ k : List V → Hp → Prop, (∀ vs H2, Same H1 H2 → vs.length = n → (∀ v ∈ vs, R v H2) → k vs H2) → ts σ H1 k
theorem GvL.nil {σ : St} {H : Hp} {R : V → Hp → Prop} : GvL tNil σ H R 0 := fun H1 _ k h => h [] H1 (Same.refl _) rfl (by simp)
theorem GvL.cons {e : TE} {ts : TA} {σ : St} {H : Hp} {R : V → Hp → Prop} {n : Nat} (mono : ∀ v H1 H2, Same H1 H2 → R v H1 → R v H2) (h1 : Gv e σ H R) (h2 : GvL ts σ H R n) : GvL (tCons e ts) σ H R (n + 1) := fun H1 s1 k h =>
  h1 H1 s1 _ fun v H2 s2 hv => h2 H2 (s1.trans s2) _ fun vs H3 s3 hl hvs => h (v :: vs) H3 (s2.trans s3) (by rw [List.length_cons, hl]) fun u hu => by
    rcases List.mem_cons.mp hu with z | z
    · rw [z]
      exact mono _ _ _ s3 hv
    · exact hvs u z
section
variable {H : Hp} {σ : St} {l : Addr} {p a : Nat} {r : List Nat}
theorem nats_wh {K : PySem.W.Frag} {H : Hp} {b : List Nat} : ∀ x ∈ nats b, ∃ c, WholeIs K H x c := fun x hx => by
  obtain ⟨y, _, rfl⟩ := List.mem_map.mp hx
  exact ⟨_, .int _⟩
theorem odd_len {K : PySem.W.Frag} {H : Hp} {g : Addr} {b : List Nat} (h : H g = some (.lst (nats b))) (hl : b.length ≠ p) (h2 : b.length ≤ 100) : OddR K H (.ref g) p := .inr ⟨g, _, rfl, h, nats_wh, by rw [nats_len]; exact h2, .inl (by rw [nats_len]; exact hl)⟩
theorem odd_mid {K : PySem.W.Frag} {H : Hp} {g : Addr} {v : V} (h : H g = some (.lst (nats (r.take a) ++ [v] ++ nats (r.drop (a + 1))))) (hr : r.length = p) (ha : a < p) (hp : p ≤ 60) (hv : ∃ c, WholeIs K H v c) (ho : okB p (nats (r.take a) ++ [v] ++ nats (r.drop (a + 1))) = false) : OddR K H (.ref g) p := by
  refine .inr ⟨g, _, rfl, h, fun x hx => ?_, ?_, .inr ho⟩
  · rcases List.mem_append.mp hx with hx | hx
    · rcases List.mem_append.mp hx with hx | hx
      · exact nats_wh x hx
      · rw [List.mem_singleton.mp hx]
        exact hv
    · exact nats_wh x hx
  · rw [List.length_append, List.length_append, nats_len, nats_len, List.length_take, List.length_drop, List.length_singleton]
    omega
theorem ok_bad {v : V} (hv : belowV p v = false) {xs ys : List V} : okB p (xs ++ [v] ++ ys) = false := by
  unfold okB
  rw [List.all_append, List.all_append, List.all_cons, hv, Bool.false_and, Bool.and_false, Bool.false_and, Bool.false_and]
variable (h0 : σ[0]? = some (some (.ref l))) (h3 : σ[3]? = some (some (.int ((a : Nat) : Int)))) (hl : H l = some (.lst (nats r))) (hrl : r.length = p) (ha : a < p) (hp : p ≤ 60)
include h0 h3 hl hrl ha hp
theorem gv_mid {K : PySem.W.Frag} {e : TE} {R : V → Hp → Prop} (mono : ∀ v H1 H2, Same H1 H2 → R v H1 → R v H2) (he : Gv e σ H R) (hR : ∀ v H2, R v H2 → (∃ c, WholeIs K H2 v c) ∧ okB p (nats (r.take a) ++ [v] ++ nats (r.drop (a + 1))) = false) :
    Gv (tOp rCat (tOp rCat (tSl (rSlL K) (tVar 0) tNoPart (tPart (tVar 3))) (tLst (tCons e tNil))) (tSl (rSlL K) (tVar 0) (tPart (tOp (rI0 fun i j => V.int (i + j)) (tVar 3) (tC (V.int 1)))) tNoPart)) σ H (fun v H' => OddR K H' v p) := fun H1 s1 k q => by
  have hl1 := s1 _ _ hl
  refine ⟨_, h0, _, h3, _, rfl, l, _, rfl, SqL.of hl1, fun g1 hg1 => ?_⟩
  have w1 := same_new (o := .lst (cutV (nats r) none (some ((a : Nat) : Int)))) hg1
  refine he _ (s1.trans w1) _ fun v H2 s2 hv => ⟨by show 1 ≤ sizeLine; decide, fun g2 hg2 => ?_⟩
  have w2 := same_new (o := .lst [v]) hg2
  refine ⟨g1, g2, _, _, rfl, rfl, (s2.trans w2) _ _ upd_same, upd_same, ?_, fun g3 hg3 => ?_⟩
  · rw [cut_to (by rw [nats_len]; omega), List.length_take, nats_len, List.length_singleton]
    exact Nat.le_trans (show _ ≤ 100 by omega) (by decide)
  have w3 := same_new (o := .lst (cutV (nats r) none (some ((a : Nat) : Int)) ++ [v])) hg3
  have s13 := w1.trans (s2.trans (w2.trans w3))
  refine ⟨_, h0, _, h3, _, _, rfl, rfl, _, rfl, l, _, rfl, SqL.of (s13 _ _ hl1), fun g4 hg4 => ?_⟩
  have w4 := same_new (o := .lst (cutV (nats r) (some (((a : Nat) : Int) + 1)) none)) hg4
  have ec : cutV (nats r) (some (((a : Nat) : Int) + 1)) none = nats (r.drop (a + 1)) := by
    rw [show ((a : Nat) : Int) + 1 = ((a + 1 : Nat) : Int) by omega, cut_from (by rw [nats_len]; omega), nats_dropN]
  have ec2 : cutV (nats r) none (some ((a : Nat) : Int)) = nats (r.take a) := by rw [cut_to (by rw [nats_len]; omega), nats_takeN]
  refine ⟨g3, g4, _, _, rfl, rfl, w4 _ _ upd_same, upd_same, ?_, fun g5 hg5 => ?_⟩
  · rw [ec, ec2, List.length_append, nats_len, nats_len, List.length_take, List.length_drop, List.length_singleton]
    exact Nat.le_trans (show _ ≤ 100 by omega) (by decide)
  have w5 := same_new (o := .lst (cutV (nats r) none (some ((a : Nat) : Int)) ++ [v] ++ cutV (nats r) (some (((a : Nat) : Int) + 1)) none)) hg5
  have hv5 := mono _ _ _ (w2.trans (w3.trans (w4.trans w5))) hv
  refine q _ _ (s13.trans (w4.trans w5)) ?_
  obtain ⟨z1, z2⟩ := hR _ _ hv5
  refine odd_mid (r := r) (a := a) ?_ hrl ha hp z1 z2
  rw [upd_same, ec, ec2]
theorem gv_less {K : PySem.W.Frag} : Gv (tOp rCat (tSl (rSlL K) (tVar 0) tNoPart (tPart (tVar 3))) (tSl (rSlL K) (tVar 0) (tPart (tOp (rI0 fun i j => V.int (i + j)) (tVar 3) (tC (V.int 1)))) tNoPart)) σ H (fun v H' => OddR K H' v p) := fun H1 s1 k q => by
  have hl1 := s1 _ _ hl
  refine ⟨_, h0, _, h3, _, rfl, l, _, rfl, SqL.of hl1, fun g1 hg1 => ?_⟩
  have w1 := same_new (o := .lst (cutV (nats r) none (some ((a : Nat) : Int)))) hg1
  refine ⟨_, h0, _, h3, _, _, rfl, rfl, _, rfl, l, _, rfl, SqL.of (w1 _ _ hl1), fun g4 hg4 => ?_⟩
  have w4 := same_new (o := .lst (cutV (nats r) (some (((a : Nat) : Int) + 1)) none)) hg4
  have ec : cutV (nats r) (some (((a : Nat) : Int) + 1)) none = nats (r.drop (a + 1)) := by
    rw [show ((a : Nat) : Int) + 1 = ((a + 1 : Nat) : Int) by omega, cut_from (by rw [nats_len]; omega), nats_dropN]
  have ec2 : cutV (nats r) none (some ((a : Nat) : Int)) = nats (r.take a) := by rw [cut_to (by rw [nats_len]; omega), nats_takeN]
  refine ⟨g1, g4, _, _, rfl, rfl, w4 _ _ upd_same, upd_same, ?_, fun g5 hg5 => ?_⟩
  · rw [ec, ec2, nats_len, nats_len, List.length_take, List.length_drop]
    exact Nat.le_trans (show _ ≤ 100 by omega) (by decide)
  have w5 := same_new (o := .lst (cutV (nats r) none (some ((a : Nat) : Int)) ++ cutV (nats r) (some (((a : Nat) : Int) + 1)) none)) hg5
  refine q _ _ (w1.trans (w4.trans w5)) (odd_len (b := r.take a ++ r.drop (a + 1)) ?_ ?_ ?_)
  · rw [upd_same, ec, ec2, nats_app]
  · rw [List.length_append, List.length_take, List.length_drop]
    omega
  · rw [List.length_append, List.length_take, List.length_drop]
    omega
theorem mid_use {K : PySem.W.Frag} {e : TE} {v : V} {Q : VK} (he : ∀ H1, Same H H1 → ∀ k : VK, k v H1 → e σ H1 k) (q : ∀ g H', Same H H' → H g = none → H' g = some (.lst (nats (r.take a) ++ [v] ++ nats (r.drop (a + 1)))) → Q (.ref g) H') :
    tOp rCat (tOp rCat (tSl (rSlL K) (tVar 0) tNoPart (tPart (tVar 3))) (tLst (tCons e tNil))) (tSl (rSlL K) (tVar 0) (tPart (tOp (rI0 fun i j => V.int (i + j)) (tVar 3) (tC (V.int 1)))) tNoPart) σ H Q := by
  refine ⟨_, h0, _, h3, _, rfl, l, _, rfl, SqL.of hl, fun g1 hg1 => ?_⟩
  have w1 := same_new (o := .lst (cutV (nats r) none (some ((a : Nat) : Int)))) hg1
  refine he _ w1 _ ⟨by show 1 ≤ sizeLine; decide, fun g2 hg2 => ?_⟩
  have w2 := same_new (o := .lst [v]) hg2
  refine ⟨g1, g2, _, _, rfl, rfl, w2 _ _ upd_same, upd_same, ?_, fun g3 hg3 => ?_⟩
  · rw [cut_to (by rw [nats_len]; omega), List.length_take, nats_len, List.length_singleton]
    exact Nat.le_trans (show _ ≤ 100 by omega) (by decide)
  have w3 := same_new (o := .lst (cutV (nats r) none (some ((a : Nat) : Int)) ++ [v])) hg3
  have s13 := w1.trans (w2.trans w3)
  refine ⟨_, h0, _, h3, _, _, rfl, rfl, _, rfl, l, _, rfl, SqL.of (s13 _ _ hl), fun g4 hg4 => ?_⟩
  have w4 := same_new (o := .lst (cutV (nats r) (some (((a : Nat) : Int) + 1)) none)) hg4
  have ec : cutV (nats r) (some (((a : Nat) : Int) + 1)) none = nats (r.drop (a + 1)) := by
    rw [show ((a : Nat) : Int) + 1 = ((a + 1 : Nat) : Int) by omega, cut_from (by rw [nats_len]; omega), nats_dropN]
  have ec2 : cutV (nats r) none (some ((a : Nat) : Int)) = nats (r.take a) := by rw [cut_to (by rw [nats_len]; omega), nats_takeN]
  refine ⟨g3, g4, _, _, rfl, rfl, w4 _ _ upd_same, upd_same, ?_, fun g5 hg5 => ?_⟩
  · rw [ec, ec2, List.length_append, nats_len, nats_len, List.length_take, List.length_drop, List.length_singleton]
    exact Nat.le_trans (show _ ≤ 100 by omega) (by decide)
  have w5 := same_new (o := .lst (cutV (nats r) none (some ((a : Nat) : Int)) ++ [v] ++ cutV (nats r) (some (((a : Nat) : Int) + 1)) none)) hg5
  refine q _ _ (s13.trans (w4.trans w5)) ((s13.trans w4).free hg5) ?_
  rw [upd_same, ec, ec2]
omit h0 h3 hl hp in
theorem dup_at (h2 : 1 < p) : ∃ x : Nat, atI (nats r) (((a : Nat) : Int) - 1) = some (.int ((x : Nat) : Int)) ∧ okB p (nats (r.take a) ++ [.int ((x : Nat) : Int)] ++ nats (r.drop (a + 1))) = false := by
  have bad : ∀ x : Nat, x ∈ r.take a ∨ x ∈ r.drop (a + 1) → okB p (nats (r.take a) ++ [.int ((x : Nat) : Int)] ++ nats (r.drop (a + 1))) = false := fun x hx => by
    have e : nats (r.take a) ++ [.int ((x : Nat) : Int)] ++ nats (r.drop (a + 1)) = nats (r.take a ++ [x] ++ r.drop (a + 1)) := by
      rw [nats_app, nats_app]
      rfl
    rw [e]
    unfold okB
    rw [decide_eq_false, Bool.and_false]
    rw [nats_nodup]
    intro nd
    rw [List.append_assoc, List.nodup_append] at nd
    obtain ⟨_, n2, n3⟩ := nd
    rcases hx with hx | hx
    · exact n3 x hx x (by simp) rfl
    · rw [List.singleton_append, List.nodup_cons] at n2
      exact n2.1 hx
  by_cases h1 : a = 0
  · subst h1
    refine ⟨r[p - 1]'(by omega), ?_, bad _ (.inr ?_)⟩
    · show atI (nats r) (-1) = _
      have e : ixN (nats r).length (-1) = some (p - 1) := by
        unfold ixN
        rw [nats_len, hrl, if_neg (by decide), if_pos (by omega)]
        congr 1
        omega
      unfold atI
      rw [e]
      show (nats r)[p - 1]? = _
      unfold nats
      rw [List.getElem?_map, List.getElem?_eq_getElem (by omega)]
      rfl
    · rw [List.mem_iff_getElem]
      refine ⟨p - 2, by rw [List.length_drop]; omega, ?_⟩
      rw [List.getElem_drop]
      congr 1
      omega
  · refine ⟨r[a - 1]'(by omega), ?_, bad _ (.inl ?_)⟩
    · rw [show ((a : Nat) : Int) - 1 = ((a - 1 : Nat) : Int) by omega, nat_at (by omega)]
      simp [show a - 1 < r.length by omega]
    · rw [List.mem_iff_getElem]
      exact ⟨a - 1, by rw [List.length_take]; omega, by rw [List.getElem_take]⟩
omit h3 ha in
theorem gv_more {K : PySem.W.Frag} {e : TE} (he : Gv e σ H fun v _ => ∃ x : Nat, v = .int ((x : Nat) : Int)) : Gv (tOp rCat (tVar 0) (tLst (tCons e tNil))) σ H (fun v H' => OddR K H' v p) := fun H1 s1 k q => by
  have hl1 := s1 _ _ hl
  refine ⟨_, h0, he _ s1 _ fun v H2 s2 ⟨x, hv⟩ => ⟨by show 1 ≤ sizeLine; decide, fun g2 hg2 => ?_⟩⟩
  subst hv
  have w2 := same_new (o := .lst [.int ((x : Nat) : Int)]) hg2
  refine ⟨l, g2, _, _, rfl, rfl, (s2.trans w2) _ _ hl1, upd_same, ?_, fun g3 hg3 => ?_⟩
  · rw [nats_len, List.length_singleton]
    exact Nat.le_trans (show _ ≤ 100 by omega) (by decide)
  have w3 := same_new (o := .lst (nats r ++ [.int ((x : Nat) : Int)])) hg3
  refine q _ _ (s2.trans (w2.trans w3)) (odd_len (b := r ++ [x]) ?_ ?_ ?_)
  · rw [upd_same, nats_app]
    rfl
  · rw [List.length_append, List.length_singleton]
    omega
  · rw [List.length_append, List.length_singleton]
    omega
end
theorem gv_c {σ : St} {H : Hp} {v : V} {R : V → Hp → Prop} (h : ∀ H', R v H') : Gv (tC v) σ H R := fun H1 _ k q => q v H1 (Same.refl _) (h H1)
theorem gv_v {σ : St} {H : Hp} {i : Nat} {v : V} {R : V → Hp → Prop} (e : σ[i]? = some (some v)) (h : ∀ H', R v H') : Gv (tVar i) σ H R := fun H1 _ k q => ⟨_, e, q v H1 (Same.refl _) (h H1)⟩
theorem lst_use {ts : TA} {σ : St} {H : Hp} {R : V → Hp → Prop} {n : Nat} {Q : VK} (mono : ∀ v H1 H2, Same H1 H2 → R v H1 → R v H2) (h : GvL ts σ H R n) (hn : n ≤ 100) (q : ∀ vs H2 p, Same H H2 → vs.length = n → (∀ v ∈ vs, R v H2) → H2 p = some (.lst vs) → Q (.ref p) H2) : tLst ts σ H Q :=
  h H (Same.refl _) _ fun vs H2 s2 hl hv => ⟨Nat.le_trans (Nat.le_of_eq hl) (Nat.le_trans hn (by decide)), fun p hp => q vs _ p (s2.trans (same_new hp)) hl (fun v z => mono _ _ _ (same_new hp) (hv v z)) upd_same⟩
theorem cat_use {ts : TA} {σ : St} {H : Hp} {R : V → Hp → Prop} {n i : Nat} {a : Addr} {xs : List V} {Q : VK} (mono : ∀ v H1 H2, Same H1 H2 → R v H1 → R v H2) (hi : σ[i]? = some (some (.ref a))) (ha : H a = some (.lst xs)) (h : GvL ts σ H R n) (hn : xs.length + n ≤ 100) (q : ∀ vs H2 p, Same H H2 → vs.length = n → (∀ v ∈ vs, R v H2) → H2 p = some (.lst (xs ++ vs)) → Q (.ref p) H2) : tOp rCat (tVar i) (tLst ts) σ H Q :=
  ⟨_, hi, lst_use mono h (by omega) fun vs H2 p s2 hl hv hp => ⟨a, p, xs, vs, rfl, rfl, s2 _ _ ha, hp, Nat.le_trans (by rw [hl]; exact hn) (by decide), fun g hg => q vs _ g (s2.trans (same_new hg)) hl (fun v z => mono _ _ _ (same_new hg) (hv v z)) upd_same⟩⟩
theorem cat_useN {ts : TA} {σ : St} {H : Hp} {R : V → Hp → Prop} {n i : Nat} {a : Addr} {xs : List V} {Q : VK} (mono : ∀ v H1 H2, Same H1 H2 → R v H1 → R v H2) (hi : σ[i]? = some (some (.ref a))) (ha : H a = some (.lst xs)) (h : GvL ts σ H R n) (hn : xs.length + n ≤ 100) (q : ∀ vs H2 p, Same H H2 → vs.length = n → (∀ v ∈ vs, R v H2) → H2 p = none → Q (.ref p) (upd H2 p (.lst (xs ++ vs)))) : tOp rCat (tVar i) (tLst ts) σ H Q :=
  ⟨_, hi, lst_use mono h (by omega) fun vs H2 p s2 hl hv hp => ⟨a, p, xs, vs, rfl, rfl, s2 _ _ ha, hp, Nat.le_trans (by rw [hl]; exact hn) (by decide), fun g hg => q vs _ g s2 hl hv hg⟩⟩
def spOddRow (K : PySem.W.Frag) : Sp := fun vs H Q _ => ∃ (l lx : Addr) (p : Nat) (r : List Nat) (ns : List Int), vs = [.ref l, .ref lx] ∧ H l = some (.lst (nats r)) ∧ r.Perm (List.range p) ∧ 1 ≤ p ∧ p ≤ 60 ∧ SqL K H lx (ns.map V.int) ∧ 2 ≤ ns.length ∧ ∀ (v : V) (H' : Hp), Same H H' → OddR K H' v p → Q v H'
theorem scLOddRow : FnScope ["_law_row_here", "_law_xs", "_law_points", "_law_at", "_law_some"] ["_law_row_here", "_law_xs"] (defScope sLOddRow) := ⟨rfl, rfl, rfl, by decide +kernel, rfl, by decide +kernel, by decide +kernel⟩
theorem ok_oddrow {f : Addr} {fd : FuncData} (F : Fun K "_law_odd_row" "_law_odd_row" sLOddRow f fd) (T : TxtB mg) : FnOk P w K mg base CX0 1 f fd ["_law_row_here", "_law_xs"] (spOddRow K) := by
  refine F.okQ scLOddRow (fun vs H Q E h => ?_) (fun cdv A outer s H vs Q E hr h => ?_)
  · obtain ⟨l, lx, p, r, ns, rfl, _⟩ := h
    rfl
  · obtain ⟨l, lx, p, r, ns, rfl, hl, hpm, hp1, hp2, hS, hn, q⟩ := h
    refine ⟨_, (qss_cons (qs_set (i := 2) scLOddRow.nd rfl (Or.inl rfl) (qe_callB call_len_seq (by rfl) T.len PySem.boot_len (qac (qv 0) qa_nil)))
      (qss_cons (qs_set (i := 3) scLOddRow.nd rfl (Or.inl rfl) (qe_op op_mod (qe_ix ix_list (qv 1) qe_int (fun _ _ => rfl)) (qv 2)))
      (qss_cons (qs_set (i := 4) scLOddRow.nd rfl (Or.inl rfl) (qe_lst (qac (qe_callTy call_tuple_of (by rfl) T.tup (by decide +kernel) (qac (qv 0) qa_nil)) (qac (qe_op op_cat (qe_slice sl_list (qv 0) qo_none (qo_some (qv 3))) (qe_slice sl_list (qv 0) (qo_some (qe_op op_add (qv 3) qe_int)) qo_none)) (qac (qe_op op_cat (qv 0) (qe_lst (qac (qv 2) qa_nil))) (qac (qe_op op_cat (qv 0) (qe_lst (qac (qe_ix ix_list (qv 0) (qv 3) (fun _ _ => rfl)) qa_nil))) (qac (qe_op op_cat (qe_op op_cat (qe_slice sl_list (qv 0) qo_none (qo_some (qv 3))) (qe_lst (qac (qv 2) qa_nil))) (qe_slice sl_list (qv 0) (qo_some (qe_op op_add (qv 3) qe_int)) qo_none)) qa_nil)))))))
      (qss_cons (qs_set (i := 4) scLOddRow.nd rfl (Or.inl rfl) (qe_op op_cat (qv 4) (qe_lst (qac (qe_op op_cat (qe_op op_cat (qe_slice sl_list (qv 0) qo_none (qo_some (qv 3))) (qe_lst (qac qe_bl qa_nil))) (qe_slice sl_list (qv 0) (qo_some (qe_op op_add (qv 3) qe_int)) qo_none)) (qac (qe_op op_cat (qe_op op_cat (qe_slice sl_list (qv 0) qo_none (qo_some (qv 3))) (qe_lst (qac qe_str qa_nil))) (qe_slice sl_list (qv 0) (qo_some (qe_op op_add (qv 3) qe_int)) qo_none)) (qac qe_non (qac (qv 2) (qac qe_dnewK (qac qe_str qa_nil)))))))))
      (qss_cons (qs_set (i := 4) scLOddRow.nd rfl (Or.inl rfl) (qe_op op_cat (qv 4) (qe_lst (qac (qe_op op_cat (qe_op op_cat (qe_slice sl_list (qv 0) qo_none (qo_some (qv 3))) (qe_lst (qac qe_non qa_nil))) (qe_slice sl_list (qv 0) (qo_some (qe_op op_add (qv 3) qe_int)) qo_none)) (qac (qe_op op_cat (qe_op op_cat (qe_slice sl_list (qv 0) qo_none (qo_some (qv 3))) (qe_lst (qac (qe_lst (qac qe_int qa_nil)) qa_nil))) (qe_slice sl_list (qv 0) (qo_some (qe_op op_add (qv 3) qe_int)) qo_none)) (qac (qe_op op_cat (qe_op op_cat (qe_slice sl_list (qv 0) qo_none (qo_some (qv 3))) (qe_lst (qac (qe_un un_neg qe_int) qa_nil))) (qe_slice sl_list (qv 0) (qo_some (qe_op op_add (qv 3) qe_int)) qo_none)) qa_nil))))))
      (qss_cons (qs_if (qt_cmpR op_gt (qv 2) qe_int (nomark _)) (qss_one (qs_expr (qe_bm PySem.F.plainAttrs_list PySem.F.slot_list_append PySem.F.type_list_append mt_append (qv 4) (qac (qe_op op_cat (qe_op op_cat (qe_slice sl_list (qv 0) qo_none (qo_some (qv 3))) (qe_lst (qac (qe_ix ix_list (qv 0) (qe_op op_sub (qv 3) qe_int) (fun _ _ => rfl)) qa_nil))) (qe_slice sl_list (qv 0) (qo_some (qe_op op_add (qv 3) qe_int)) qo_none)) qa_nil)))) qss_nil)
      (qss_one (qs_ret (qe_ix ix_list (qv 4) (qe_op op_mod (qe_ix ix_list (qv 1) qe_int (fun _ _ => rfl)) (qe_callB call_len_seq (by rfl) T.len PySem.boot_len (qac (qv 4) qa_nil))) (fun _ _ => rfl)))))))))), ?_⟩
    have hrl : r.length = p := by rw [hpm.length_eq, List.length_range]
    obtain ⟨y0, e0, _⟩ := at_ok (ns := ns) (i := 0) (by omega)
    obtain ⟨y1, e1, _⟩ := at_ok (ns := ns) (i := 1) (by omega)
    refine ⟨_, rfl, l, _, rfl, .inl (SqL.of hl), _, rfl, lx, _, 0, .int y0, rfl, rfl, hS, e0, _, rfl, _, _, rfl, rfl, (by show (0 : Int) < (((nats r).length : Nat) : Int); rw [nats_len]; omega), ?_⟩
    rw [nats_len, hrl]
    have a0 := Int.emod_nonneg y0 (show ((p : Nat) : Int) ≠ 0 by omega)
    have a1 := Int.emod_lt_of_pos y0 (show (0 : Int) < ((p : Nat) : Int) by omega)
    obtain ⟨at', hat⟩ : ∃ k : Nat, y0 % ((p : Nat) : Int) = ((k : Nat) : Int) := ⟨(y0 % ((p : Nat) : Int)).toNat, by omega⟩
    dsimp only
    rw [hat]
    have ha : at' < p := by omega
    have mono : ∀ (v : V) (H1 H2 : Hp), Same H1 H2 → OddR K H1 v p → OddR K H2 v p := fun v H1 H2 s h => h.sm s
    have mW : ∀ {v0 : V} (v : V) (H1 H2 : Hp), Same H1 H2 → v = v0 → v = v0 := fun _ _ _ _ h => h
    have mL : ∀ (v : V) (H1 H2 : Hp), Same H1 H2 → (∃ g xs, v = .ref g ∧ H1 g = some (.lst xs)) → ∃ g xs, v = .ref g ∧ H2 g = some (.lst xs) := fun _ _ _ s ⟨g, xs, e, h⟩ => ⟨g, xs, e, s _ _ h⟩
    unfold gName tSeq tAsg
    dsimp only
    refine lst_use (n := 5) (R := fun v H' => OddR K H' v p) mono (.cons mono ?t1 (.cons mono (gv_less rfl rfl hl hrl ha hp2) (.cons mono (gv_more rfl hl hrl hp2 (gv_v rfl fun _ => ⟨p, rfl⟩)) (.cons mono (gv_more rfl hl hrl hp2 ?t4) (.cons mono (gv_mid rfl rfl hl hrl ha hp2 (R := fun v _ => v = .int ((p : Nat) : Int)) mW (gv_v rfl fun _ => rfl) ?t5) .nil))))) (by decide) fun v5 H5 l5 s5 n5 o5 h5 => ?_
    case t1 => exact fun H1 s1 k q => ⟨_, rfl, l, _, rfl, .inl ⟨SqL.of (s1 _ _ hl), fun g hg => q _ _ (same_new hg) (.inl ⟨_, .tup upd_same, kit_tup_lst K⟩)⟩⟩
    case t4 => exact fun H1 s1 k q => ⟨_, rfl, _, rfl, l, _, _, _, rfl, rfl, SqL.of (s1 _ _ hl), nat_at (by omega), q _ _ (Same.refl _) ⟨_, rfl⟩⟩
    case t5 => exact fun v H2 e => ⟨by subst e; exact ⟨_, .int _⟩, by subst e; exact ok_bad (show belowV p (.int ((p : Nat) : Int)) = false from decide_eq_false (by omega))⟩
    have hl5 := s5 _ _ hl
    refine cat_use (n := 6) (R := fun v H' => OddR K H' v p) mono rfl h5 (.cons mono (gv_mid rfl rfl hl5 hrl ha hp2 (R := fun v _ => v = .bl true) mW (gv_c fun _ => rfl) ?t6) (.cons mono (gv_mid rfl rfl hl5 hrl ha hp2 (R := fun v _ => v = .str "0") mW (gv_c fun _ => rfl) ?t7) (.cons mono (gv_c fun _ => .inl ⟨_, .non, kit_non_lst K⟩) (.cons mono (gv_v rfl fun _ => .inl ⟨_, .int _, kit_int_lst K⟩) (.cons mono ?t10 (.cons mono (gv_c fun _ => .inl ⟨_, .str _, kit_str_lst K⟩) .nil)))))) (by omega) fun v6 H6 l6 s6 n6 o6 h6 => ?_
    case t6 => exact fun v H2 e => ⟨by subst e; exact ⟨_, .bl _⟩, by subst e; exact ok_bad rfl⟩
    case t7 => exact fun v H2 e => ⟨by subst e; exact ⟨_, .odd (.str _) (kit_str_int K)⟩, by subst e; exact ok_bad rfl⟩
    case t10 => exact fun H1 s1 k q => fun g hg => q _ _ (same_new hg) (.inl ⟨_, .dK upd_same, kit_dct_lst K⟩)
    have s56 := s5.trans s6
    have hl6 := s56 _ _ hl
    refine cat_useN (n := 3) (R := fun v H' => OddR K H' v p) mono rfl h6 (.cons mono (gv_mid rfl rfl hl6 hrl ha hp2 (R := fun v _ => v = .non) mW (gv_c fun _ => rfl) ?t12) (.cons mono (gv_mid rfl rfl hl6 hrl ha hp2 (R := fun v H' => ∃ g xs, v = .ref g ∧ H' g = some (.lst xs)) mL ?t13 ?t13b) (.cons mono (gv_mid rfl rfl hl6 hrl ha hp2 (R := fun v _ => v = .int (-1)) mW ?t14 ?t14b) .nil))) (by rw [List.length_append]; omega) fun v7 H7 l7 s7 n7 o7 h7 => ?_
    case t12 => exact fun v H2 e => ⟨by subst e; exact ⟨_, .odd .non (kit_none_int K)⟩, by subst e; exact ok_bad rfl⟩
    case t13 => exact fun H1 s1 k q => ⟨by show 1 ≤ sizeLine; decide, fun g hg => q _ _ (same_new hg) ⟨g, _, rfl, upd_same⟩⟩
    case t13b => exact fun v H2 ⟨g, xs, e, hg⟩ => ⟨by subst e; exact ⟨_, .odd (.lst hg) (kit_lst_int K)⟩, by subst e; exact ok_bad rfl⟩
    case t14 => exact fun H1 s1 k q => ⟨_, rfl, q _ _ (Same.refl _) rfl⟩
    case t14b => exact fun v H2 e => ⟨by subst e; exact ⟨_, .int _⟩, by subst e; exact ok_bad rfl⟩
    have s57 := s56.trans s7
    have all7 : ∀ v ∈ v5 ++ v6 ++ v7, OddR K H7 v p := fun v hv => by
      rcases List.mem_append.mp hv with hv | hv
      · rcases List.mem_append.mp hv with hv | hv
        · exact (o5 v hv).sm (s6.trans s7)
        · exact (o6 v hv).sm s7
      · exact o7 v hv
    have n567 : (v5 ++ v6 ++ v7).length = 14 := by rw [List.length_append, List.length_append]; omega
    have w8 := same_new (o := .lst (v5 ++ v6 ++ v7)) h7
    have h8 : upd H7 l7 (.lst (v5 ++ v6 ++ v7)) l7 = some (.lst (v5 ++ v6 ++ v7)) := upd_same
    generalize upd H7 l7 (.lst (v5 ++ v6 ++ v7)) = H8 at w8 h8 ⊢
    have s58 := s57.trans w8
    have fin : ∀ (L : List V) (H9 : Hp), Same H H9 → H9 l7 = some (.lst L) → 0 < L.length → L.length ≤ 100 → (∀ v ∈ L, OddR K H9 v p) → ∃ j v, L[j]? = some v ∧ y1 % ((L.length : Nat) : Int) = ((j : Nat) : Int) ∧ OddR K H9 v p := fun L H9 s9 h9 n9 _ o9 => by
      have b0 := Int.emod_nonneg y1 (show ((L.length : Nat) : Int) ≠ 0 by omega)
      have b1 := Int.emod_lt_of_pos y1 (show (0 : Int) < ((L.length : Nat) : Int) by omega)
      obtain ⟨j, hj⟩ : ∃ k : Nat, y1 % ((L.length : Nat) : Int) = ((k : Nat) : Int) := ⟨(y1 % ((L.length : Nat) : Int)).toNat, by omega⟩
      exact ⟨j, _, List.getElem?_eq_getElem (show j < L.length by omega), hj, o9 _ (List.getElem_mem _)⟩
    refine ⟨_, rfl, _, _, rfl, rfl, _, rfl, ?_⟩
    by_cases c : ((p : Nat) : Int) > 1
    · refine ifT c ⟨_, rfl, .inl ⟨rfl, _, SqL.of h8⟩, ?_⟩
      obtain ⟨x, ex, hx⟩ := dup_at (r := r) hrl ha (show 1 < p by omega)
      refine mid_use (v := .int ((x : Nat) : Int)) rfl rfl (s58 _ _ hl) hrl ha hp2 (fun H1 s1 k q => ⟨_, rfl, _, rfl, _, _, rfl, rfl, l, _, _, _, rfl, rfl, SqL.of ((s58.trans s1) _ _ hl), ex, q⟩) fun g H9 s9 hg h9 => ?_
      have ng : g ≠ l7 := fun z => by
        rw [z, h8] at hg
        cases hg
      refine ⟨l7, _, _, rfl, rfl, s9 _ _ h8, ?_, ?_⟩
      · rw [n567]
        decide
      have sA : Same H7 (upd H9 l7 (.lst (v5 ++ v6 ++ v7 ++ [.ref g]))) := same_upd (w8.trans s9) h7
      obtain ⟨j, v, e1', e2', e3'⟩ := fin (v5 ++ v6 ++ v7 ++ [.ref g]) _ (s57.trans sA) upd_same (by rw [List.length_append]; omega) (by rw [List.length_append, List.length_singleton]; omega) (fun v hv => by
        rcases List.mem_append.mp hv with hv | hv
        · exact (all7 v hv).sm sA
        · rw [List.mem_singleton.mp hv]
          exact odd_mid (r := r) (a := at') (by rw [upd_ne ng]; exact h9) hrl ha hp2 ⟨_, .int _⟩ hx)
      refine ⟨_, rfl, _, rfl, lx, _, 1, .int y1, rfl, rfl, (s57.trans sA).seq hS, e1, _, rfl, l7, _, rfl, .inl (SqL.of upd_same), _, _, rfl, rfl, (by show (0 : Int) < (((v5 ++ v6 ++ v7 ++ [V.ref g]).length : Nat) : Int); rw [List.length_append]; omega), l7, _, ((j : Nat) : Int), v, rfl, congrArg V.int e2', SqL.of upd_same, atI_nat e1', q v _ (s57.trans sA) e3'⟩
    · refine ifF c ?_
      obtain ⟨j, v, e1', e2', e3'⟩ := fin (v5 ++ v6 ++ v7) _ s58 h8 (by omega) (by omega) (fun v hv => (all7 v hv).sm w8)
      refine ⟨_, rfl, _, rfl, lx, _, 1, .int y1, rfl, rfl, s58.seq hS, e1, _, rfl, l7, _, rfl, .inl (SqL.of h8), _, _, rfl, rfl, (by show (0 : Int) < (((v5 ++ v6 ++ v7).length : Nat) : Int); omega), l7, _, ((j : Nat) : Int), v, rfl, congrArg V.int e2', SqL.of h8, atI_nat e1', q v _ s58 e3'⟩
theorem cint_mk {K : PySem.W.Frag} {x : Str} {n : Int} {t : Tok} (h : PySem.W.nsIn K mainGlobals x = some (some (.int n t))) : ∃ t, PySem.W.nsIn K mainGlobals x = some (some (.int n t)) := ⟨t, h⟩
def dLay (p : Nat) (cs : List (List Nat)) : PyData := .tuple [.int ((p : Nat) : Int), .tuple (cs.map dTup)]
theorem shaped_lay (p : Nat) (cs : List (List Nat)) : PySem.SeqAt.shaped (dLay p cs) = true := by
  unfold PySem.SeqAt.shaped dLay
  rw [Bool.and_eq_true]
  have h1 := lay_tps cs
  have h2 := depth_tps cs
  refine ⟨by simp [PyData.canLay0, PyData.canLayAll0, h1], decide_eq_true ?_⟩
  simp only [PyData.depth, PyData.depthAll]
  omega
theorem eqv_lay (p : Nat) (cs : List (List Nat)) : PyData.eqv (dLay p cs) (dLay p cs) = true := by
  simp [dLay, PyData.eqv, PyData.eqvAll, eqv_tpsA cs]
theorem LayA.isD {K : PySem.W.Frag} {H : Hp} {t : Addr} {p : Nat} {cs : List (List Nat)} (h : LayA H t p cs) : IsD K H (dLay p cs) (.ref t) := by
  obtain ⟨u, vs, h1, h2, h3, h4⟩ := h
  simp only [dLay, IsD]
  refine ⟨t, _, rfl, SqT.of h1, ?_⟩
  simp only [IsDs, IsD]
  exact ⟨_, _, rfl, rfl, _, _, rfl, ⟨u, vs, rfl, SqT.of h2, tps_isD h3⟩, rfl⟩
theorem blk_isD {K : PySem.W.Frag} {H : Hp} {l : Addr} {xs : List Nat} (h : H l = some (.lst (nats xs))) : IsD K H (dBlk xs) (.ref l) := by
  simp only [dBlk, IsD]
  exact ⟨l, _, rfl, SqL.of h, ints_isD' xs⟩
theorem eqv_blk (L : List Nat) : PyData.eqv (dBlk L) (dBlk L) = true := by
  simp only [dBlk, PyData.eqv]
  exact eqv_ints' L
def rInst (K : PySem.W.Frag) : List V → Hp → VK → Prop := fun xs H Q => ∃ x c t b, xs = [x, c] ∧ TyOf K H x t ∧ (∀ u, RelV c u → PySem.W.kitOne K t u = some b) ∧ Q (.bl b) H
theorem kit_tup_tup' (K : PySem.W.Frag) : PySem.W.kitOne K (.type "tuple") (.type "tuple") = some true := by kernel_rfl
def spIs : Sp := fun vs H Q _ => ∃ (t l : Addr) (m : Nat) (bs : List (List Nat)) (ws : List V), vs = [.ref t, .int (m : Nat), .ref l] ∧ LayA H t m bs ∧ H l = some (.lst ws) ∧ TpAt H ws bs ∧ ∀ H' : Hp, Same H H' → Q (.bl true) H'
theorem scLIs : FnScope ["_law_found", "_law_points", "_law_blocks"] ["_law_found", "_law_points", "_law_blocks"] (defScope sLIs) := ⟨rfl, rfl, rfl, by decide +kernel, rfl, by decide +kernel, by decide +kernel⟩
theorem ok_is {f : Addr} {fd : FuncData} (F : Fun K "_law_is" "_law_is" sLIs f fd) (T : TxtB mg) : FnOk P w K mg base CX0 1 f fd ["_law_found", "_law_points", "_law_blocks"] spIs := by
  refine F.okQ scLIs (fun vs H Q E h => ?_) (fun cdv A outer s H vs Q E hr h => ?_)
  · obtain ⟨t, l, m, bs, ws, rfl, _⟩ := h
    rfl
  · obtain ⟨t, l, m, bs, ws, rfl, hL, hl, hT, q⟩ := h
    refine ⟨_, (qss_cons (qs_if (QW.pt (qw_or (qt_not (qt_val (qe_callB call_isinst (by rfl) T.isi PyProof.Rows.boot_isinstance (qac (qv 0) (qac (qe_bltn (v := .ty "tuple") rfl T.tup (by decide +kernel) rfl) qa_nil))))) (qw_or1 (qt_cmpR (op_neD hr.units) (qv 0) (qe_tup (qac (qv 1) (qac (qe_callTy call_tuple_of (by rfl) T.tup (by decide +kernel) (qac (qv 2) qa_nil)) qa_nil))) (nomark _))))) (qss_one (qs_ret qe_bl)) qss_nil)
      (qss_one (qs_ret (qe_and (qe_callB call_isinst (by rfl) T.isi PyProof.Rows.boot_isinstance (qac (qe_ix ix_tup (qv 0) qe_int (fun _ _ => rfl)) (qac (qe_bltn (v := .ty "tuple") rfl T.tup (by decide +kernel) rfl) qa_nil))) (qe_one (qe_callB (call_all rfl) (by rfl) T.all (by decide +kernel) (qac (qe_comp (g := gName 0) (N := ["_law_block"]) (src := [none]) rfl (comp_scope (defScope sLIs) ["_law_found", "_law_points", "_law_blocks"] rfl rfl (by decide +kernel) rfl) (qi_tup (qe_ix ix_tup (qv 0) qe_int (fun _ _ => rfl))) (fun _ _ _ _ _ => (qg_name (i := 0) (show (["_law_block"] : List Str).Nodup by decide +kernel) rfl (Or.inl rfl) (Or.inr rfl))) (fun _ _ _ _ _ => qif_nil) (fun _ _ _ _ _ => (qe_callB (show CallR _ _ (rInst K) from call_isinst) (by rfl) T.isi PyProof.Rows.boot_isinstance (qac (qv 0) (qac (qe_bltn (v := .ty "tuple") rfl T.tup (by decide +kernel) rfl) qa_nil))))) qa_nil))))))), ?_⟩
    obtain ⟨lb, us, ht, hlb, hU, hn⟩ := id hL
    refine ⟨_, rfl, _, _, _, _, rfl, .tup ht, rel_ty (kit_tup_tup' K), true, rfl, iteF ?_⟩
    refine ⟨_, rfl, _, rfl, _, rfl, l, _, rfl, .inl ⟨SqL.of hl, fun u hu => ?_⟩⟩
    have w1 := same_new (o := .tup ws) hu
    refine ⟨by show 2 ≤ sizeLine; decide, fun p hp => ?_⟩
    have w2 := same_new (o := .tup [.int (m : Nat), .ref u]) hp
    have s2 := w1.trans w2
    have hL2 : LayA (upd (upd H u (.tup ws)) p (.tup [.int (m : Nat), .ref u])) p m bs := ⟨u, ws, upd_same, w2 _ _ upd_same, hT.sm s2, hn⟩
    refine ⟨dLay m bs, dLay m bs, (hL.sm s2).isD, hL2.isD, shaped_lay m bs, shaped_lay m bs, _, rfl, ?_⟩
    show if (!PyData.eqv (dLay m bs) (dLay m bs)) = true then _ else _
    rw [eqv_lay]
    refine iteF ?_
    have ht2 := s2 _ _ ht
    have hlb2 := s2 _ _ hlb
    have hU2 := hU.sm s2
    clear hL2
    generalize upd (upd H u (.tup ws)) p (.tup [.int (m : Nat), .ref u]) = H2 at s2 ht2 hlb2 hU2 ⊢
    refine ⟨_, rfl, t, _, 1, .ref lb, rfl, rfl, SqT.of ht2, rfl, _, _, _, _, rfl, .tup hlb2, rel_ty (kit_tup_tup' K), true, rfl, iteT ?_⟩
    refine ⟨_, rfl, t, _, 1, .ref lb, rfl, rfl, SqT.of ht2, rfl, lb, rfl, ⟨_, SqT.of hlb2⟩, comp_tup (K := K) (xs := us) (fun i ys H3 => H3 = H2 ∧ ys = (List.replicate i true).map V.bl) ⟨rfl, rfl⟩ (fun i ys H3 _ ⟨e, _⟩ => SqT.of (e ▸ hlb2)) ?_ ?_⟩
    · rintro i v ys H3 N hi ⟨rfl, rfl⟩ nx
      obtain ⟨a, b, rfl, hb, hab⟩ := hU2.get hi
      have hil : i < us.length := (List.getElem?_eq_some_iff.mp hi).1
      refine ⟨Weak.set (by intro v z; cases z), ⟨_, rfl, _, _, _, _, rfl, .tup hab, rel_ty (kit_tup_tup' K), ?_, nx _ _ ⟨rfl, by rw [List.replicate_succ', List.map_append]; rfl⟩⟩⟩
      rw [List.length_map, List.length_replicate]
      have := hU2.len
      exact Nat.lt_of_lt_of_le (show i < 200 by omega) (by decide)
    · rintro ys H3 ⟨eH, rfl⟩
      cases eH
      have := hU2.len
      refine ⟨by rw [List.length_map, List.length_replicate]; exact Nat.le_trans (show _ ≤ 200 by omega) (by decide), fun r hr' => ?_⟩
      have w3 := same_new (o := .lst ((List.replicate us.length true).map V.bl)) hr'
      refine ⟨r, List.replicate us.length true, rfl, SqL.of upd_same, ?_⟩
      have e : (List.replicate us.length true).all id = true := by simp
      rw [e]
      exact q _ (s2.trans w3)
theorem so_id {b : List Nat} (h : b.Pairwise (· ≤ ·)) : so b = b := (so_eq (List.Perm.refl _) h).symm
theorem rn_id {p : Nat} {b : List Nat} (h : b.Pairwise (· ≤ ·)) (hb : ∀ x ∈ b, x < p) : rn (List.range p) b = b := by
  unfold rn
  have e : (b.map fun x => (List.range p).getD x 0) = b := by
    refine (List.map_congr_left fun x hx => ?_).trans (List.map_id b)
    simp [hb x hx]
  rw [e]
  exact so_id h
theorem srt_so : ∀ {cs bs : List (List Nat)}, Srt cs bs → cs = bs.map so
  | [], [], _ => rfl
  | c :: cs, b :: bs, ⟨⟨h1, h2⟩, t⟩ => by
    rw [List.map_cons, ← so_eq h1 h2, srt_so t]
  | [], _ :: _, h => h.elim
  | _ :: _, [], h => h.elim
theorem LayAt.layS {H : Hp} {t : Addr} {p : Nat} {bs : List (List Nat)} (h : LayAt H t p bs) (hn : bs.length ≤ 200) : LayA H t p (bs.map so) := by
  obtain ⟨u, vs, cs, h1, h2, h3, h4⟩ := h.it
  rw [← srt_so h4]
  exact ⟨u, vs, h1, h2, h3, by rw [h4.len]; exact hn⟩
theorem scLaw : FnScope ["_law_script", "_law_cell_here", "_law_points", "_law_blocks", "_law_xs", "_law_told", "_law_layout", "_law_row_here", "_law_handed", "_law_due"] ["_law_script"] (defScope sLaw) := ⟨rfl, rfl, rfl, by decide +kernel, rfl, by decide +kernel, by decide +kernel⟩
theorem ok_law {f : Addr} {fd : FuncData} (F : Fun K "law" "law" sLaw f fd) (T : TxtB mg) (pCell : Pm P w K mg base CX0 1 "_law_cell" ["_law_script", "_law_k"] (spCell2 K)) (pLDrawn : Pm P w K mg base CX0 2 "_law_drawn" ["_law_cell_here"] (spDrawn K)) (pLNumbers : Pm P w K mg base CX0 1 "_law_numbers" ["_law_cell_here", "_law_many"] spNums)
    (pLManyBlocks : Pm P w K mg base CX0 1 "_law_many_blocks" ["_law_points", "_law_blocks", "_law_x"] spMB) (pLayoutOf : Pm P w K mg base CX0 4 "layout_of" ["points", "blocks"] spLayout) (pLRow : Pm P w K mg base CX0 1 "_law_row" ["_law_points", "_law_xs"] (spLRow K)) (pLIs : Pm P w K mg base CX0 1 "_law_is" ["_law_found", "_law_points", "_law_blocks"] spIs) (pRenamed : Pm P w K mg base CX0 5 "renamed" ["M", "row"] spRn) (pSortedLayout : Pm P w K mg base CX0 1 "sorted_layout" ["M"] spSl) (pRef : Pm P w K mg base CX0 6 "_law_refused" ["_law_layout", "_law_row_here"] (spRefR K)) (pLOddRow : Pm P w K mg base CX0 1 "_law_odd_row" ["_law_row_here", "_law_xs"] (spOddRow K)) : FnOk P w K mg base CX0 12 f fd ["_law_script"] (spLaw K) := by
  refine F.okQ scLaw (fun vs H Q E h => ?_) (fun cdv A outer s H vs Q E hr h => ?_)
  · obtain ⟨a, ns, rfl, _⟩ := h
    rfl
  · obtain ⟨a, ns, rfl, hS, hlen, k⟩ := h
    have hr1 : Room 1 _ := hr.mono (by decide)
    have hr2 : Room 2 _ := hr.mono (by decide)
    have hr4 : Room 4 _ := hr.mono (by decide)
    have hr5 : Room 5 _ := hr.mono (by decide)
    have hr6 : Room 6 _ := hr.mono (by decide)
    refine ⟨_, (qss_cons (qs_for PassesOwn.never rfl (qi_list (qe_op op_cat (qe_lst (qac (qe_callP pCell hr1 rfl pass0 (qac (qv 0) (qac qe_int qa_nil))) qa_nil)) (qe_slice sl_list (qv 0) (qo_some qe_int) (qo_some qe_int)))) (qg_name (i := 1) scLaw.nd rfl (Or.inl rfl))
        (qss_cons (qs_asg (qe_callP pLDrawn hr2 rfl pass0 (qac (qv 1) qa_nil)) (qg_tup rfl (qgs_cons (qg_name (i := 2) scLaw.nd rfl (Or.inl rfl)) (qgs_cons (qg_name (i := 3) scLaw.nd rfl (Or.inl rfl)) qgs_nil))))
        (qss_cons (qs_set (i := 3) scLaw.nd rfl (Or.inl rfl) (qe_callP pLManyBlocks hr1 rfl pass0 (qac (qv 2) (qac (qv 3) (qac (qe_ix ix_list (qe_callP pLNumbers hr1 rfl pass0 (qac (qv 1) (qac qe_int qa_nil))) qe_int (fun _ _ => rfl)) qa_nil)))))
        (qss_cons (qs_set (i := 4) scLaw.nd rfl (Or.inl rfl) (qe_slice sl_list (qe_callP pLNumbers hr1 rfl pass0 (qac (qv 1) (qac qe_int qa_nil))) (qo_some qe_int) qo_none))
        (qss_cons (qs_setComp (i := 5) (g := gName 0) (N := ["_law_block"]) (src := [none]) rfl (comp_scope (defScope sLaw) ["_law_script", "_law_cell_here", "_law_points", "_law_blocks", "_law_xs", "_law_told", "_law_layout", "_law_row_here", "_law_handed", "_law_due"] rfl rfl (by decide +kernel) rfl) (qi_list (qv 3)) (fun _ _ _ _ _ => (qg_name (i := 0) (show (["_law_block"] : List Str).Nodup by decide +kernel) rfl (Or.inl rfl) (Or.inr rfl))) (fun _ _ _ _ _ => qif_nil) (fun _ _ _ _ _ => (qe_callTy (show CallR _ _ (rTupQ K) from call_tupQ) (by rfl) T.tup (by decide +kernel) (qac (qe_callB (show CallR _ _ (rSortI K) from call_sortI) (by rfl) T.sor (by decide +kernel) (qac (qv 0) qa_nil)) qa_nil))) (qg_name (i := 5) scLaw.nd rfl (Or.inl rfl)))
        (qss_cons (qs_set (i := 6) scLaw.nd rfl (Or.inl rfl) (qe_callP pLayoutOf hr4 rfl pass0 (qac (qv 2) (qac (qv 3) qa_nil))))
        (qss_cons (qs_set (i := 7) scLaw.nd rfl (Or.inr rfl) (qe_callP pLRow hr1 rfl pass0 (qac (qv 2) (qac (qv 4) qa_nil))))
        (qss_cons (qs_set (i := 8) scLaw.nd rfl (Or.inl rfl) (qe_callTy call_list_of (by rfl) T.lst (by decide +kernel) (qac (qv 7) qa_nil)))
        (qss_cons (qs_setComp (i := 9) (g := gName 0) (N := ["_law_block", "_law_row_here"]) (src := [none, some 7]) rfl (comp_scope (defScope sLaw) ["_law_script", "_law_cell_here", "_law_points", "_law_blocks", "_law_xs", "_law_told", "_law_layout", "_law_row_here", "_law_handed", "_law_due"] rfl rfl (by decide +kernel) rfl) (qi_list (qv 5)) (fun _ _ _ _ _ => (qg_name (i := 0) (show (["_law_block", "_law_row_here"] : List Str).Nodup by decide +kernel) rfl (Or.inl rfl) (Or.inr rfl))) (fun _ _ _ _ _ => qif_nil) (fun _ _ _ _ _ => (qe_callTy (show CallR _ _ (rTupQ K) from call_tupQ) (by rfl) T.tup (by decide +kernel) (qac (qe_callB (show CallR _ _ (rSortI K) from call_sortI) (by rfl) T.sor (by decide +kernel) (qac (qe_comp (g := gName 0) (N := ["_law_point", "_law_row_here"]) (src := [none, some 1]) rfl (comp_scopeX ["_law_block", "_law_row_here"] rfl rfl rfl) (show QI _ _ _ (iSeq K _) from qi_seq (qv 0)) (fun _ _ _ _ _ => (qg_name (i := 0) (show (["_law_point", "_law_row_here"] : List Str).Nodup by decide +kernel) rfl (Or.inl rfl) (Or.inr rfl))) (fun _ _ _ _ _ => qif_nil) (fun _ _ _ _ _ => (qe_ix (show IxR _ (rIxL K) from ix_list) (qv 1) (qv 0) (fun _ _ => rfl)))) qa_nil)) qa_nil))) (qg_name (i := 9) scLaw.nd rfl (Or.inl rfl)))
        (qss_cons (qs_if (QW.pt (qw_or (qt_not (qt_val (qe_callP pLIs hr1 rfl pass0 (qac (qe_callP pRenamed hr5 rfl pass0 (qac (qv 6) (qac (qv 8) qa_nil))) (qac (qv 2) (qac (qv 9) qa_nil)))))) (qw_or1 (qt_cmpR (op_neD hr.units) (qv 8) (qv 7) (nomark _))))) (qss_one (qs_ret qe_bl)) qss_nil)
        (qss_cons (qs_if (QW.pt (qw_or (qt_not (qt_val (qe_callP pLIs hr1 rfl pass0 (qac (qe_callP pSortedLayout hr1 rfl pass0 (qac (qv 6) qa_nil)) (qac (qv 2) (qac (qe_callB (call_sortB hr.units) (by rfl) T.sor (by decide +kernel) (qac (qv 5) qa_nil)) qa_nil)))))) (qw_or1 (qt_not (qt_val (qe_callP pLIs hr1 rfl pass0 (qac (qv 6) (qac (qv 2) (qac (qv 5) qa_nil))))))))) (qss_one (qs_ret qe_bl)) qss_nil)
        (qss_cons (qs_if (qt_not (qt_val (qe_callP pLIs hr1 rfl pass0 (qac (qe_callP pRenamed hr5 rfl pass0 (qac (qv 6) (qac (qe_callTy (call_list_rng rfl) (by rfl) T.lst (by decide +kernel) (qac (qe_callTy call_rng1 (by rfl) T.range PyProof.Rows.boot_range (qac (qv 2) qa_nil)) qa_nil)) qa_nil))) (qac (qv 2) (qac (qv 5) qa_nil)))))) (qss_one (qs_ret qe_bl)) qss_nil)
        (qss_one (qs_if (qt_not (qt_val (qe_callP pRef hr6 rfl pass0 (qac (qv 6) (qac (qe_callP pLOddRow hr1 rfl pass0 (qac (qv 7) (qac (qv 4) qa_nil))) qa_nil))))) (qss_one (qs_ret qe_bl)) qss_nil))))))))))))))
      (qss_one (qs_ret qe_bl))), ?_⟩
    refine cells_for2 rfl hS hlen (fun σ => ∃ (x1 x2 x3 x4 x5 x6 x7 x8 x9 : Option V), σ = [some (.ref a), x1, x2, x3, x4, x5, x6, x7, x8, x9]) ⟨_, _, _, _, _, _, _, _, _, rfl⟩ ?_ (fun σ' H' _ => k H')
    rintro Hq sq c σ H2 ⟨x1, x2, x3, x4, x5, x6, x7, x8, x9, rfl⟩ s2
    refine ⟨_, rfl, c, rfl, fun t l p ws bs H3 hl0 s3 ht hl hB hp1 hp2 hlb hbb => ?_⟩
    refine ⟨t, _, rfl, SqT.of ht, rfl, _, _, rfl, _, _, rfl, rfl, ?_⟩
    refine ⟨_, rfl, _, rfl, _, rfl, c, 6, rfl, by decide, fun ln ms H4 hln s4 hln4 hml hms => ?_⟩
    obtain ⟨y5, e5, m5⟩ := at_ok (ns := ms) (i := 5) (by omega)
    refine ⟨ln, _, 5, .int y5, rfl, rfl, SqL.of hln4, e5, p, l, ws, bs, y5, rfl, s4 _ _ hl, hB.same s4, by omega, hp2, (hms y5 m5).1, hbb, fun l5 ws5 bs5 H5 s5 hl5 hB5 hn5 hb5 => ?_⟩
    have s45 := s4.trans s5
    refine ⟨_, rfl, c, 120, rfl, by decide, fun ln6 m6 H6 hln6 s6 hln66 hml6 hms6 => ⟨_, rfl, ln6, _, rfl, SqL.of hln66, fun lx hlx => ?_⟩⟩
    have ec : cutV (m6.map V.int) (some 84) none = (m6.drop 84).map V.int := by
      rw [show cutV (m6.map V.int) (some 84) none = (m6.map V.int).drop 84 from cut_from (k := 84) (by rw [List.length_map]; omega), List.map_drop]
    rw [ec]
    have hxl : (m6.drop 84).length = 36 := by rw [List.length_drop]; omega
    have hxn : ∀ x ∈ m6.drop 84, 0 ≤ x ∧ x < 2000000000 := fun x hx => hms6 x (List.mem_of_mem_drop hx)
    generalize m6.drop 84 = ys at hxl hxn ⊢
    have w6 := same_new (o := .lst (ys.map V.int)) hlx
    have s7 := s6.trans w6
    have hlx7 : upd H6 lx (.lst (ys.map V.int)) lx = some (.lst (ys.map V.int)) := upd_same
    generalize upd H6 lx (.lst (ys.map V.int)) = H7 at s7 hlx7 ⊢
    have hl7 := s7 _ _ hl5
    have hB7 := hB5.same s7
    have hwl := hB7.len
    -- told
    refine ⟨_, rfl, l5, rfl, ⟨_, SqL.of hl7⟩, comp_list (K := K) (xs := ws5) (fun i zs H8 => Same H7 H8 ∧ TpAt H8 zs ((bs5.take i).map so)) ⟨Same.refl _, trivial⟩ (fun i zs H8 _ ⟨s8, _⟩ => SqL.of (s8 _ _ hl7)) ?_ ?_⟩
    · rintro i v zs H8 N8 hi ⟨s8, hT8⟩ nx
      obtain ⟨ab, bb, rfl, hbs, hab⟩ := (hB7.same s8).get hi
      have hbk := hb5 bb (List.mem_of_getElem? hbs)
      have hbl := hbk.len
      have hzl : zs.length < sizeLine := by
        have := hT8.len
        rw [List.length_map, List.length_take] at this
        exact Nat.lt_of_le_of_lt (show zs.length ≤ 200 by omega) (by decide)
      refine ⟨Weak.set (by intro v z; cases z), ⟨_, rfl, ab, bb.map fun p => ((p : Nat) : Int), rfl, SqL.of (by rw [← nats_ints]; exact hab), by rw [List.length_map]; omega, fun l3 ns' hl3 hp' hs' => ?_⟩⟩
      obtain ⟨b', eb, hp3, hs3⟩ := back_nats hp' hs'
      cases so_eq hp3 hs3
      rw [eb]
      have v2 := same_new (o := .lst (nats (so bb))) hl3
      refine ⟨l3, _, rfl, .inl ⟨SqL.of upd_same, fun t ht => ⟨hzl, nx _ _ ⟨s8.trans (v2.trans (same_new ht)), ?_⟩⟩⟩⟩
      rw [List.take_add_one, hbs, Option.toList_some, List.map_append]
      exact ((hT8.sm v2).sm (same_new ht)).snoc upd_same
    rintro zs H8 ⟨s8, hT8⟩
    rw [hwl, List.take_length] at hT8
    have hzl := hT8.len
    rw [List.length_map] at hzl
    refine ⟨Nat.le_trans (show zs.length ≤ 200 by omega) (by decide), fun lt hlt => ?_⟩
    have w8 := same_new (o := .lst zs) hlt
    have s9 := s8.trans w8
    have hlt9 : upd H8 lt (.lst zs) lt = some (.lst zs) := upd_same
    have hT9 := hT8.sm w8
    show tSeq _ _ _ _ (upd H8 lt (.lst zs))
    generalize upd H8 lt (.lst zs) = H9 at s9 hlt9 hT9 ⊢
    -- the layout
    refine ⟨_, rfl, _, rfl, l5, p, ws5, bs5, rfl, s9 _ _ hl7, hB7.same s9, hp1, hp2, hn5, hb5, fun tl Ha sa hLa => ?_⟩
    have hLa := hLa.layS hn5
    have hcs : ∀ b ∈ bs5.map so, Blk p b := fun b hb => by
      obtain ⟨b0, h0, rfl⟩ := List.mem_map.mp hb
      exact (hb5 b0 h0).perm (so_perm _)
    have hso : ∀ b ∈ bs5.map so, b.Pairwise (· ≤ ·) := fun b hb => by
      obtain ⟨b0, h0, rfl⟩ := List.mem_map.mp hb
      exact so_sorted _
    have hcl : (bs5.map so).length ≤ 200 := by rw [List.length_map]; exact hn5
    have hlta := sa _ _ hlt9
    have hTa := hT9.sm sa
    generalize bs5.map so = cs at hLa hcs hso hcl hTa hT9
    -- the row
    have s7a := s9.trans sa
    refine ⟨_, rfl, _, rfl, p, lx, ys, rfl, SqL.of (s7a _ _ hlx7), hp1, hp2, by omega, by omega, hxn, fun lr r Hb hlr sb hlrb hpm => ?_⟩
    have hrl : r.length = p := by rw [hpm.length_eq, List.length_range]
    refine ⟨_, rfl, lr, _, rfl, .inl (SqL.of hlrb), fun lh hlh => ?_⟩
    have wb := same_new (o := .lst (nats r)) hlh
    have sc := sb.trans wb
    have hlrc := wb _ _ hlrb
    have hlhc : upd Hb lh (.lst (nats r)) lh = some (.lst (nats r)) := upd_same
    generalize upd Hb lh (.lst (nats r)) = Hc at sc hlrc hlhc ⊢
    have hltc := sc _ _ hlta
    have hTc := hTa.sm sc
    have hLc := hLa.sm sc
    have hzl2 := hTc.len
    -- what is due
    refine ⟨_, rfl, lt, rfl, ⟨_, SqL.of hltc⟩, comp_list (K := K) (xs := zs) (fun i us H8 => Same Hc H8 ∧ TpAt H8 us ((cs.take i).map (rn r))) ⟨Same.refl _, trivial⟩ (fun i us H8 _ ⟨s8, _⟩ => SqL.of (s8 _ _ hltc)) ?_ ?_⟩
    · rintro i v us H8 N8 hi ⟨s8, hT8⟩ nx
      obtain ⟨ab, bb, rfl, hbs, hab⟩ := (hTc.sm s8).get hi
      have hbk := hcs bb (List.mem_of_getElem? hbs)
      have hbl := hbk.len
      have hul : us.length < sizeLine := by
        have := hT8.len
        rw [List.length_map, List.length_take] at this
        exact Nat.lt_of_le_of_lt (show us.length ≤ 200 by omega) (by decide)
      refine ⟨Weak.set (by intro v z; cases z), ?_⟩
      refine ⟨_, rfl, ab, rfl, .inr ⟨⟨_, SqT.of hab⟩, comp_tup (K := K) (xs := nats bb) (fun j us' Hy => Hy = H8 ∧ us' = nats ((bb.take j).map fun p => r.getD p 0)) ⟨rfl, rfl⟩ (fun j us' Hy _ ⟨e, _⟩ => SqT.of (e ▸ hab)) ?_ ?_⟩⟩
      · rintro j' x us' Hy N6 hj' ⟨rfl, rfl⟩ nx6
        obtain ⟨q', hq', rfl⟩ := nats_get hj'
        have hqm : q' < p := hbk.lt q' (List.mem_of_getElem? hq')
        refine ⟨Weak.set (by intro v z; cases z), ⟨_, rfl, _, rfl, lr, nats r, _, .int ((r.getD q' 0 : Nat) : Int), rfl, rfl, SqL.of (s8 _ _ hlrc), nat_at (by omega), ?_, nx6 _ _ ⟨rfl, ?_⟩⟩⟩
        · rw [nats_len, List.length_map, List.length_take]
          exact Nat.lt_of_le_of_lt (show _ ≤ 60 by omega) (by decide)
        · rw [List.take_add_one, hq', Option.toList_some, List.map_append, List.map_cons, List.map_nil, nats_snoc]
      · rintro us' Hy ⟨rfl, rfl⟩
        rw [show bb.take (nats bb).length = bb by rw [nats_len, List.take_length]]
        refine ⟨by rw [nats_len, List.length_map]; exact Nat.le_trans (show _ ≤ 60 by omega) (by decide), fun r2 hr2 => ?_⟩
        have v1 := same_new (o := .lst (nats (bb.map fun p => r.getD p 0))) hr2
        refine ⟨r2, (bb.map fun p => r.getD p 0).map fun p => ((p : Nat) : Int), rfl, SqL.of (by rw [← nats_ints]; exact upd_same), by rw [List.length_map, List.length_map]; omega, fun l3 ns' hl3 hp' hs' => ?_⟩
        obtain ⟨b', eb, hp3, hs3⟩ := back_nats hp' hs'
        cases so_eq hp3 hs3
        rw [eb]
        have v2 := same_new (o := .lst (nats (so (bb.map fun p => r.getD p 0)))) hl3
        refine ⟨l3, _, rfl, .inl ⟨SqL.of upd_same, fun t ht => ⟨hul, nx _ _ ⟨s8.trans (v1.trans (v2.trans (same_new ht))), ?_⟩⟩⟩⟩
        rw [List.take_add_one, hbs, Option.toList_some, List.map_append]
        exact (((hT8.sm v1).sm v2).sm (same_new ht)).snoc upd_same
    rintro us H8 ⟨sd, hT8⟩
    rw [hzl2, List.take_length] at hT8
    have hul := hT8.len
    rw [List.length_map] at hul
    refine ⟨Nat.le_trans (show us.length ≤ 200 by omega) (by decide), fun ld hld => ?_⟩
    have wd := same_new (o := .lst us) hld
    have se := sd.trans wd
    have hlde : upd H8 ld (.lst us) ld = some (.lst us) := upd_same
    have hTe := hT8.sm wd
    show tSeq _ _ _ _ (upd H8 ld (.lst us))
    generalize upd H8 ld (.lst us) = He at se hlde hTe ⊢
    clear hT8 sd
    -- renamed
    refine ⟨_, rfl, _, rfl, tl, lh, p, cs, r, rfl, hLc.sm se, se _ _ hlhc, hpm, hp2, hcs, fun tu Hf sf hLf => ?_⟩
    refine ⟨_, rfl, _, rfl, tu, ld, p, _, us, rfl, hLf, sf _ _ hlde, hTe.sm sf, fun Hg sg => ⟨true, rfl, iteF ?_⟩⟩
    have seg := se.trans (sf.trans sg)
    refine ⟨_, rfl, _, rfl, dBlk r, dBlk r, blk_isD (seg _ _ hlhc), blk_isD (seg _ _ hlrc), shaped_blk r, shaped_blk r, _, rfl, ?_⟩
    show if (!PyData.eqv (dBlk r) (dBlk r)) = true then _ else _
    rw [eqv_blk]
    refine iteF ?_
    -- sorted
    have hLg := hLc.sm seg
    have hltg := seg _ _ hltc
    have hTg := hTc.sm seg
    refine ⟨_, rfl, tl, p, cs, rfl, hLg, hcl, fun ts ds Hh sh hLh hds1 hds2 => ?_⟩
    refine ⟨_, rfl, _, rfl, lt, zs, cs, rfl, .inl (SqL.of (sh _ _ hltg)), hTg.sm sh, by omega, fun ls idx hls hix hsr => ?_⟩
    have wh := same_new (o := .lst (idx.map fun i => zs.getD i .non)) hls
    have hTi : TpAt (upd Hh ls (.lst (idx.map fun i => zs.getD i .non))) (idx.map fun i => zs.getD i .non) (idx.map fun i => cs.getD i []) := (tp_idx (hTg.sm sh) fun i hi => List.mem_range.mp (hix.mem_iff.mp hi)).sm wh
    have hil : idx.length = cs.length := by rw [hix.length_eq, List.length_range]
    have hes : ds = idx.map fun i => cs.getD i [] := by
      refine lex_uniq hds1 hds2 (idx_perm hix) (adj_pair (R := LexLe) (fun _ _ _ => LexLe.trans) _ fun i hi => ?_)
      rw [List.length_map] at hi
      have := hsr i (by omega)
      unfold LexLe
      have e1 : idx.getD (i + 1) 0 = idx[i + 1] := by simp [hi]
      have e2 : idx.getD i 0 = idx[i]'(by omega) := by simp [show i < idx.length by omega]
      rw [e1, e2] at this
      rw [List.getElem_map, List.getElem_map]
      exact this
    rw [← hes] at hTi
    refine ⟨ts, ls, p, ds, _, rfl, hLh.sm wh, upd_same, hTi, fun Hi si => ⟨true, rfl, iteF ?_⟩⟩
    have shi := sh.trans (wh.trans si)
    refine ⟨_, rfl, _, rfl, _, rfl, tl, lt, p, cs, zs, rfl, hLg.sm shi, shi _ _ hltg, hTg.sm shi, fun Hj sj => ⟨true, rfl, iteF ?_⟩⟩
    have shj := shi.trans sj
    -- by the row of all points
    refine ⟨_, rfl, _, rfl, ((p : Nat) : Int), rfl, fun v2 hv2 => ⟨v2, p, rfl, upd_same, Nat.le_trans hp2 (by decide), fun v3 hv3 => ?_⟩⟩
    have u2 := same_new (o := .rng 0 ((p : Nat) : Int)) hv2
    have u3 := same_new (o := .lst ((List.range p).map fun p => V.int ((p : Nat) : Int))) hv3
    have sk := shj.trans (u2.trans u3)
    refine ⟨tl, v3, p, cs, List.range p, rfl, hLg.sm sk, upd_same, List.Perm.refl _, hp2, hcs, fun tv Hl sl' hLl => ?_⟩
    have eid : cs.map (rn (List.range p)) = cs := (List.map_congr_left fun b hb => rn_id (hso b hb) (hcs b hb).lt).trans (List.map_id cs)
    rw [eid] at hLl
    have skl := sk.trans sl'
    refine ⟨_, rfl, _, rfl, tv, lt, p, cs, zs, rfl, hLl, skl _ _ hltg, hTg.sm skl, fun Hm sm' => ⟨true, rfl, iteF ?_⟩⟩
    have sgm := skl.trans sm'
    have scm := seg.trans sgm
    -- refused
    refine ⟨_, rfl, _, rfl, _, rfl, lr, lx, p, r, ys, rfl, scm _ _ hlrc, hpm, hp1, hp2, SqL.of ((s7a.trans (sc.trans scm)) _ _ hlx7), by omega, fun v Hn sn hO => ?_⟩
    refine ⟨tl, v, p, cs, rfl, hLc.sm (scm.trans sn), hO, fun Ho so' => ⟨true, rfl, iteF ?_⟩⟩
    exact ⟨s2.trans (s3.trans (s45.trans (s7.trans (s7a.trans (sc.trans (scm.trans (sn.trans so'))))))), _, _, _, _, _, _, _, _, _, rfl⟩
end
end E1
namespace E1
open PySem L2
theorem all_mk {l : PySem.W.OpenLaw} {w : World} {K : PySem.W.Frag} {h : Heap} {mg : Str → Option Value} {fa : Addr} (X : K.In h) (G : h.Ns mainGlobals mg) (hfa : mg "law" = some (.ref fa))
    (N : PySem.W.nsIn K mainGlobals "isinstance" = some none ∧ PySem.W.nsIn K mainGlobals "int" = some none ∧ PySem.W.nsIn K mainGlobals "bool" = some none ∧ PySem.W.nsIn K mainGlobals "abs" = some none ∧ PySem.W.nsIn K mainGlobals "len" = some none ∧ PySem.W.nsIn K mainGlobals "range" = some none ∧ PySem.W.nsIn K mainGlobals "tuple" = some none ∧ PySem.W.nsIn K mainGlobals "list" = some none ∧ PySem.W.nsIn K mainGlobals "sorted" = some none ∧ PySem.W.nsIn K mainGlobals "all" = some none ∧ PySem.W.nsIn K mainGlobals "set" = some none ∧ PySem.W.nsIn K mainGlobals "zip" = some none ∧ PySem.W.nsIn K mainGlobals "enumerate" = some none ∧ PySem.W.nsIn K mainGlobals "any" = some none ∧ PySem.W.nsIn K mainGlobals "max" = some none ∧ PySem.W.nsIn K mainGlobals "min" = some none ∧ PySem.W.nsIn K mainGlobals "str" = some none ∧ PySem.W.nsIn K mainGlobals "sum" = some none)
    (CMostPoints : ∃ t, PySem.W.nsIn K mainGlobals "MOST_POINTS" = some (some (.int 60 t)))
    (CMostBlocks : ∃ t, PySem.W.nsIn K mainGlobals "MOST_BLOCKS" = some (some (.int 200 t)))
    (R : ∃ M C o1 o2 o3 o4 o5 o6 o7 o8 o9 o10 o11 o12 o13 : Addr, RefsD K M C o1 o2 o3 o4 o5 o6 o7 o8 o9 o10 o11 o12 o13)
    (AWhole : At K "is_whole" sWhole) (AIsBelow : At K "is_below" sIsBelow) (ALayoutOf : At K "layout_of" sLayoutOf) (AIsPointsNumber : At K "is_points_number" sIsPointsNumber) (ASortedLayout : At K "sorted_layout" sSortedLayout) (ARenamed : At K "renamed" sRenamed) (ABlockRenamed : At K "block_renamed" sBlockRenamed) (AInOrder : At K "in_order" sInOrder) (AIsRow : At K "is_row" sIsRow) (AAreUnlikePoints : At K "are_unlike_points" sAreUnlikePoints) (ACell : At K "_law_cell" sCell) (ALNumbers : At K "_law_numbers" sLNumbers) (ALBits : At K "_law_bits" sLBits) (ALTurned : At K "_law_turned" sLTurned) (ALManyBlocks : At K "_law_many_blocks" sLManyBlocks) (ALDrawn : At K "_law_drawn" sLDrawn) (ALRow : At K "_law_row" sLRow) (ALOddRow : At K "_law_odd_row" sLOddRow) (ARef : At K "_law_refused" sRef) (ALIs : At K "_law_is" sLIs) (ALaw : At K "law" sLaw) :
    ∃ fd : FuncData, (∀ (s : Shared) (v : Value), BindsTo s fd ⟨[v], []⟩ [("_law_script", v)]) ∧ ∀ base : Heap, K.In base → base.Ns mainGlobals mg → FnOk l.prog w K mg base CX0 12 fa fd ["_law_script"] (spLaw K) := by
  obtain ⟨n0, n1, n2, n3, n4, n5, n6, n7, n8, n9, n10, n11, n12, n13, n14, n15, n16, n17⟩ := N
  have T : TxtB mg := ⟨PySem.W.mg_none_of X G n0, PySem.W.mg_none_of X G n1, PySem.W.mg_none_of X G n2, PySem.W.mg_none_of X G n3, PySem.W.mg_none_of X G n4, PySem.W.mg_none_of X G n5, PySem.W.mg_none_of X G n6, PySem.W.mg_none_of X G n7, PySem.W.mg_none_of X G n8, PySem.W.mg_none_of X G n9, PySem.W.mg_none_of X G n10, PySem.W.mg_none_of X G n11, PySem.W.mg_none_of X G n12, PySem.W.mg_none_of X G n13, PySem.W.mg_none_of X G n14, PySem.W.mg_none_of X G n15, PySem.W.mg_none_of X G n16, PySem.W.mg_none_of X G n17⟩
  obtain ⟨M, C, o1, o2, o3, o4, o5, o6, o7, o8, o9, o10, o11, o12, o13, R⟩ := R
  have D := marks_of X G R
  obtain ⟨tMostPoints, cMostPoints⟩ := CMostPoints
  have mMostPoints := PySem.W.mg_of X G cMostPoints
  obtain ⟨tMostBlocks, cMostBlocks⟩ := CMostBlocks
  have mMostBlocks := PySem.W.mg_of X G cMostBlocks
  obtain ⟨fWhole, fdWhole, aWhole, FWhole⟩ := AWhole
  obtain ⟨fIsBelow, fdIsBelow, aIsBelow, FIsBelow⟩ := AIsBelow
  obtain ⟨fLayoutOf, fdLayoutOf, aLayoutOf, FLayoutOf⟩ := ALayoutOf
  obtain ⟨fIsPointsNumber, fdIsPointsNumber, aIsPointsNumber, FIsPointsNumber⟩ := AIsPointsNumber
  obtain ⟨fSortedLayout, fdSortedLayout, aSortedLayout, FSortedLayout⟩ := ASortedLayout
  obtain ⟨fRenamed, fdRenamed, aRenamed, FRenamed⟩ := ARenamed
  obtain ⟨fBlockRenamed, fdBlockRenamed, aBlockRenamed, FBlockRenamed⟩ := ABlockRenamed
  obtain ⟨fInOrder, fdInOrder, aInOrder, FInOrder⟩ := AInOrder
  obtain ⟨fIsRow, fdIsRow, aIsRow, FIsRow⟩ := AIsRow
  obtain ⟨fAreUnlikePoints, fdAreUnlikePoints, aAreUnlikePoints, FAreUnlikePoints⟩ := AAreUnlikePoints
  obtain ⟨fCell, fdCell, aCell, FCell⟩ := ACell
  obtain ⟨fLNumbers, fdLNumbers, aLNumbers, FLNumbers⟩ := ALNumbers
  obtain ⟨fLBits, fdLBits, aLBits, FLBits⟩ := ALBits
  obtain ⟨fLTurned, fdLTurned, aLTurned, FLTurned⟩ := ALTurned
  obtain ⟨fLManyBlocks, fdLManyBlocks, aLManyBlocks, FLManyBlocks⟩ := ALManyBlocks
  obtain ⟨fLDrawn, fdLDrawn, aLDrawn, FLDrawn⟩ := ALDrawn
  obtain ⟨fLRow, fdLRow, aLRow, FLRow⟩ := ALRow
  obtain ⟨fLOddRow, fdLOddRow, aLOddRow, FLOddRow⟩ := ALOddRow
  obtain ⟨fRef, fdRef, aRef, FRef⟩ := ARef
  obtain ⟨fLIs, fdLIs, aLIs, FLIs⟩ := ALIs
  obtain ⟨fLaw, fdLaw, aLaw, FLaw⟩ := ALaw
  have e := hfa.symm.trans (PySem.W.mg_of X G aLaw)
  cases e
  have bWhole := FWhole.binds (ps := ["thing"]) fun _ _ _ _ _ _ us hl => match us, hl with | [_], _ => rfl
  have mWhole := PySem.W.mg_of X G aWhole
  have bIsBelow := FIsBelow.binds (ps := ["thing", "many"]) fun _ _ _ _ _ _ us hl => match us, hl with | [_, _], _ => rfl
  have mIsBelow := PySem.W.mg_of X G aIsBelow
  have bLayoutOf := FLayoutOf.binds (ps := ["points", "blocks"]) fun _ _ _ _ _ _ us hl => match us, hl with | [_, _], _ => rfl
  have mLayoutOf := PySem.W.mg_of X G aLayoutOf
  have bIsPointsNumber := FIsPointsNumber.binds (ps := ["thing"]) fun _ _ _ _ _ _ us hl => match us, hl with | [_], _ => rfl
  have mIsPointsNumber := PySem.W.mg_of X G aIsPointsNumber
  have bSortedLayout := FSortedLayout.binds (ps := ["M"]) fun _ _ _ _ _ _ us hl => match us, hl with | [_], _ => rfl
  have mSortedLayout := PySem.W.mg_of X G aSortedLayout
  have bRenamed := FRenamed.binds (ps := ["M", "row"]) fun _ _ _ _ _ _ us hl => match us, hl with | [_, _], _ => rfl
  have mRenamed := PySem.W.mg_of X G aRenamed
  have bBlockRenamed := FBlockRenamed.binds (ps := ["block", "row"]) fun _ _ _ _ _ _ us hl => match us, hl with | [_, _], _ => rfl
  have mBlockRenamed := PySem.W.mg_of X G aBlockRenamed
  have bInOrder := FInOrder.binds (ps := ["block"]) fun _ _ _ _ _ _ us hl => match us, hl with | [_], _ => rfl
  have mInOrder := PySem.W.mg_of X G aInOrder
  have bIsRow := FIsRow.binds (ps := ["thing", "points"]) fun _ _ _ _ _ _ us hl => match us, hl with | [_, _], _ => rfl
  have mIsRow := PySem.W.mg_of X G aIsRow
  have bAreUnlikePoints := FAreUnlikePoints.binds (ps := ["things", "points"]) fun _ _ _ _ _ _ us hl => match us, hl with | [_, _], _ => rfl
  have mAreUnlikePoints := PySem.W.mg_of X G aAreUnlikePoints
  have bCell := FCell.binds (ps := ["_law_script", "_law_k"]) fun _ _ _ _ _ _ us hl => match us, hl with | [_, _], _ => rfl
  have mCell := PySem.W.mg_of X G aCell
  have bLNumbers := FLNumbers.binds (ps := ["_law_cell_here", "_law_many"]) fun _ _ _ _ _ _ us hl => match us, hl with | [_, _], _ => rfl
  have mLNumbers := PySem.W.mg_of X G aLNumbers
  have bLBits := FLBits.binds (ps := ["_law_xs", "_law_points"]) fun _ _ _ _ _ _ us hl => match us, hl with | [_, _], _ => rfl
  have mLBits := PySem.W.mg_of X G aLBits
  have bLTurned := FLTurned.binds (ps := ["_law_some", "_law_x"]) fun _ _ _ _ _ _ us hl => match us, hl with | [_, _], _ => rfl
  have mLTurned := PySem.W.mg_of X G aLTurned
  have bLManyBlocks := FLManyBlocks.binds (ps := ["_law_points", "_law_blocks", "_law_x"]) fun _ _ _ _ _ _ us hl => match us, hl with | [_, _, _], _ => rfl
  have mLManyBlocks := PySem.W.mg_of X G aLManyBlocks
  have bLDrawn := FLDrawn.binds (ps := ["_law_cell_here"]) fun _ _ _ _ _ _ us hl => match us, hl with | [_], _ => rfl
  have mLDrawn := PySem.W.mg_of X G aLDrawn
  have bLRow := FLRow.binds (ps := ["_law_points", "_law_xs"]) fun _ _ _ _ _ _ us hl => match us, hl with | [_, _], _ => rfl
  have mLRow := PySem.W.mg_of X G aLRow
  have bLOddRow := FLOddRow.binds (ps := ["_law_row_here", "_law_xs"]) fun _ _ _ _ _ _ us hl => match us, hl with | [_, _], _ => rfl
  have mLOddRow := PySem.W.mg_of X G aLOddRow
  have bRef := FRef.binds (ps := ["_law_layout", "_law_row_here"]) fun _ _ _ _ _ _ us hl => match us, hl with | [_, _], _ => rfl
  have mRef := PySem.W.mg_of X G aRef
  have bLIs := FLIs.binds (ps := ["_law_found", "_law_points", "_law_blocks"]) fun _ _ _ _ _ _ us hl => match us, hl with | [_, _, _], _ => rfl
  have mLIs := PySem.W.mg_of X G aLIs
  refine ⟨fdLaw, ?_, fun base _ _ => ?_⟩
  · obtain ⟨oc, od, kV, doc, pm, an, cdv, ct, osl, rfl, lk, hcd⟩ := FLaw.ex
    exact fun s v => .of_eq rfl
  · have pN : Pm l.prog w K mg base CX0 1 "_law_numbers" ["_law_cell_here", "_law_many"] spNums := ⟨fLNumbers, fdLNumbers, mLNumbers, FLNumbers.kp, bLNumbers, ok_numbers FLNumbers T⟩
    have pC : Pm l.prog w K mg base CX0 1 "_law_cell" ["_law_script", "_law_k"] (spCell2 K) := ⟨fCell, fdCell, mCell, FCell.kp, bCell, ok_cell2 FCell T⟩
    have pB : Pm l.prog w K mg base CX0 1 "_law_bits" ["_law_xs", "_law_points"] (spBits K) := ⟨fLBits, fdLBits, mLBits, FLBits.kp, bLBits, ok_bits FLBits T⟩
    have pTu : Pm l.prog w K mg base CX0 1 "_law_turned" ["_law_some", "_law_x"] spTurned := ⟨fLTurned, fdLTurned, mLTurned, FLTurned.kp, bLTurned, ok_turned FLTurned T⟩
    have pDr : Pm l.prog w K mg base CX0 2 "_law_drawn" ["_law_cell_here"] (spDrawn K) := ⟨fLDrawn, fdLDrawn, mLDrawn, FLDrawn.kp, bLDrawn, ok_drawn FLDrawn T pN pB pTu⟩
    have pMB : Pm l.prog w K mg base CX0 1 "_law_many_blocks" ["_law_points", "_law_blocks", "_law_x"] spMB := ⟨fLManyBlocks, fdLManyBlocks, mLManyBlocks, FLManyBlocks.kp, bLManyBlocks, ok_mb FLManyBlocks T⟩
    have pW : Pm l.prog w K mg base CX0 1 "is_whole" ["thing"] (spWhole K) := ⟨fWhole, fdWhole, mWhole, FWhole.kp, bWhole, ok_whole FWhole T⟩
    have pBl : Pm l.prog w K mg base CX0 2 "is_below" ["thing", "many"] (spBelowX K) := ⟨fIsBelow, fdIsBelow, mIsBelow, FIsBelow.kp, bIsBelow, ok_belowX FIsBelow pW⟩
    have gPN := ok_pnX FIsPointsNumber mMostPoints pW (P := l.prog) (w := w) (base := base)
    have pPN : Pm l.prog w K mg base CX0 2 "is_points_number" ["thing"] spPN := ⟨fIsPointsNumber, fdIsPointsNumber, mIsPointsNumber, FIsPointsNumber.kp, bIsPointsNumber, gPN.imp fun vs H Q E h => by
      obtain ⟨x, rfl, h1, h2, q⟩ := h
      refine ⟨_, rfl, ⟨_, .int x⟩, ?_⟩
      rw [show pnB (.int x) = true from decide_eq_true ⟨h1, h2⟩]
      exact q⟩
    have gU := ok_unlikeM FAreUnlikePoints T pBl (P := l.prog) (w := w) (base := base)
    have pUM : Pm l.prog w K mg base CX0 3 "are_unlike_points" ["things", "points"] (spUnlikeM K) := ⟨fAreUnlikePoints, fdAreUnlikePoints, mAreUnlikePoints, FAreUnlikePoints.kp, bAreUnlikePoints, gU⟩
    have pU : Pm l.prog w K mg base CX0 3 "are_unlike_points" ["things", "points"] spUnlike := ⟨fAreUnlikePoints, fdAreUnlikePoints, mAreUnlikePoints, FAreUnlikePoints.kp, bAreUnlikePoints, gU.imp fun vs H Q E h => by
      obtain ⟨a, b, p, rfl, ha, hb, hp, q⟩ := h
      have hbl := hb.len
      refine ⟨a, nats b, p, rfl, ha, nats_wh, by rw [nats_len]; omega, fun H' s' => ?_⟩
      rw [okB_iff.mpr ⟨b, rfl, hb⟩]
      exact q H' s'⟩
    have pO : Pm l.prog w K mg base CX0 1 "in_order" ["block"] spOrder := ⟨fInOrder, fdInOrder, mInOrder, FInOrder.kp, bInOrder, ok_order FInOrder T⟩
    have pL : Pm l.prog w K mg base CX0 4 "layout_of" ["points", "blocks"] spLayout := ⟨fLayoutOf, fdLayoutOf, mLayoutOf, FLayoutOf.kp, bLayoutOf, ok_layout FLayoutOf T mMostBlocks pPN pU pO⟩
    have pIR : Pm l.prog w K mg base CX0 4 "is_row" ["thing", "points"] spIsRow := ⟨fIsRow, fdIsRow, mIsRow, FIsRow.kp, bIsRow, ok_isrow FIsRow T pU⟩
    have pIRX : Pm l.prog w K mg base CX0 4 "is_row" ["thing", "points"] (spIsRowX K) := ⟨fIsRow, fdIsRow, mIsRow, FIsRow.kp, bIsRow, ok_isrowX FIsRow T pUM⟩
    have pBR : Pm l.prog w K mg base CX0 2 "block_renamed" ["block", "row"] spBR := ⟨fBlockRenamed, fdBlockRenamed, mBlockRenamed, FBlockRenamed.kp, bBlockRenamed, ok_brn FBlockRenamed pO⟩
    have pRn : Pm l.prog w K mg base CX0 5 "renamed" ["M", "row"] spRn := ⟨fRenamed, fdRenamed, mRenamed, FRenamed.kp, bRenamed, ok_rn FRenamed T pIR pBR⟩
    have pRX : Pm l.prog w K mg base (CX1 l.prog w) 5 "renamed" ["M", "row"] (spRnX K C) := ⟨fRenamed, fdRenamed, mRenamed, FRenamed.kp, bRenamed, ok_rnX FRenamed D.R.eC D.mC pIRX⟩
    have pSl : Pm l.prog w K mg base CX0 1 "sorted_layout" ["M"] spSl := ⟨fSortedLayout, fdSortedLayout, mSortedLayout, FSortedLayout.kp, bSortedLayout, ok_sl FSortedLayout T⟩
    have pRo : Pm l.prog w K mg base CX0 1 "_law_row" ["_law_points", "_law_xs"] (spLRow K) := ⟨fLRow, fdLRow, mLRow, FLRow.kp, bLRow, ok_lrow FLRow T⟩
    have pOd : Pm l.prog w K mg base CX0 1 "_law_odd_row" ["_law_row_here", "_law_xs"] (spOddRow K) := ⟨fLOddRow, fdLOddRow, mLOddRow, FLOddRow.kp, bLOddRow, ok_oddrow FLOddRow T⟩
    have pRe : Pm l.prog w K mg base CX0 6 "_law_refused" ["_law_layout", "_law_row_here"] (spRefR K) := ⟨fRef, fdRef, mRef, FRef.kp, bRef, ok_refR FRef T D pRX⟩
    have pIs : Pm l.prog w K mg base CX0 1 "_law_is" ["_law_found", "_law_points", "_law_blocks"] spIs := ⟨fLIs, fdLIs, mLIs, FLIs.kp, bLIs, ok_is FLIs T⟩
    exact ok_law FLaw T pC pDr pN pMB pL pRo pIs pRn pSl pRe pOd
end E1
def PySem.W.Fast.tw10481371788579135448 : Nat := 0
def PySem.W.Fast.tw10636221562595951515 : Nat := 0
def PySem.W.Fast.tw1067880082737406943 : Nat := 0
def PySem.W.Fast.tw10746581533339399600 : Nat := 0
def PySem.W.Fast.tw11558271858017307359 : Nat := 0
def PySem.W.Fast.tw13321661465978581862 : Nat := 0
def PySem.W.Fast.tw13484197876800687392 : Nat := 0
def PySem.W.Fast.tw13918874423327803923 : Nat := 0
def PySem.W.Fast.tw14603170898283311105 : Nat := 0
def PySem.W.Fast.tw1487609940095109154 : Nat := 0
def PySem.W.Fast.tw14931139826217983627 : Nat := 0
def PySem.W.Fast.tw15410435046419848118 : Nat := 0
def PySem.W.Fast.tw15708534601337609787 : Nat := 0
def PySem.W.Fast.tw15837756168197377157 : Nat := 0
def PySem.W.Fast.tw17254574768458283379 : Nat := 0
def PySem.W.Fast.tw17844900832382979801 : Nat := 0
def PySem.W.Fast.tw18131893201239235399 : Nat := 0
def PySem.W.Fast.tw18198506331902764522 : Nat := 0
def PySem.W.Fast.tw1960809181642800330 : Nat := 0
def PySem.W.Fast.tw2030105937560037748 : Nat := 0
def PySem.W.Fast.tw2324714010718743678 : Nat := 0
def PySem.W.Fast.tw2422656106964523535 : Nat := 0
def PySem.W.Fast.tw296744399031362810 : Nat := 0
def PySem.W.Fast.tw3713293908213755939 : Nat := 0
def PySem.W.Fast.tw4296626840328389550 : Nat := 0
def PySem.W.Fast.tw4428656690010433480 : Nat := 0
def PySem.W.Fast.tw4785336776703239938 : Nat := 0
def PySem.W.Fast.tw4853352367933610256 : Nat := 0
def PySem.W.Fast.tw5260561477382385808 : Nat := 0
def PySem.W.Fast.tw5307091857096468478 : Nat := 0
def PySem.W.Fast.tw5415076245765335481 : Nat := 0
def PySem.W.Fast.tw5446442937868222760 : Nat := 0
def PySem.W.Fast.tw550355500112380919 : Nat := 0
def PySem.W.Fast.tw5851922740692625519 : Nat := 0
def PySem.W.Fast.tw6350595474406792090 : Nat := 0
def PySem.W.Fast.tw7244025495029488637 : Nat := 0
def PySem.W.Fast.tw7298940238391219987 : Nat := 0
def PySem.W.Fast.tw7678390532513296206 : Nat := 0
def PySem.W.Fast.tw7875649857078046070 : Nat := 0
def PySem.W.Fast.tw8841568806698606982 : Nat := 0
def PySem.W.Fast.tw899519701803060443 : Nat := 0
def PySem.W.Fast.tw9133056620359501894 : Nat := 0
open PySem PySem.W PyProof.Rows
set_option maxRecDepth 100000 in
set_option maxHeartbeats 0 in
theorem PySem.Challenge.cw_evenmeet_k11_layouts_renamed_holds : PySem.Challenge.rw_evenmeet_k11_layouts_renamed.Holds := by
  w_on; o_law; k_head; (case hw => w_witness2)
  k_fill
  refine E1.walk (l := PySem.Challenge.rw_evenmeet_k11_layouts_renamed) (k := 12) ⟨rfl, by decide, by decide, rfl⟩ rfl rfl (fun w h Y => PySem.W.kIn_of Y) ?F
  case F =>
    intro w mg fa h KX G hmg
    have N : PySem.W.nsIn (L2.KOf KX) mainGlobals "isinstance" = some none ∧ PySem.W.nsIn (L2.KOf KX) mainGlobals "int" = some none ∧ PySem.W.nsIn (L2.KOf KX) mainGlobals "bool" = some none ∧ PySem.W.nsIn (L2.KOf KX) mainGlobals "abs" = some none ∧ PySem.W.nsIn (L2.KOf KX) mainGlobals "len" = some none ∧ PySem.W.nsIn (L2.KOf KX) mainGlobals "range" = some none ∧ PySem.W.nsIn (L2.KOf KX) mainGlobals "tuple" = some none ∧ PySem.W.nsIn (L2.KOf KX) mainGlobals "list" = some none ∧ PySem.W.nsIn (L2.KOf KX) mainGlobals "sorted" = some none ∧ PySem.W.nsIn (L2.KOf KX) mainGlobals "all" = some none ∧ PySem.W.nsIn (L2.KOf KX) mainGlobals "set" = some none ∧ PySem.W.nsIn (L2.KOf KX) mainGlobals "zip" = some none ∧ PySem.W.nsIn (L2.KOf KX) mainGlobals "enumerate" = some none ∧ PySem.W.nsIn (L2.KOf KX) mainGlobals "any" = some none ∧ PySem.W.nsIn (L2.KOf KX) mainGlobals "max" = some none ∧ PySem.W.nsIn (L2.KOf KX) mainGlobals "min" = some none ∧ PySem.W.nsIn (L2.KOf KX) mainGlobals "str" = some none ∧ PySem.W.nsIn (L2.KOf KX) mainGlobals "sum" = some none := by
      dsimp only [L2.KOf]
      refine' ⟨?z0, ?z1, ?z2, ?z3, ?z4, ?z5, ?z6, ?z7, ?z8, ?z9, ?z10, ?z11, ?z12, ?z13, ?z14, ?z15, ?z16, ?z17⟩
      (case z0 => k_is)
      (case z1 => k_is)
      (case z2 => k_is)
      (case z3 => k_is)
      (case z4 => k_is)
      (case z5 => k_is)
      (case z6 => k_is)
      (case z7 => k_is)
      (case z8 => k_is)
      (case z9 => k_is)
      (case z10 => k_is)
      (case z11 => k_is)
      (case z12 => k_is)
      (case z13 => k_is)
      (case z14 => k_is)
      (case z15 => k_is)
      (case z16 => k_is)
      (case z17 => k_is)
    have CMostPoints : ∃ t, PySem.W.nsIn (L2.KOf KX) mainGlobals "MOST_POINTS" = some (some (.int 60 t)) := by
      dsimp only [L2.KOf]
      refine' E1.cint_mk ?a
      (case a => k_is)
    have CMostBlocks : ∃ t, PySem.W.nsIn (L2.KOf KX) mainGlobals "MOST_BLOCKS" = some (some (.int 200 t)) := by
      dsimp only [L2.KOf]
      refine' E1.cint_mk ?a
      (case a => k_is)
    have AWhole : E1.At (L2.KOf KX) "is_whole" E1.sWhole := by
      dsimp only [L2.KOf]
      refine' E1.fn_mk ?a ?l ?c ?k
      (case a => k_is); (case l => k_is); (case c => k_is); (case k => k_is)
    have AIsBelow : E1.At (L2.KOf KX) "is_below" E1.sIsBelow := by
      dsimp only [L2.KOf]
      refine' E1.fn_mk ?a ?l ?c ?k
      (case a => k_is); (case l => k_is); (case c => k_is); (case k => k_is)
    have ALayoutOf : E1.At (L2.KOf KX) "layout_of" E1.sLayoutOf := by
      dsimp only [L2.KOf]
      refine' E1.fn_mk ?a ?l ?c ?k
      (case a => k_is); (case l => k_is); (case c => k_is); (case k => k_is)
    have AIsPointsNumber : E1.At (L2.KOf KX) "is_points_number" E1.sIsPointsNumber := by
      dsimp only [L2.KOf]
      refine' E1.fn_mk ?a ?l ?c ?k
      (case a => k_is); (case l => k_is); (case c => k_is); (case k => k_is)
    have ASortedLayout : E1.At (L2.KOf KX) "sorted_layout" E1.sSortedLayout := by
      dsimp only [L2.KOf]
      refine' E1.fn_mk ?a ?l ?c ?k
      (case a => k_is); (case l => k_is); (case c => k_is); (case k => k_is)
    have ARenamed : E1.At (L2.KOf KX) "renamed" E1.sRenamed := by
      dsimp only [L2.KOf]
      refine' E1.fn_mk ?a ?l ?c ?k
      (case a => k_is); (case l => k_is); (case c => k_is); (case k => k_is)
    have ABlockRenamed : E1.At (L2.KOf KX) "block_renamed" E1.sBlockRenamed := by
      dsimp only [L2.KOf]
      refine' E1.fn_mk ?a ?l ?c ?k
      (case a => k_is); (case l => k_is); (case c => k_is); (case k => k_is)
    have AInOrder : E1.At (L2.KOf KX) "in_order" E1.sInOrder := by
      dsimp only [L2.KOf]
      refine' E1.fn_mk ?a ?l ?c ?k
      (case a => k_is); (case l => k_is); (case c => k_is); (case k => k_is)
    have AIsRow : E1.At (L2.KOf KX) "is_row" E1.sIsRow := by
      dsimp only [L2.KOf]
      refine' E1.fn_mk ?a ?l ?c ?k
      (case a => k_is); (case l => k_is); (case c => k_is); (case k => k_is)
    have AAreUnlikePoints : E1.At (L2.KOf KX) "are_unlike_points" E1.sAreUnlikePoints := by
      dsimp only [L2.KOf]
      refine' E1.fn_mk ?a ?l ?c ?k
      (case a => k_is); (case l => k_is); (case c => k_is); (case k => k_is)
    have ACell : E1.At (L2.KOf KX) "_law_cell" E1.sCell := by
      dsimp only [L2.KOf]
      refine' E1.fn_mk ?a ?l ?c ?k
      (case a => k_is); (case l => k_is); (case c => k_is); (case k => k_is)
    have ALNumbers : E1.At (L2.KOf KX) "_law_numbers" E1.sLNumbers := by
      dsimp only [L2.KOf]
      refine' E1.fn_mk ?a ?l ?c ?k
      (case a => k_is); (case l => k_is); (case c => k_is); (case k => k_is)
    have ALBits : E1.At (L2.KOf KX) "_law_bits" E1.sLBits := by
      dsimp only [L2.KOf]
      refine' E1.fn_mk ?a ?l ?c ?k
      (case a => k_is); (case l => k_is); (case c => k_is); (case k => k_is)
    have ALTurned : E1.At (L2.KOf KX) "_law_turned" E1.sLTurned := by
      dsimp only [L2.KOf]
      refine' E1.fn_mk ?a ?l ?c ?k
      (case a => k_is); (case l => k_is); (case c => k_is); (case k => k_is)
    have ALManyBlocks : E1.At (L2.KOf KX) "_law_many_blocks" E1.sLManyBlocks := by
      dsimp only [L2.KOf]
      refine' E1.fn_mk ?a ?l ?c ?k
      (case a => k_is); (case l => k_is); (case c => k_is); (case k => k_is)
    have ALDrawn : E1.At (L2.KOf KX) "_law_drawn" E1.sLDrawn := by
      dsimp only [L2.KOf]
      refine' E1.fn_mk ?a ?l ?c ?k
      (case a => k_is); (case l => k_is); (case c => k_is); (case k => k_is)
    have ALRow : E1.At (L2.KOf KX) "_law_row" E1.sLRow := by
      dsimp only [L2.KOf]
      refine' E1.fn_mk ?a ?l ?c ?k
      (case a => k_is); (case l => k_is); (case c => k_is); (case k => k_is)
    have ALOddRow : E1.At (L2.KOf KX) "_law_odd_row" E1.sLOddRow := by
      dsimp only [L2.KOf]
      refine' E1.fn_mk ?a ?l ?c ?k
      (case a => k_is); (case l => k_is); (case c => k_is); (case k => k_is)
    have ARef : E1.At (L2.KOf KX) "_law_refused" E1.sRef := by
      dsimp only [L2.KOf]
      refine' E1.fn_mk ?a ?l ?c ?k
      (case a => k_is); (case l => k_is); (case c => k_is); (case k => k_is)
    have ALIs : E1.At (L2.KOf KX) "_law_is" E1.sLIs := by
      dsimp only [L2.KOf]
      refine' E1.fn_mk ?a ?l ?c ?k
      (case a => k_is); (case l => k_is); (case c => k_is); (case k => k_is)
    have ALaw : E1.At (L2.KOf KX) "law" E1.sLaw := by
      dsimp only [L2.KOf]
      refine' E1.fn_mk ?a ?l ?c ?k
      (case a => k_is); (case l => k_is); (case c => k_is); (case k => k_is)
    have R : ∃ M C o1 o2 o3 o4 o5 o6 o7 o8 o9 o10 o11 o12 o13 : Addr, E1.RefsD (L2.KOf KX) M C o1 o2 o3 o4 o5 o6 o7 o8 o9 o10 o11 o12 o13 := by
      dsimp only [L2.KOf]
      refine' E1.refsD_mk ?nM ?nC ?nV ?n1 ?n2 ?n3 ?n4 ?n5 ?n6 ?n7 ?n8 ?n9 ?n10 ?n11 ?n12 ?n13 ?exM ?gaM ?noM ?clM ?obM ?beM ?exC ?gaC ?noC ?clC ?obC ?beC ?gt ?tk ?sub ?kC ?kV ?q1 ?q2 ?q3 ?q4 ?q5 ?q6 ?q7 ?q8 ?q9 ?q10 ?q11 ?q12 ?q13
      (case nM => k_is)
      (case nC => k_is)
      (case nV => k_is)
      (case n1 => k_is)
      (case n2 => k_is)
      (case n3 => k_is)
      (case n4 => k_is)
      (case n5 => k_is)
      (case n6 => k_is)
      (case n7 => k_is)
      (case n8 => k_is)
      (case n9 => k_is)
      (case n10 => k_is)
      (case n11 => k_is)
      (case n12 => k_is)
      (case n13 => k_is)
      (case exM => k_exc)
      (case gaM => k_is)
      (case noM => k_is)
      (case clM => k_is)
      (case obM => k_is)
      (case beM => k_is)
      (case exC => k_exc)
      (case gaC => k_is)
      (case noC => k_is)
      (case clC => k_is)
      (case obC => k_is)
      (case beC => k_is)
      (case gt => k_is)
      (case tk => k_is)
      (case sub => k_is)
      (case kC => kit_is)
      (case kV => kit_is)
      (case q1 => kit_is)
      (case q2 => kit_is)
      (case q3 => kit_is)
      (case q4 => kit_is)
      (case q5 => kit_is)
      (case q6 => kit_is)
      (case q7 => kit_is)
      (case q8 => kit_is)
      (case q9 => kit_is)
      (case q10 => kit_is)
      (case q11 => kit_is)
      (case q12 => kit_is)
      (case q13 => kit_is)
    exact E1.all_mk KX G hmg N CMostPoints CMostBlocks R AWhole AIsBelow ALayoutOf AIsPointsNumber ASortedLayout ARenamed ABlockRenamed AInOrder AIsRow AAreUnlikePoints ACell ALNumbers ALBits ALTurned ALManyBlocks ALDrawn ALRow ALOddRow ARef ALIs ALaw


