import PyProof.Rows.All
import Wide.All
import OpenK.AllK
import Wide.FinOn
import Lean
import PyProof.EqAt
import PyProof.EqKinds
import PyProof.TupleCall
import PySem.Challenge.RW_evenmeet_k89_whole_arcs_of_planes
set_option Elab.async false
set_option linter.all false
set_option maxRecDepth 100000
namespace L2
open PySem PySem.Spec PyProof.Rows

abbrev Key := Sum Int Str
def keyIs : Key → Value → Bool
  | .inl k,v => Value.isInt k v
  | .inr x,v => Value.isStrOf x v
def keyH (w : World) : Key → Int
  | .inl k => hashInt k
  | .inr x => hashStr w x
theorem keyIs_shape : ∀ {k : Key} {v : Value},keyIs k v = true → (∃ i t,k = Sum.inl i ∧ v = Value.int i t) ∨ (∃ x t,k = Sum.inr x ∧ v = Value.str x t)
  | .inl i,v,h => by
    obtain ⟨t,e⟩ := Value.isInt_shape (k := i) (v := v) h
    exact .inl ⟨i,t,rfl,e⟩
  | .inr x,v,h => by
    obtain ⟨t,e⟩ := Value.isStrOf_shape (x := x) (v := v) h
    exact .inr ⟨x,t,rfl,e⟩
theorem key_ll (a b : Int) : decide ((Sum.inl a : Key) = Sum.inl b) = (a == b) := by
  by_cases e : a = b
  · subst e; simp
  · have h : ¬ (Sum.inl a : Key) = Sum.inl b := fun q => e (Sum.inl.inj q)
    rw [decide_eq_false h]
    exact (beq_eq_false_iff_ne.mpr e).symm
theorem key_rr (a b : Str) : decide ((Sum.inr a : Key) = Sum.inr b) = decide (a = b) := by
  by_cases e : a = b
  · subst e; simp
  · have h : ¬ (Sum.inr a : Key) = Sum.inr b := fun q => e (Sum.inr.inj q)
    rw [decide_eq_false h,decide_eq_false e]
theorem key_lr (a : Int) (b : Str) : decide ((Sum.inl a : Key) = Sum.inr b) = false := decide_eq_false (fun q => nomatch q)
theorem key_rl (a : Str) (b : Int) : decide ((Sum.inr a : Key) = Sum.inl b) = false := decide_eq_false (fun q => nomatch q)

def mixKind (prog : Program) (w : World) : PySem.KeyKind prog w Key where
  is := keyIs
  hash := keyH w
  inj := fun v a b ha hb => by
    rcases keyIs_shape ha with ⟨i,t,rfl,rfl⟩ | ⟨x,t,rfl,rfl⟩
    · rcases keyIs_shape hb with ⟨j,u,rfl,e⟩ | ⟨y,u,rfl,e⟩
      · injection e with e1 _; rw [e1]
      · exact nomatch e
    · rcases keyIs_shape hb with ⟨j,u,rfl,e⟩ | ⟨y,u,rfl,e⟩
      · exact nomatch e
      · injection e with e1 _; rw [e1]
  byValue := fun k v h => by
    rcases keyIs_shape h with ⟨i,t,rfl,rfl⟩ | ⟨x,t,rfl,rfl⟩ <;> rfl
  pyHash := fun hv h => by
    rcases keyIs_shape hv with ⟨i,t,rfl,rfl⟩ | ⟨x,t,rfl,rfl⟩
    · exact wpAny_pyHash_int h
    · exact wpAny_pyHash_str h
  eqBool := fun hu hv h => by
    rcases keyIs_shape hu with ⟨i,t,rfl,rfl⟩ | ⟨x,t,rfl,rfl⟩
    · rcases keyIs_shape hv with ⟨j,u,rfl,rfl⟩ | ⟨y,u,rfl,rfl⟩
      · rw [key_ll] at h; exact wpAny_eqBool_int h
      · rw [key_lr] at h; exact SeqAt.EqAt.int_str i t y u _ _ _ _ h
    · rcases keyIs_shape hv with ⟨j,u,rfl,rfl⟩ | ⟨y,u,rfl,rfl⟩
      · rw [key_rl] at h; exact SeqAt.EqAt.str_int x t j u _ _ _ _ h
      · rw [key_rr] at h; exact wpAny_eqBool_str h
  «strs» := fun k x t v h => by
    rcases keyIs_shape h with ⟨i,u,rfl,e⟩ | ⟨y,u,rfl,e⟩
    · exact nomatch e
    · injection e with e1 _
      subst e1
      cases v <;> rfl

end L2

namespace L2
open PySem PySem.Spec PyProof.Rows

inductive V where
  | non | bl (b : Bool) | int (i : Int) | str (x : Str) | byt (b : Array UInt8) | flt (b : UInt64) | ref (a : Addr) | ty (n : String)
  deriving DecidableEq

def RelV : V → Value → Prop
  | .non,u => u = Value.none
  | .bl b,u => u = Value.bool b
  | .int i,u => ∃ t,u = Value.int i t
  | .str x,u => ∃ t,u = Value.str x t
  | .byt b,u => ∃ t,u = Value.bytes b t
  | .flt b,u => ∃ t,u = Value.float b t
  | .ref a,u => u = Value.ref a
  | .ty n,u => u = Value.type n

abbrev Vals : List V → List Value → Prop := Paired RelV
theorem Vals.length {xs : List V} {us : List Value} (r : Vals xs us) : xs.length = us.length := Paired.length r
theorem Vals.get : ∀ {xs : List V} {us : List Value} {i : Nat} {x : V},Vals xs us → xs[i]? = some x → ∃ u,us[i]? = some u ∧ RelV x u
  | _,_,_,_,.nil,e => by simp at e
  | _,_,0,_,.cons r _,e => by simp at e; subst e; exact ⟨_,rfl,r⟩
  | _,_,i + 1,x,.cons _ t,e => by
    obtain ⟨u,h1,h2⟩ := Vals.get (i := i) (x := x) t (by simpa using e)
    exact ⟨u,by simpa using h1,h2⟩
theorem Vals.set {x : V} {u : Value} (r : RelV x u) : ∀ {xs : List V} {us : List Value} (i : Nat),Vals xs us → Vals (xs.set i x) (us.set i u)
  | _,_,_,.nil => .nil
  | _,_,0,.cons _ t => .cons r t
  | _,_,i + 1,.cons q t => .cons q (Vals.set r i t)
theorem Vals.append : ∀ {xs ys : List V} {us ws : List Value},Vals xs us → Vals ys ws → Vals (xs ++ ys) (us ++ ws)
  | _,_,_,_,.nil,s => s
  | _,_,_,_,.cons r t,s => .cons r (Vals.append t s)
theorem Vals.take : ∀ {xs : List V} {us : List Value} (n : Nat),Vals xs us → Vals (xs.take n) (us.take n)
  | _,_,0,_ => .nil
  | _,_,_ + 1,.nil => .nil
  | _,_,n + 1,.cons r t => .cons r (Vals.take n t)
theorem Vals.drop : ∀ {xs : List V} {us : List Value} (n : Nat),Vals xs us → Vals (xs.drop n) (us.drop n)
  | _,_,0,r => r
  | _,_,_ + 1,.nil => .nil
  | _,_,n + 1,.cons _ t => Vals.drop n t
def RelO : Option V → Option Value → Prop
  | some v,some u => RelV v u
  | none,none => True
  | _,_ => False
def KV {κ : Type} : List (κ × V) → List (κ × Value) → Prop := Paired fun (p : κ × V) (q : κ × Value) => p.1 = q.1 ∧ RelV p.2 q.2

def kV : Key → V
  | .inl i => .int i
  | .inr x => .str x

inductive HO where
    | lst (xs : List V)
    | tup (xs : List V)
    | dK (kvs : List (Key × V)) | dT (kvs : List (List Key × V))
    | set (S : Int → Bool) (n : Nat)
    | ins (C dx : Addr) (fs : List (Str × V))
    | own (x : Addr)
    | xd (fs : List (Str × V))
    | met (f x : Addr)
    | rng (lo hi : Int)
    | frz (o : Obj) (u : HO)
    | tbl (ps : Array Value)
    | ext (φ : Heap → Prop)

abbrev Hp := Addr → Option HO
def upd (H : Hp) (a : Addr) (o : HO) : Hp := fun b => if b = a then some o else H b
theorem upd_same {H : Hp} {a : Addr} {o : HO} : upd H a o a = some o := by unfold upd; rw [if_pos rfl]
theorem upd_ne {H : Hp} {a b : Addr} {o : HO} (h : b ≠ a) : upd H a o b = H b := by unfold upd; rw [if_neg h]
theorem ne_of {H : Hp} {a b : Addr} {o u : HO} (h : H a = some o) (h' : H b = some u) (d : o ≠ u) : a ≠ b := by
  intro e; subst e; rw [h] at h'; exact d (Option.some.inj h')
theorem ne_of_none {H : Hp} {a b : Addr} {o : HO} (h : H a = some o) (h' : H b = none) : a ≠ b := by
  intro e; subst e; rw [h] at h'; cases h'

section
variable (P : Program) (w : World)
def ObjOk (H : Hp) (h : Heap) (a : Addr) : HO → Prop
  | .lst xs => xs.length ≤ sizeLine ∧ ∃ (its : List Value) (n : Nat),Vals xs its ∧ h.get? a = some { cls := .type "list",data := .seq its.toArray n }
  | .tup xs => xs.length ≤ sizeLine ∧ ∃ its : List Value,Vals xs its ∧ IsTup h a its.toArray
  | .dK kvs => kvs.length ≤ sizeLine ∧ (a == sysModules) = false ∧ ∃ vs,KV kvs vs ∧ h.DictOf (mixKind P w) a vs
  | .dT kvs => kvs.length ≤ sizeLine ∧ (a == sysModules) = false ∧ ∃ xs : List (List Key × Addr × Value),
      Paired (fun (p : List Key × V) (q : List Key × Addr × Value) => p.1 = q.1 ∧ H q.2.1 = some (.tup (p.1.map kV)) ∧ RelV p.2 q.2.2) kvs xs ∧
      ∃ o es ep,h.get? a = some o ∧ o.ExactDict ∧ o.data = .dict es ep ∧ es.toList = xs.map (entryOfKey (tupleKind (mixKind P w))) ∧ (xs.map (·.1)).Nodup
  | .set S n => h.SetOf (intKind P w) a S n
  | .ins C dx fs => H dx = some (.own a) ∧ fs.length ≤ 1000 ∧ dx ≠ a ∧ h.get? a = some (PySem.W.instObj C dx) ∧
      ∃ mA,h.Ns1 dx mA ∧ (∀ f,RelO (fs.lookup f) (mA f)) ∧ PySem.Within mA (fs.map (·.1))
  | .own _ => ∃ o,h.get? a = some o
  | .xd fs => ∃ mA,h.Ns1 a mA ∧ ∀ f,RelO (fs.lookup f) (mA f)
  | .rng lo hi => ∃ t u v,h.get? a = some { cls := .type "range",data := .fields #[.int lo t,.int hi u,.int 1 v] }
  | .frz o u => h.get? a = some o ∧ ObjOk H h a u
  | .tbl ps => h.get? a = some { cls := .none,data := .fields ps }
  | .met f x => h.get? a = some (PySem.W.methodObj (.ref f) (.ref x))
  | .ext φ => φ h ∧ (∃ o,h.get? a = some o) ∧ ∀ h1 h2 : Heap,φ h1 → (∀ o,h1.get? a = some o → h2.get? a = some o) → φ h2
def HOk (H : Hp) (h : Heap) : Prop := ∀ a o,H a = some o → ObjOk P w H h a o
end

section
variable {P : Program} {w : World} {H H' : Hp} {h h' : Heap} {a : Addr} {o : HO}
theorem ObjOk.lt (x : ObjOk P w H h a o) : a < h.objs.size := by
  cases o with
  | lst xs => obtain ⟨_,_,_,_,e⟩ := x; exact Heap.lt_size e
  | tup xs => obtain ⟨_,_,_,p⟩ := x; exact p.lt
  | dK kvs => obtain ⟨_,_,_,_,o,_,_,e,_⟩ := x; exact Heap.lt_size e
  | dT kvs => obtain ⟨_,_,_,_,o,_,_,e,_⟩ := x; exact Heap.lt_size e
  | set S n => obtain ⟨o,_,_,_,e,_⟩ := x; exact Heap.lt_size e
  | ins C dx fs => obtain ⟨_,_,_,e,_⟩ := x; exact Heap.lt_size e
  | own y => obtain ⟨_,e⟩ := x; exact Heap.lt_size e
  | xd fs => obtain ⟨_,⟨_,_,_,e,_⟩,_⟩ := x; exact Heap.lt_size e
  | rng lo hi => obtain ⟨_,_,_,e⟩ := x; exact Heap.lt_size e
  | frz ob u => obtain ⟨e,_⟩ := x; exact Heap.lt_size e
  | tbl ps => exact Heap.lt_size (show h.get? a = some _ from x)
  | met f y => exact Heap.lt_size (show h.get? a = some _ from x)
  | ext φ => obtain ⟨_,⟨_,e⟩,_⟩ := x; exact Heap.lt_size e
theorem Paired.mapP {α β : Type} {F G : α → β → Prop} : ∀ {l₁ : List α} {l₂ : List β},Paired F l₁ l₂ → (∀ a b,F a b → G a b) → Paired G l₁ l₂
  | _,_,.nil,_ => .nil
  | _,_,.cons r t,f => .cons (f _ _ r) (Paired.mapP t f)
theorem ObjOk.stay (x : ObjOk P w H h a o) (k : ∀ b u,(b = a ∨ H b = some (.own a)) → h.get? b = some u → h'.get? b = some u)
    (ho : ∀ b,H b = some (.own a) → H' b = some (.own a)) (ht : ∀ b xs,H b = some (.tup xs) → H' b = some (.tup xs)) : ObjOk P w H' h' a o := by
  induction o with
  | lst xs => obtain ⟨z,its,n,r,e⟩ := x; exact ⟨z,its,n,r,k _ _ (.inl rfl) e⟩
  | tup xs => obtain ⟨z,its,r,ob,e,c⟩ := x; exact ⟨z,its,r,ob,k _ _ (.inl rfl) e,c⟩
  | dK kvs => obtain ⟨z,y,vs,r,ob,es,ep,e,c⟩ := x; exact ⟨z,y,vs,r,ob,es,ep,k _ _ (.inl rfl) e,c⟩
  | dT kvs =>
    obtain ⟨z,y,xs,r,ob,es,ep,e,c⟩ := x
    exact ⟨z,y,xs,Paired.mapP r fun p q z => ⟨z.1,ht _ _ z.2.1,z.2.2⟩,ob,es,ep,k _ _ (.inl rfl) e,c⟩
  | set S n => obtain ⟨ob,es,ep,t,e,c⟩ := x; exact ⟨ob,es,ep,t,k _ _ (.inl rfl) e,c⟩
  | ins C dx fs =>
    obtain ⟨d,z,ne,e,mA,⟨od,es,ep,e2,c⟩,r⟩ := x
    exact ⟨ho _ d,z,ne,k _ _ (.inl rfl) e,mA,⟨od,es,ep,k _ _ (.inr d) e2,c⟩,r⟩
  | own y => obtain ⟨ob,e⟩ := x; exact ⟨ob,k _ _ (.inl rfl) e⟩
  | xd fs => obtain ⟨mA,⟨od,es,ep,e,c⟩,r⟩ := x; exact ⟨mA,⟨od,es,ep,k _ _ (.inl rfl) e,c⟩,r⟩
  | rng lo hi => obtain ⟨t,u,v,e⟩ := x; exact ⟨t,u,v,k _ _ (.inl rfl) e⟩
  | frz ob u ih => obtain ⟨e,q⟩ := x; exact ⟨k _ _ (.inl rfl) e,ih q⟩
  | tbl ps =>
    have e : h.get? a = some { cls := .none,data := .fields ps } := x
    show h'.get? a = some { cls := .none,data := .fields ps }
    exact k a _ (.inl rfl) e
  | met f y =>
    have e : h.get? a = some (PySem.W.methodObj (.ref f) (.ref y)) := x
    show h'.get? a = some (PySem.W.methodObj (.ref f) (.ref y))
    exact k a _ (.inl rfl) e
  | ext φ => obtain ⟨p,⟨o,e⟩,st⟩ := x; exact ⟨st _ _ p fun o q => k _ _ (.inl rfl) q,⟨o,k _ _ (.inl rfl) e⟩,st⟩
theorem HOk.lt (x : HOk P w H h) (e : H a = some o) : a < h.objs.size := (x a o e).lt
theorem HOk.fresh (x : HOk P w H h) (e : h.objs.size ≤ a) : H a = none := by
  cases q : H a with
  | none => rfl
  | some u => exact absurd (Nat.lt_of_lt_of_le (x.lt q) e) (Nat.lt_irrefl _)
theorem HOk.kept (x : HOk P w H h) (k : ∀ b u,h.get? b = some u → h'.get? b = some u) : HOk P w H h' := fun a o e =>
  (x a o e).stay (fun b u _ q => k b u q) (fun _ q => q) fun _ _ q => q
theorem HOk.laid (x : HOk P w H h) (k : ∀ b u,h.get? b = some u → h'.get? b = some u) (hp : h.objs.size ≤ a) (new : ObjOk P w (upd H a o) h' a o) : HOk P w (upd H a o) h' := fun b u e => by
  have hn := x.fresh hp
  by_cases hb : b = a
  · subst hb; rw [upd_same] at e; cases e; exact new
  · rw [upd_ne hb] at e
    exact (x b u e).stay (fun c v _ q => k c v q) (fun c q => by rw [upd_ne (ne_of_none q hn)]; exact q) fun c xs q => by rw [upd_ne (ne_of_none q hn)]; exact q
end

def Rd (H : Hp) (a : Addr) (u : HO) : Prop := H a = some u ∨ ∃ o,H a = some (.frz o u)
theorem Rd.ok {P : Program} {w : World} {H : Hp} {h : Heap} {a : Addr} {u : HO} (r : Rd H a u) (x : HOk P w H h) : ObjOk P w H h a u := by
  rcases r with r | ⟨o,r⟩
  · exact x a u r
  · obtain ⟨_,q⟩ := x a _ r
    exact q
def Mut : Option HO → Prop
  | some (.lst _) => True
  | some (.dK _) => True
  | some (.dT _) => True
  | some (.set _ _) => True
  | some (.ins _ _ _) => True
  | some (.ext _) => True
  | _ => False
section
variable {P : Program} {w : World} {H : Hp} {h h' : Heap} {x e : Addr} {o' : HO}
theorem HOk.write (ok : HOk P w H h) (mu : Mut (H x)) (he : e = x ∨ H e = some (.own x)) (k : ∀ b u,b ≠ e → h.get? b = some u → h'.get? b = some u) (heo : ∃ u,h'.get? e = some u)
    (new : ObjOk P w (upd H x o') h' x o') : HOk P w (upd H x o') h' := fun b u q => by
  have nown : ∀ c y,H c = some (.own y) → c ≠ x := fun c y r z => by subst z; rw [r] at mu; exact mu
  have ntup : ∀ c xs,H c = some (.tup xs) → c ≠ x := fun c xs r z => by subst z; rw [r] at mu; exact mu
  by_cases hb : b = x
  · subst hb; rw [upd_same] at q; cases q; exact new
  · rw [upd_ne hb] at q
    by_cases hbe : b = e
    · have q' : H b = some (.own x) := by
        rcases he with z | z
        · exact absurd (hbe.trans z) hb
        · rw [hbe]; exact z
      rw [q] at q'; cases q'
      obtain ⟨v,hv⟩ := heo
      exact ⟨v,by rw [hbe]; exact hv⟩
    · refine (ok b u q).stay (fun c v hc r => k c v ?_ r) (fun c r => by rw [upd_ne (nown c b r)]; exact r) fun c xs r => by rw [upd_ne (ntup c xs r)]; exact r
      rcases hc with rfl | hc
      · exact hbe
      · rintro rfl
        rcases he with z | z
        · exact nown c b hc z
        · rw [hc] at z; cases z; exact hb rfl
end

structure Un (fs ex : List Addr) (H H' : Hp) (h h' : Heap) : Prop where
  keep : ∀ b o,h.get? b = some o → H b = none → b ∉ fs → b ∉ ex → h'.get? b = some o
  slot : ∀ b o,h.get? b = some o → H b = none → b ∈ fs → b ∉ ex → ∃ sl,h'.get? b = some { o with slots := sl }
  free : ∀ b o,h.get? b = some o → H b = none → b ∉ ex → H' b = none
  there : ∀ b o,h.get? b = some o → b ∉ ex → ∃ o',h'.get? b = some o'
  tups : ∀ b xs,H b = some (.tup xs) → H' b = some (.tup xs)
  frzs : ∀ b o u,H b = some (.frz o u) → H' b = some (.frz o u)
  tbls : ∀ b ps,H b = some (.tbl ps) → ∃ more,H' b = some (.tbl (ps ++ more))
section
variable {fs fs' ex ex' : List Addr} {H H1 H2 : Hp} {h h1 h2 h' : Heap} {a x e : Addr} {o : HO}
theorem Un.any (u : Un fs ex H H1 h h1) {b : Addr} {ob : Obj} (q : h.get? b = some ob) (n : H b = none) (hx : b ∉ ex) : ∃ sl,h1.get? b = some { ob with slots := sl } := by
  by_cases hb : b ∈ fs
  · exact u.slot b ob q n hb hx
  · exact ⟨ob.slots,u.keep b ob q n hb hx⟩
theorem Un.kept (k : ∀ b u,h.get? b = some u → h'.get? b = some u) : Un fs ex H H h h' :=
  ⟨fun b ob q _ _ _ => k b ob q,fun b ob q _ _ _ => ⟨ob.slots,k b ob q⟩,fun _ _ _ n _ => n,fun b ob q _ => ⟨ob,k b ob q⟩,fun _ _ q => q,fun _ _ _ q => q,fun _ ps q => ⟨#[],by rw [q]; simp⟩⟩
theorem Un.refl : Un fs ex H H h h := Un.kept fun _ _ q => q
theorem Un.laid (k : ∀ b u,h.get? b = some u → h'.get? b = some u) (hp : h.objs.size ≤ a) (hn : H a = none) : Un fs ex H (upd H a o) h h' where
  keep := fun b u q _ _ _ => k b u q
  slot := fun b u q _ _ _ => ⟨u.slots,k b u q⟩
  free := fun b u q n _ => by rw [upd_ne (Nat.ne_of_lt (Nat.lt_of_lt_of_le (Heap.lt_size q) hp))]; exact n
  there := fun b u q _ => ⟨u,k b u q⟩
  tups := fun b xs q => by rw [upd_ne (ne_of_none q hn)]; exact q
  frzs := fun b u xs q => by rw [upd_ne (ne_of_none q hn)]; exact q
  tbls := fun b ps q => ⟨#[],by rw [upd_ne (ne_of_none q hn),q]; simp⟩
theorem Un.write (mu : Mut (H x)) (he : e = x ∨ H e = some (.own x)) (k : ∀ b u,b ≠ e → h.get? b = some u → h'.get? b = some u) (heo : ∃ u,h'.get? e = some u) : Un fs ex H (upd H x o) h h' := by
  have hx : ∀ b,H b = none → b ≠ x := fun b n z => by subst z; rw [n] at mu; exact mu
  have hb : ∀ b,H b = none → b ≠ e := fun b n z => by
    subst z
    rcases he with r | r
    · exact hx b n r
    · rw [n] at r; cases r
  have hm : ∀ b u,H b = some u → ¬ Mut (some u) → b ≠ x := fun b u q nm z => by subst z; rw [q] at mu; exact nm mu
  refine ⟨fun b u q n _ _ => k b u (hb b n) q,fun b u q n _ _ => ⟨u.slots,k b u (hb b n) q⟩,fun b u q n _ => by rw [upd_ne (hx b n)]; exact n,fun b u q _ => ?_,
    fun b xs q => by rw [upd_ne (hm b _ q fun z => z)]; exact q,fun b u xs q => by rw [upd_ne (hm b _ q fun z => z)]; exact q,fun b ps q => ⟨#[],by rw [upd_ne (hm b _ q fun z => z),q]; simp⟩⟩
  by_cases hbe : b = e
  · subst hbe; exact heo
  · exact ⟨u,k b u hbe q⟩
end

def trk (h : Heap) (H : Hp) : List Addr := (List.range h.objs.size).filter fun a => (H a).isSome
def hidT (h : Heap) (H : Hp) : Heap := PySem.W.hideAll h (trk h H)
theorem hidT_size (h : Heap) (H : Hp) : (hidT h H).objs.size = h.objs.size := PySem.W.hideAll_size _ _
theorem hidT_get {h : Heap} {H : Hp} {b : Addr} {o : Obj} (e : h.get? b = some o) (n : H b = none) : (hidT h H).get? b = some o :=
  PySem.W.hideAll_get _ e fun hm => by
    have q : (H b).isSome = true := (List.mem_filter.mp hm).2
    rw [n] at q; simp at q
theorem of_hidT {h : Heap} {H : Hp} {b : Addr} {o : Obj} (e : (hidT h H).get? b = some o) : h.get? b = some o ∧ H b = none := by
  have e' : h.get? b = some o := PySem.W.of_hideAll (trk h H) e
  refine ⟨e',?_⟩
  cases q : H b with
  | none => rfl
  | some x =>
    have hm : b ∈ trk h H := List.mem_filter.mpr ⟨List.mem_range.mpr (Heap.lt_size e'),by simp [q]⟩
    have z : (hidT h H).get? b = none := PySem.W.hideAll_none (trk h H) hm
    rw [z] at e; cases e

end L2

namespace L2
open PySem PySem.Spec PyProof.Rows

structure Mod (K : PySem.W.Frag) (mg : Str → Option Value) (base : Heap) : Prop where
  kin : K.In base
  glob : base.Ns mainGlobals mg
  blt : ∃ mb,base.Ns builtinsNs mb ∧ ∀ x : Str,x ≠ "__name__" → mb x = bootBuiltins x
  nolimit : base.NoLimit

structure Cx where
  prog : Program
  w : World
  K : PySem.W.Frag
  mg : Str → Option Value
  base : Heap
  A : Around
  N : List Str
  s₀ : Shared
  H₀ : Hp
  env : Env
  outer : List Env
  stack : List Env
  ex : List Addr
  fn : Str → Bool
  calm : Bool
  pn : List (Addr × Obj)
  xe : Value → Shared → Prop
def frs (l : List Env) : List Addr := l.filterMap (·.frame)
abbrev Cx.fs (X : Cx) : List Addr := frs X.outer

def Vis (sc : Scope) (x : Str) : Prop := sc.names.lookup x = some .local ∨ sc.names.lookup x = some .cell ∨ sc.names.lookup x = some .free
def Loc (sc : Scope) (x : Str) : Prop := sc.names.lookup x = some .local ∨ sc.names.lookup x = some .cell
def Look (env : Env) (h : Heap) (m : Str → Option Value) (x : Str) (u : Value) : Prop :=
  (env.kindOf x = some .local ∧ m x = some u) ∨ ((env.kindOf x = some .cell ∨ env.kindOf x = some .free) ∧ ∃ c,env.cells.lookup x = some c ∧ h.IsCell c (some u))

structure Cx.Ok (X : Cx) : Prop where
  mod : Mod X.K X.mg X.base
  kind : X.env.scope.kind = .function
  glob : X.env.globals = mainGlobals
  blt : X.env.builtins = builtinsNs
  above : X.s₀.heap.objs.size ≤ X.env.locals
  inj : ∀ x y c,X.env.cells.lookup x = some c → X.env.cells.lookup y = some c → x = y
  has : ∀ x,(X.env.kindOf x = some .cell ∨ X.env.kindOf x = some .free) → ∃ c,X.env.cells.lookup x = some c
  cab : ∀ x c,X.fn x = true → X.env.cells.lookup x = some c → X.s₀.heap.objs.size ≤ c
  hd : X.calm = true → X.A.handled = none
  frames : X.A.frames = some X.stack
  stk : X.stack = X.outer ∨ (X.stack = X.env :: X.outer ∧ X.env.frame = some X.env.locals)
  exf : ∀ b ∈ X.ex,b ≠ X.env.locals ∧ ∀ x c,X.env.cells.lookup x = some c → c ≠ b
  bs : ∀ b o,X.base.get? b = some o → X.s₀.heap.get? b = some o ∧ X.H₀ b = none
  bsz : X.base.objs.size ≤ X.s₀.heap.objs.size
  noex : ∀ b o,X.base.get? b = some o → b ∉ X.ex
  exfs : ∀ b ∈ X.ex,b ∉ X.fs
  funs : X.s₀.heap.FunFrames X.base X.outer
  frf : ∀ b ∈ X.fs,X.H₀ b = none

structure Inv (X : Cx) (pins : List (Addr × Obj)) (σ : List (Option V)) (H : Hp) (s : Shared) : Prop where
  ok : X.Ok
  os : s.os = X.s₀.os
  bare : AllBare s.gens
  base : Un X.fs X.ex X.H₀ H X.s₀.heap s.heap
  loc : ∃ m,s.heap.Ns X.env.locals m ∧ ∀ (i : Nat) (x : Str) (v : V),X.N[i]? = some x → σ[i]? = some (some v) → Vis X.env.scope x → ∃ u,RelV v u ∧ Look X.env s.heap m x u
  cell : ∀ x c,X.env.cells.lookup x = some c → ∃ v,s.heap.IsCell c v
  free : H X.env.locals = none
  freeC : ∀ x c,X.env.cells.lookup x = some c → H c = none
  pin : ∀ p ∈ X.pn ++ pins,s.heap.get? p.1 = some p.2 ∧ H p.1 = none ∧ p.1 ≠ X.env.locals ∧ p.1 ∉ X.fs ∧ ∀ v,p.2.data ≠ .cell v
  hok : HOk X.prog X.w H s.heap
  len : σ.length = X.N.length

section
variable {X : Cx} {pins : List (Addr × Obj)} {σ : List (Option V)} {H H' : Hp} {s : Shared} {h' : Heap}

theorem Cx.Ok.nofr (ok : X.Ok) {b : Addr} {o : Obj} (e : X.base.get? b = some o) : b ∉ X.fs := fun hb => by
  have := (ok.funs.mem hb).1
  rw [e] at this; cases this
theorem Inv.bs (I : Inv X pins σ H s) : ∀ b o,X.base.get? b = some o → s.heap.get? b = some o ∧ H b = none := fun b o e =>
  ⟨I.base.keep b o (I.ok.bs b o e).1 (I.ok.bs b o e).2 (I.ok.nofr e) (I.ok.noex b o e),I.base.free b o (I.ok.bs b o e).1 (I.ok.bs b o e).2 (I.ok.noex b o e)⟩
theorem Inv.bk (I : Inv X pins σ H s) : ∀ b o,X.base.get? b = some o → s.heap.get? b = some o := fun b o e => (I.bs b o e).1
theorem Inv.mod (I : Inv X pins σ H s) : Mod X.K X.mg X.base := I.ok.mod
theorem Inv.kIn (I : Inv X pins σ H s) : X.K.In s.heap := I.ok.mod.kin.keeps I.bk
theorem Inv.lt (I : Inv X pins σ H s) : X.env.locals < s.heap.objs.size := let ⟨_,hn,_⟩ := I.loc; hn.lt
theorem Inv.sz (I : Inv X pins σ H s) : X.s₀.heap.objs.size ≤ s.heap.objs.size := Nat.le_trans I.ok.above (Nat.le_of_lt I.lt)
theorem Inv.nofs (I : Inv X pins σ H s) {a : Addr} (h : s.heap.objs.size ≤ a) : a ∉ X.fs := fun hb => by
  obtain ⟨_,o,ho,_⟩ := I.ok.funs.mem hb
  exact absurd (Nat.lt_of_lt_of_le (Heap.lt_size ho) (Nat.le_trans I.sz h)) (Nat.lt_irrefl _)
theorem Inv.cne (I : Inv X pins σ H s) : ∀ x c,X.env.cells.lookup x = some c → c ≠ X.env.locals := fun x c e z => by
  obtain ⟨v,o,ho,hd⟩ := I.cell x c e
  obtain ⟨m,⟨o',es,ep,ho',hd',_⟩,_⟩ := I.loc
  rw [z,ho'] at ho; cases ho; rw [hd'] at hd; cases hd
theorem Inv.funs (I : Inv X pins σ H s) : s.heap.FunFrames X.base X.outer := by
  have all : ∀ (l : List Env),(∀ b ∈ frs l,b ∈ X.fs) → X.s₀.heap.FunFrames X.base l → s.heap.FunFrames X.base l := by
    intro l
    induction l with
    | nil => intro _ _; trivial
    | cons env r ih =>
      intro hs hl
      obtain ⟨hk,⟨L,o,hf,hn,ho,hd⟩,hr⟩ := hl
      have hL : L ∈ X.fs := hs L (by unfold frs; rw [List.filterMap_cons,hf]; exact List.mem_cons_self)
      obtain ⟨sl,e⟩ := I.base.slot L o ho (I.ok.frf L hL) hL fun z => I.ok.exfs L z hL
      exact ⟨hk,⟨L,_,hf,hn,e,hd⟩,ih (fun b hb => hs b (by unfold frs; rw [List.filterMap_cons,hf]; exact List.mem_cons_of_mem _ hb)) hr⟩
  exact all X.outer (fun _ hb => hb) I.ok.funs

theorem Inv.stack (I : Inv X pins σ H s) : s.heap.FunFrames X.base X.stack := by
  rcases I.ok.stk with e | ⟨e,hf⟩
  · rw [e]; exact I.funs
  · rw [e]
    obtain ⟨m,hn,_⟩ := I.loc
    refine .cons (by rw [I.ok.kind]; decide) hf hn ?_ I.funs
    exact Heap.get?_none_of_le (Nat.le_trans I.ok.bsz I.ok.above)
theorem Inv.stkSub (I : Inv X pins σ H s) : ∀ b ∈ frs X.stack,b ∈ X.env.locals :: X.fs := fun b hb => by
  rcases I.ok.stk with e | ⟨e,hf⟩
  · rw [e] at hb; exact List.mem_cons_of_mem _ hb
  · rw [e] at hb
    unfold frs at hb
    rw [List.filterMap_cons,hf] at hb
    exact hb
theorem Inv.stkFree (I : Inv X pins σ H s) : ∀ b ∈ frs X.stack,H b = none := fun b hb => by
  rcases List.mem_cons.mp (I.stkSub b hb) with e | hb
  · rw [e]; exact I.free
  · obtain ⟨_,o,ho,_⟩ := I.ok.funs.mem hb
    exact I.base.free b o ho (I.ok.frf b hb) fun z => I.ok.exfs b z hb

theorem Inv.step {g' : Array GenState} {t' : Nat} {d' : Drawn} {ch : List Addr} (I : Inv X pins σ H s)
    (hch : ∀ b ∈ ch,(b ∈ X.ex ∨ X.s₀.heap.objs.size ≤ b) ∧ b ≠ X.env.locals ∧ (∀ x c,X.env.cells.lookup x = some c → c ≠ b) ∧ ∀ p ∈ X.pn ++ pins,p.1 ≠ b)
    (keep : ∀ b o,b ≠ X.env.locals → b ∉ X.fs → b ∉ ch → s.heap.get? b = some o → H b = none → h'.get? b = some o)
    (slot : ∀ b o,b ≠ X.env.locals → b ∈ X.fs → b ∉ ch → s.heap.get? b = some o → H b = none → ∃ sl,h'.get? b = some { o with slots := sl }) (free : ∀ b o,b ∉ ch → s.heap.get? b = some o → H b = none → H' b = none)
    (there : ∀ b o,b ∉ ch → s.heap.get? b = some o → ∃ o',h'.get? b = some o')
    (tups : ∀ b xs,H b = some (.tup xs) → H' b = some (.tup xs)) (frzs : ∀ b o u,H b = some (.frz o u) → H' b = some (.frz o u)) (tbls : ∀ b ps,H b = some (.tbl ps) → ∃ more,H' b = some (.tbl (ps ++ more)))
    (ns : ∀ m,s.heap.Ns X.env.locals m → h'.Ns X.env.locals m) (hok : HOk X.prog X.w H' h') (hg : AllBare g') :
    Inv X pins σ H' { s with heap := h',gens := g',drawn := d',toks := t' } := by
  have neL : ∀ b o,X.s₀.heap.get? b = some o → b ≠ X.env.locals := fun b o e => Nat.ne_of_lt (Nat.lt_of_lt_of_le (Heap.lt_size e) I.ok.above)
  have neC : ∀ b o,X.s₀.heap.get? b = some o → b ∉ X.ex → b ∉ ch := fun b o e hx hb => by
    rcases (hch b hb).1 with z | z
    · exact hx z
    · exact absurd (Nat.lt_of_lt_of_le (Heap.lt_size e) z) (Nat.lt_irrefl _)
  have cellK : ∀ x c,X.env.cells.lookup x = some c → ∀ v,s.heap.IsCell c v → h'.IsCell c v := fun x c e v ⟨o,ho,hd⟩ => by
    have nch : c ∉ ch := fun z => (hch c z).2.2.1 x c e rfl
    by_cases hc : c ∈ X.fs
    · obtain ⟨sl,q⟩ := slot c o (I.cne x c e) hc nch ho (I.freeC x c e)
      exact ⟨_,q,hd⟩
    · exact ⟨o,keep c o (I.cne x c e) hc nch ho (I.freeC x c e),hd⟩
  refine ⟨I.ok,I.os,hg,⟨fun b o e n hb hx => ?_,fun b o e n hb hx => ?_,fun b o e n hx => ?_,fun b o e hx => ?_,fun b xs e => tups b xs (I.base.tups b xs e),fun b o xs e => frzs b o xs (I.base.frzs b o xs e),fun b ps e => ?_⟩,?_,fun x c e => ?_,?_,fun x c e => ?_,fun p hp => ?_,hok,I.len⟩
  · exact keep b o (neL b o e) hb (neC b o e hx) (I.base.keep b o e n hb hx) (I.base.free b o e n hx)
  · obtain ⟨sl,e1⟩ := I.base.slot b o e n hb hx
    obtain ⟨sl',e2⟩ := slot b _ (neL b o e) hb (neC b o e hx) e1 (I.base.free b o e n hx)
    exact ⟨sl',e2⟩
  · obtain ⟨o',e1⟩ := I.base.there b o e hx
    exact free b o' (neC b o e hx) e1 (I.base.free b o e n hx)
  · obtain ⟨o',e1⟩ := I.base.there b o e hx
    exact there b o' (neC b o e hx) e1
  · obtain ⟨m1,e1⟩ := I.base.tbls b ps e
    obtain ⟨m2,e2⟩ := tbls b _ e1
    exact ⟨m1 ++ m2,by rw [e2,Array.append_assoc]⟩
  · obtain ⟨m,hn,hl⟩ := I.loc
    refine ⟨m,ns m hn,fun i x v e1 e2 e3 => ?_⟩
    obtain ⟨u,r,l⟩ := hl i x v e1 e2 e3
    refine ⟨u,r,?_⟩
    rcases l with l | ⟨k,c,e,z⟩
    · exact .inl l
    · exact .inr ⟨k,c,e,cellK x c e _ z⟩
  · obtain ⟨v,z⟩ := I.cell x c e
    exact ⟨v,cellK x c e v z⟩
  · obtain ⟨m,⟨o,_,_,ho,_⟩,_⟩ := I.loc
    exact free _ o (fun z => (hch _ z).2.1 rfl) ho I.free
  · obtain ⟨v,o,ho,hd⟩ := I.cell x c e
    exact free c o (fun z => (hch c z).2.2.1 x c e rfl) ho (I.freeC x c e)
  · obtain ⟨e,n,ne,nf,d⟩ := I.pin p hp
    have nch : p.1 ∉ ch := fun z => (hch p.1 z).2.2.2 p hp rfl
    exact ⟨keep p.1 p.2 ne nf nch e n,free p.1 p.2 nch e n,ne,nf,d⟩
theorem Inv.un {t' : Nat} (I : Inv X pins σ H s) (u : Un X.fs [] H H' s.heap h') (hok : HOk X.prog X.w H' h') : Inv X pins σ H' { s with heap := h',toks := t' } := by
  obtain ⟨m,⟨o,es,ep,ho,r⟩,_⟩ := id I.loc
  obtain ⟨sl,hL⟩ := u.any ho I.free (by simp)
  exact I.step (g' := s.gens) (d' := s.drawn) (ch := []) (fun _ z => nomatch z) (fun b o _ hb _ e n => u.keep b o e n hb (by simp)) (fun b o _ hb _ e n => u.slot b o e n hb (by simp)) (fun b o _ e n => u.free b o e n (by simp)) (fun b o _ e => u.there b o e (by simp)) u.tups u.frzs u.tbls (fun m' hm => by
    obtain ⟨o',es',ep',ho',r'⟩ := hm
    rw [ho] at ho'; cases ho'
    exact ⟨_,es',ep',hL,r'⟩) hok I.bare
theorem Inv.call {g' : Array GenState} {t' : Nat} {d' : Drawn} {ch : List Addr} (I : Inv X pins σ H s) (u : Un (frs X.stack) ch H H' s.heap h') (hok : HOk X.prog X.w H' h') (hg : AllBare g')
    (hch : ∀ b ∈ ch,(b ∈ X.ex ∨ X.s₀.heap.objs.size ≤ b) ∧ b ≠ X.env.locals ∧ (∀ x c,X.env.cells.lookup x = some c → c ≠ b) ∧ ∀ p ∈ X.pn ++ pins,p.1 ≠ b) :
    Inv X pins σ H' { s with heap := h',gens := g',drawn := d',toks := t' } := by
  obtain ⟨m,⟨o,es,ep,ho,r⟩,_⟩ := id I.loc
  obtain ⟨sl,hL⟩ := u.any ho I.free fun z => (hch _ z).2.1 rfl
  exact I.step (ch := ch) hch (fun b o hL hb hc e n => u.keep b o e n (fun z => (List.mem_cons.mp (I.stkSub b z)).elim hL hb) hc) (fun b o _ _ hc e n => u.any e n hc) (fun b o hc e n => u.free b o e n hc) (fun b o hc e => u.there b o e hc) u.tups u.frzs u.tbls (fun m' hm => by
    obtain ⟨o',es',ep',ho',r'⟩ := hm
    rw [ho] at ho'; cases ho'
    exact ⟨_,es',ep',hL,r'⟩) hok hg
theorem Inv.turned {t' : Nat} {it : Addr} (I : Inv X pins σ H s) (k : ∀ b o,b ≠ it → s.heap.get? b = some o → h'.get? b = some o) (hn : H it = none) (hL : it ≠ X.env.locals)
    (h1 : it ∈ X.ex ∨ X.s₀.heap.objs.size ≤ it) (h2 : ∀ x c,X.env.cells.lookup x = some c → c ≠ it) (h3 : ∀ p ∈ X.pn ++ pins,p.1 ≠ it) : Inv X pins σ H { s with heap := h',toks := t' } := by
  have nit : ∀ b u,H b = some u → b ≠ it := fun b u e z => by rw [z,hn] at e; cases e
  refine I.step (g' := s.gens) (d' := s.drawn) (ch := [it]) (fun b hb => ?_) (fun b o _ _ hc e _ => k b o (fun z => hc (by simp [z])) e) (fun b o _ _ hc e _ => ⟨o.slots,k b o (fun z => hc (by simp [z])) e⟩) (fun _ _ _ _ n => n)
    (fun b o hc e => ⟨o,k b o (fun z => hc (by simp [z])) e⟩) (fun _ _ e => e) (fun _ _ _ e => e) (fun b ps e => ⟨#[],by rw [e]; simp⟩) (fun m hm => ?_) (fun b u e => ?_) I.bare
  · have e : b = it := by simpa using hb
    subst e
    exact ⟨h1,hL,h2,h3⟩
  · obtain ⟨o,es,ep,ho,r⟩ := hm
    exact ⟨o,es,ep,k _ o (Ne.symm hL) ho,r⟩
  · refine (I.hok b u e).stay (fun c v hc q => k c v ?_ q) (fun _ q => q) fun _ _ q => q
    rcases hc with z | z
    · rw [z]; exact nit b u e
    · exact nit c _ z
theorem Inv.tok (I : Inv X pins σ H s) (t : Nat) : Inv X pins σ H { s with toks := t } := I.un (h' := s.heap) (t' := t) Un.refl I.hok
theorem Inv.kept {t' : Nat} (I : Inv X pins σ H s) (k : ∀ b u,s.heap.get? b = some u → h'.get? b = some u) : Inv X pins σ H { s with heap := h',toks := t' } := I.un (Un.kept k) (I.hok.kept k)
theorem Inv.laid {a : Addr} {o : HO} {t' : Nat} (I : Inv X pins σ H s) (k : ∀ b u,s.heap.get? b = some u → h'.get? b = some u) (hp : s.heap.objs.size ≤ a) (new : ObjOk X.prog X.w (upd H a o) h' a o) :
    Inv X pins σ (upd H a o) { s with heap := h',toks := t' } := I.un (Un.laid k hp (I.hok.fresh hp)) (I.hok.laid k hp new)
theorem Inv.write {x e : Addr} {o : HO} {t' : Nat} (I : Inv X pins σ H s) (mu : Mut (H x)) (he : e = x ∨ H e = some (.own x)) (k : ∀ b u,b ≠ e → s.heap.get? b = some u → h'.get? b = some u) (heo : ∃ u,h'.get? e = some u)
    (new : ObjOk X.prog X.w (upd H x o) h' x o) : Inv X pins σ (upd H x o) { s with heap := h',toks := t' } := I.un (Un.write mu he k heo) (I.hok.write mu he k heo new)
theorem Inv.weak {σ' : List (Option V)} (I : Inv X pins σ H s) (hl : σ'.length = σ.length) (w : ∀ (i : Nat) v,σ'[i]? = some (some v) → σ[i]? = some (some v)) : Inv X pins σ' H s :=
  ⟨I.ok,I.os,I.bare,I.base,let ⟨m,hn,hl'⟩ := I.loc; ⟨m,hn,fun i x v e1 e2 e3 => hl' i x v e1 (w i v e2) e3⟩,I.cell,I.free,I.freeC,I.pin,I.hok,hl.trans I.len⟩
theorem Inv.pins_of {pins' : List (Addr × Obj)} (I : Inv X pins σ H s) (h : ∀ p ∈ pins',s.heap.get? p.1 = some p.2 ∧ H p.1 = none ∧ p.1 ≠ X.env.locals ∧ p.1 ∉ X.fs ∧ ∀ v,p.2.data ≠ .cell v) : Inv X pins' σ H s :=
  ⟨I.ok,I.os,I.bare,I.base,I.loc,I.cell,I.free,I.freeC,fun p hp => (List.mem_append.mp hp).elim (fun z => I.pin p (List.mem_append_left _ z)) (h p),I.hok,I.len⟩

theorem nodup_ix {N : List Str} (hN : N.Nodup) {i j : Nat} {x : Str} (a : N[i]? = some x) (b : N[j]? = some x) : i = j := by
  obtain ⟨h1,e1⟩ := List.getElem?_eq_some_iff.mp a
  obtain ⟨h2,e2⟩ := List.getElem?_eq_some_iff.mp b
  exact (List.getElem_inj hN).mp (e1.trans e2.symm)

theorem store_ok2 {M : Model} {A : Around} {E : Value → Shared → Prop} {i : Nat} {x : Str} {v : V} {u : Value} {Q : Unit → Shared → Prop} (I : Inv X pins σ H s) (hN : X.N.Nodup) (hi : X.N[i]? = some x) (hx : Loc X.env.scope x) (r : RelV v u)
    (h : ∀ s',Inv X pins (σ.set i (some v)) H s' → (∃ a,Heap.SameBut a s.heap s'.heap ∧ (a = X.env.locals ∨ X.env.cells.lookup x = some a)) → Q () s') (hf : X.fn x = true ∨ X.env.scope.names.lookup x = some .local := by first | exact .inl rfl | exact .inr rfl | assumption) : wpAny M A (storeName X.env x u) Q E s := by
  obtain ⟨m,hn,hl⟩ := id I.loc
  have hcls : (X.env.scope.kind == .class || (X.env.scope.kind == .module && X.env.locals != X.env.globals)) = false := by rw [I.ok.kind]; rfl
  have hiσ : i < σ.length := by rw [I.len]; exact (List.getElem?_eq_some_iff.mp hi).1
  have cne := I.cne
  have tracked : ∀ {a : Addr} {h' : Heap},(∃ o,s.heap.get? a = some o ∧ H a = none) → Heap.SameBut a s.heap h' → HOk X.prog X.w H h' := fun {a h'} ha hs b ob e => by
    obtain ⟨_,_,hfree⟩ := ha
    refine (I.hok b ob e).stay (fun c w' hc q => (hs.2 c ?_).trans q) (fun _ q => q) fun _ _ q => q
    rintro rfl
    rcases hc with rfl | hc
    · rw [hfree] at e; cases e
    · rw [hfree] at hc; cases hc
  rcases hx with hk | hk
  · refine wpAny_storeName_local hk hn (fun h' hn' hs => ?_) hcls
    obtain ⟨oL,_,_,hoL,_⟩ := id hn
    refine h _ ⟨I.ok,I.os,I.bare,⟨fun b o e n hb hx => ?_,fun b o e n hb hx => ?_,I.base.free,fun b o e hx => ?_,I.base.tups,I.base.frzs,I.base.tbls⟩,⟨_,hn',fun j y v' e1 e2 e3 => ?_⟩,fun y c e => ?_,I.free,I.freeC,fun p hp => ?_,tracked ⟨oL,hoL,I.free⟩ hs,by simpa using I.len⟩ ⟨_,hs,.inl rfl⟩
    · exact (hs.2 b (Nat.ne_of_lt (Nat.lt_of_lt_of_le (Heap.lt_size e) I.ok.above))).trans (I.base.keep b o e n hb hx)
    · obtain ⟨sl,e1⟩ := I.base.slot b o e n hb hx
      exact ⟨sl,(hs.2 b (Nat.ne_of_lt (Nat.lt_of_lt_of_le (Heap.lt_size e) I.ok.above))).trans e1⟩
    · obtain ⟨o',e1⟩ := I.base.there b o e hx
      exact ⟨o',(hs.2 b (Nat.ne_of_lt (Nat.lt_of_lt_of_le (Heap.lt_size e) I.ok.above))).trans e1⟩
    · by_cases hj : j = i
      · subst hj
        rw [hi] at e1; cases e1
        rw [List.getElem?_set_self hiσ] at e2
        cases e2
        exact ⟨u,r,.inl ⟨hk,by simp⟩⟩
      · rw [List.getElem?_set_ne (Ne.symm hj)] at e2
        obtain ⟨u',r',q⟩ := hl j y v' e1 e2 e3
        refine ⟨u',r',?_⟩
        rcases q with ⟨k,e⟩ | ⟨k,c,e,z⟩
        · refine .inl ⟨k,?_⟩
          have : y ≠ x := fun e => hj (nodup_ix hN e1 (e ▸ hi))
          simp [this,e]
        · exact .inr ⟨k,c,e,z.sameBut hs (cne y c e)⟩
    · obtain ⟨w',z⟩ := I.cell y c e
      exact ⟨w',z.sameBut hs (cne y c e)⟩
    · obtain ⟨e,n,ne,nf,d⟩ := I.pin p hp
      exact ⟨(hs.2 p.1 ne).trans e,n,ne,nf,d⟩
  · have hfn : X.fn x = true := by
      rcases hf with z | z
      · exact z
      · rw [z] at hk; cases hk
    obtain ⟨c,hc⟩ := I.ok.has x (.inl hk)
    obtain ⟨w',z⟩ := I.cell x c hc
    refine wpAny_storeName_cell I.ok.kind hk hc z (fun h' hc' hs => ?_)
    obtain ⟨oc,hoc,hocd⟩ := id z
    refine h { s with heap := h' } ⟨I.ok,I.os,I.bare,⟨fun b o e n hb hx => ?_,fun b o e n hb hx => ?_,I.base.free,fun b o e hx => ?_,I.base.tups,I.base.frzs,I.base.tbls⟩,⟨m,hn.sameBut hs (Ne.symm (cne x c hc)),fun j y v' e1 e2 e3 => ?_⟩,fun y c' e => ?_,I.free,I.freeC,fun p hp => ?_,tracked ⟨oc,hoc,I.freeC x c hc⟩ hs,by simpa using I.len⟩ ⟨c,hs,.inr hc⟩
    · exact (hs.2 b (Nat.ne_of_lt (Nat.lt_of_lt_of_le (Heap.lt_size e) (I.ok.cab x c hfn hc)))).trans (I.base.keep b o e n hb hx)
    · obtain ⟨sl,e1⟩ := I.base.slot b o e n hb hx
      exact ⟨sl,(hs.2 b (Nat.ne_of_lt (Nat.lt_of_lt_of_le (Heap.lt_size e) (I.ok.cab x c hfn hc)))).trans e1⟩
    · obtain ⟨o',e1⟩ := I.base.there b o e hx
      exact ⟨o',(hs.2 b (Nat.ne_of_lt (Nat.lt_of_lt_of_le (Heap.lt_size e) (I.ok.cab x c hfn hc)))).trans e1⟩
    · by_cases hj : j = i
      · subst hj
        rw [hi] at e1; cases e1
        rw [List.getElem?_set_self hiσ] at e2
        cases e2
        exact ⟨u,r,.inr ⟨.inl hk,c,hc,hc'⟩⟩
      · rw [List.getElem?_set_ne (Ne.symm hj)] at e2
        obtain ⟨u',r',q⟩ := hl j y v' e1 e2 e3
        refine ⟨u',r',?_⟩
        rcases q with q | ⟨k,c',e,z'⟩
        · exact .inl q
        · refine .inr ⟨k,c',e,z'.sameBut hs ?_⟩
          rintro rfl
          exact hj (nodup_ix hN e1 (I.ok.inj _ _ _ e hc ▸ hi))
    · by_cases hcc : c' = c
      · subst hcc; exact ⟨_,hc'⟩
      · obtain ⟨w2,z2⟩ := I.cell y c' e
        exact ⟨w2,z2.sameBut hs hcc⟩
    · obtain ⟨e,n,ne,nf,d⟩ := I.pin p hp
      refine ⟨(hs.2 p.1 ?_).trans e,n,ne,nf,d⟩
      intro q
      rw [q,hoc] at e
      have q' : oc = p.2 := Option.some.inj e
      exact d w' (by rw [← q']; exact hocd)
theorem store_ok {M : Model} {A : Around} {E : Value → Shared → Prop} {i : Nat} {x : Str} {v : V} {u : Value} {Q : Unit → Shared → Prop} (I : Inv X pins σ H s) (hN : X.N.Nodup) (hi : X.N[i]? = some x) (hx : Loc X.env.scope x) (r : RelV v u)
    (h : ∀ s',Inv X pins (σ.set i (some v)) H s' → Q () s') (hf : X.fn x = true ∨ X.env.scope.names.lookup x = some .local := by first | exact .inl rfl | exact .inr rfl | assumption) : wpAny M A (storeName X.env x u) Q E s :=
  store_ok2 I hN hi hx r (fun s' I' _ => h s' I') hf
theorem Inv.call' {s' : Shared} {ch : List Addr} (I : Inv X pins σ H s) (ho : s'.os = s.os) (u : Un (frs X.stack) ch H H' s.heap s'.heap) (hok : HOk X.prog X.w H' s'.heap) (hg : AllBare s'.gens)
    (hch : ∀ b ∈ ch,(b ∈ X.ex ∨ X.s₀.heap.objs.size ≤ b) ∧ b ≠ X.env.locals ∧ (∀ x c,X.env.cells.lookup x = some c → c ≠ b) ∧ ∀ p ∈ X.pn ++ pins,p.1 ≠ b) : Inv X pins σ H' s' := by
  obtain ⟨h',g',d',t',o'⟩ := s'
  have e : o' = s.os := ho
  subst e
  exact I.call (g' := g') (t' := t') (d' := d') u hok hg hch
end

abbrev XK := Value → Option Addr → Hp → Prop
abbrev St := List (Option V)
abbrev VK := V → Hp → Prop
abbrev TE := St → Hp → VK → Prop
abbrev TT := St → Hp → (Bool → Hp → Prop) → Prop
abbrev TA := St → Hp → (List V → Hp → Prop) → Prop
structure Ends where
  nx : St → Hp → Prop
  rt : VK
  bk : St → Hp → Prop := fun _ _ => False
  ct : St → Hp → Prop := fun _ _ => False
abbrev TS := Ends → St → Hp → Prop

def EP (X : Cx) (pins : List (Addr × Obj)) (σ : St) (Q : VK) (u : Value) (s' : Shared) : Prop := ∃ v H',Inv X pins σ H' s' ∧ RelV v u ∧ Q v H'
def TP (X : Cx) (pins : List (Addr × Obj)) (σ : St) (Q : Bool → Hp → Prop) (b : Bool) (s' : Shared) : Prop := ∃ H',Inv X pins σ H' s' ∧ Q b H'
def AP (X : Cx) (pins : List (Addr × Obj)) (σ : St) (Q : List V → Hp → Prop) (us : List Value) (s' : Shared) : Prop := ∃ vs H',Inv X pins σ H' s' ∧ Vals vs us ∧ Q vs H'
def SP (X : Cx) (pins : List (Addr × Obj)) (D : Ends) (f : Flow) (s' : Shared) : Prop :=
  match f with
  | .next => ∃ σ' H',Inv X pins σ' H' s' ∧ D.nx σ' H'
  | .brk => ∃ σ' H',Inv X pins σ' H' s' ∧ D.bk σ' H'
  | .cont => ∃ σ' H',Inv X pins σ' H' s' ∧ D.ct σ' H'
  | .ret u => ∃ v σ' H',Inv X pins σ' H' s' ∧ RelV v u ∧ D.rt v H'

def PE (X : Cx) (e : Expr) (t : TE) : Prop :=
  ∀ (pins : List (Addr × Obj)) (s : Shared) (σ : St) (H : Hp) (Q : VK),Inv X pins σ H s → t σ H Q → wpAny (model X.prog X.w) X.A (eval e X.env) (EP X pins σ Q) X.xe s
def PT (X : Cx) (e : Expr) (t : TT) : Prop :=
  ∀ (pins : List (Addr × Obj)) (s : Shared) (σ : St) (H : Hp) (Q : Bool → Hp → Prop),Inv X pins σ H s → t σ H Q → wpAny (model X.prog X.w) X.A (isTrue e X.env (eval e X.env)) (TP X pins σ Q) X.xe s
def PW (X : Cx) (e : Expr) (t : TT) : Prop :=
  ∀ (whole : Sem Value) (pins : List (Addr × Obj)) (s : Shared) (σ : St) (H : Hp) (Q : Bool → Hp → Prop),Inv X pins σ H s → t σ H Q → wpAny (model X.prog X.w) X.A (isTrue e X.env whole) (TP X pins σ Q) X.xe s
theorem PW.pt {X : Cx} {e : Expr} {t : TT} (h : PW X e t) : PT X e t := h _
def PA (X : Cx) (es : List Expr) (t : TA) : Prop :=
  ∀ (pos : Pos) (pins : List (Addr × Obj)) (s : Shared) (σ : St) (H : Hp) (Q : List V → Hp → Prop),Inv X pins σ H s → t σ H Q → wpAny (model X.prog X.w) X.A (spliced (backTo pos (starEach es X.env))) (AP X pins σ Q) X.xe s
def PS (X : Cx) (st : Stmt) (t : TS) : Prop :=
  ∀ (pins : List (Addr × Obj)) (s : Shared) (σ : St) (H : Hp) (D : Ends),Inv X pins σ H s → t D σ H → wpAny (model X.prog X.w) X.A (exec st X.env) (SP X pins D) X.xe s
def PSs (X : Cx) (st : List Stmt) (t : TS) : Prop :=
  ∀ (pins : List (Addr × Obj)) (s : Shared) (σ : St) (H : Hp) (D : Ends),Inv X pins σ H s → t D σ H → wpAny (model X.prog X.w) X.A (execs st X.env) (SP X pins D) X.xe s
theorem thn {α : Type} {t : Sem α} {Q Q' : α → Shared → Prop} {M : Model} {A : Around} {E : Value → Shared → Prop} {s : Shared} (h : wpAny M A t Q E s) (hQ : ∀ a s,Q a s → Q' a s) : wpAny M A t Q' E s := wpAny_mono h hQ fun _ _ x => x
end L2

namespace L2
open PySem PySem.Spec PyProof.Rows
section
variable {X : Cx}

def tVar (i : Nat) : TE := fun σ H Q => ∃ v,σ[i]? = some (some v) ∧ Q v H
def tC (v : V) : TE := fun _ H Q => Q v H
theorem pe_var {i : Nat} {x : Str} {pos : Pos} (hN : X.N[i]? = some x) (hv : Vis X.env.scope x) (hd : (x == ("__debug__" : Str)) = false := by decide) (hcd : (x == ("__classdict__" : Str)) = false := by decide) : PE X (.Name x pos) (tVar i) := by
  intro pins s σ H Q I h
  obtain ⟨v,e,h⟩ := h
  obtain ⟨m,hn,hl⟩ := I.loc
  obtain ⟨u,r,l⟩ := hl i x v hN e hv
  have fin : EP X pins σ Q u s := ⟨v,H,I,r,h⟩
  rcases l with ⟨hk,hm⟩ | ⟨hk,c,hc,hcell⟩
  · exact wpAny_Name (wpAny_loadName_local I.ok.kind hk hn hm fin) hd
  · rcases hk with hk | hk
    · exact wpAny_Name (wpAny_loadName_cell I.ok.kind hk hc hcell fin) hd
    · exact wpAny_Name (wpAny_loadName_free I.ok.kind hk hc hcell fin hcd) hd
theorem pe_int {i j pos} : PE X (.Constant (.int i) j pos) (tC (.int i)) := fun _ _ _ H _ I h => wpAny_Constant_int ⟨.int i,H,I.tok _,⟨_,rfl⟩,h⟩
theorem pe_bl {b j pos} : PE X (.Constant (.bool b) j pos) (tC (.bl b)) := fun _ _ _ H _ I h => Constant_bool ⟨.bl b,H,I,rfl,h⟩
theorem pe_non {j pos} : PE X (.Constant .none j pos) (tC .non) := fun _ _ _ H _ I h => Constant_none ⟨.non,H,I,rfl,h⟩
theorem pe_str {x j pos} : PE X (.Constant (.str x) j pos) (tC (.str x)) := fun _ _ _ H _ I h => Calls.Constant_str ⟨.str x,H,I.tok _,⟨_,rfl⟩,h⟩

def Gl (X : Cx) (x : Str) : Prop := X.env.kindOf x = some .globalImplicit
theorem ld_glob {E : Value → Shared → Prop} {pins : List (Addr × Obj)} {s : Shared} {σ : St} {H : Hp} {x : Str} {u : Value} {pos : Pos} {Q : Value → Shared → Prop} (I : Inv X pins σ H s) (hg : Gl X x) (hm : X.mg x = some u) (h : Q u s)
    (hd : (x == ("__debug__" : Str)) = false := by decide) : wpAny (model X.prog X.w) X.A (eval (.Name x pos) X.env) Q E s :=
  Calls.Name_function_global I.ok.kind hg (Calls.loadGlobal_global (by rw [I.ok.glob]; exact I.mod.glob.keeps I.bk) hm h) hd
theorem ld_blt {E : Value → Shared → Prop} {pins : List (Addr × Obj)} {s : Shared} {σ : St} {H : Hp} {x : Str} {u : Value} {pos : Pos} {Q : Value → Shared → Prop} (I : Inv X pins σ H s) (hg : Gl X x) (hm : X.mg x = none) (hv : bootBuiltins x = some u) (h : Q u s)
    (hn : x ≠ "__name__" := by decide) (hd : (x == ("__debug__" : Str)) = false := by decide) : wpAny (model X.prog X.w) X.A (eval (.Name x pos) X.env) Q E s := by
  obtain ⟨mb,h1,h2⟩ := I.mod.blt
  exact Calls.Name_function_global I.ok.kind hg (Calls.loadGlobal_builtin (by rw [I.ok.glob]; exact I.mod.glob.keeps I.bk) hm (by rw [I.ok.blt]; exact h1.keeps I.bk) ((h2 x hn).trans hv) h) hd
theorem pe_glob {x : Str} {v : V} {u : Value} {pos : Pos} (hg : Gl X x) (hm : X.mg x = some u) (r : RelV v u) (hd : (x == ("__debug__" : Str)) = false := by decide) : PE X (.Name x pos) (tC v) :=
  fun _ _ _ H _ I h => ld_glob I hg hm ⟨v,H,I,r,h⟩ hd
theorem pe_bltn {x : Str} {v : V} {u : Value} {pos : Pos} (hg : Gl X x) (hm : X.mg x = none) (hv : bootBuiltins x = some u) (r : RelV v u) (hn : x ≠ "__name__" := by decide) (hd : (x == ("__debug__" : Str)) = false := by decide) : PE X (.Name x pos) (tC v) :=
  fun _ _ _ H _ I h => ld_blt I hg hm hv ⟨v,H,I,r,h⟩ hn hd

variable {a b : Expr} {ta tb : TE} {pos : Pos}
def PC (X : Cx) (op : CmpOp) (a b : Expr) (t : TE) : Prop :=
  ∀ (pins : List (Addr × Obj)) (s : Shared) (σ : St) (H : Hp) (Q : VK),Inv X pins σ H s → t σ H Q →
    wpAny (model X.prog X.w) X.A (eval a X.env) (fun v s₁ => wpAny (model X.prog X.w) X.A (eval b X.env) (fun u s₂ => wpAny (model X.prog X.w) X.A (compareOp op v u) (EP X pins σ Q) X.xe s₂) X.xe s₁) X.xe s
theorem nobehind (b : Expr) {op : CmpOp} (h : op ≠ .In) (h2 : op ≠ .NotIn) : behindInMarks op b = false := by
  have e1 : (op == CmpOp.In) = false := by cases op <;> first | rfl | exact absurd rfl h
  have e2 : (op == CmpOp.NotIn) = false := by cases op <;> first | rfl | exact absurd rfl h2
  cases b <;> simp [behindInMarks,e1,e2]
def tIsN (ta : TE) : TE := fun σ H Q => ta σ H fun x H1 => Q (.bl (decide (x = .non))) H1
theorem RelV.none_iff {x : V} {v : Value} (r : RelV x v) : (v == Value.none) = decide (x = .non) := by
  cases x with
  | non => cases r; rfl
  | bl _ => cases r; rfl
  | int _ => obtain ⟨t,rfl⟩ := r; rfl
  | str _ => obtain ⟨t,rfl⟩ := r; rfl
  | byt _ => obtain ⟨t,rfl⟩ := r; rfl
  | flt _ => obtain ⟨t,rfl⟩ := r; rfl
  | ref _ => cases r; rfl
  | ty _ => cases r; rfl
theorem pc_isN {j pos'} (ha : PE X a ta) : PC X .Is a (.Constant .none j pos') (tIsN ta) := by
  intro pins s σ H Q I h
  refine thn (ha pins s σ H _ I h) fun v s1 ⟨x,H1,I1,r1,q1⟩ => ?_
  exact Constant_none (is_none_gen ⟨.bl _,H1,I1,by rw [r1.none_iff]; rfl,q1⟩)
def tB (t : TE) : TT := fun σ H Q => t σ H fun x H1 => ∃ c,x = .bl c ∧ Q c H1
theorem pt_cmp {op : CmpOp} {t : TE} (h : PC X op a b t) (h1 : behindInMarks op b = false := by first | exact nobehind _ (by decide) (by decide) | rfl) : PT X (.Compare a [op] [b] pos) (tB t) := by
  intro pins s σ H Q I hw
  refine wpAny_isTrue_Compare1 (thn (h pins s σ H _ I hw) fun v s1 h1 => thn h1 fun u s2 h2 => thn h2 fun c s3 ⟨x,H1,I1,r1,q1⟩ => ?_) h1
  obtain ⟨d,rfl,q⟩ := q1
  cases r1
  exact wpAny_truthy_bool ⟨H1,I1,q⟩
theorem pt_val {e : Expr} {t : TE} (h : PE X e t) (he : ∀ whole,isTrue e X.env whole = (do let v ← whole; standAt e.pos; holding [v] (truthy v)) := by intro _; rfl) : PT X e (tB t) := by
  intro pins s σ H Q I hw
  refine isTrue_plain (thn (h pins s σ H _ I hw) fun v s1 ⟨x,H1,I1,r1,q1⟩ => ?_) (he _)
  obtain ⟨d,rfl,q⟩ := q1
  cases r1
  exact wpAny_truthy_bool ⟨H1,I1,q⟩

variable {tA tB' : TT} {rest : List Expr}
def tAnd (t u : TT) : TT := fun σ H Q => t σ H fun c H1 => if c = true then u σ H1 Q else Q false H1
def tOr (t u : TT) : TT := fun σ H Q => t σ H fun c H1 => if c = true then Q true H1 else u σ H1 Q
def tNot (t : TT) : TT := fun σ H Q => t σ H fun c H1 => Q (!c) H1
theorem pw_and1 (ha : PT X a tA) : PW X (.BoolOp .And [a] pos) tA := by
  intro wh pins s σ H Q I h
  refine isTrue_and (thn (ha pins s σ H Q I h) fun c s1 e => ?_)
  cases c with
  | true => exact isTrue_and_nil e
  | false => exact e
theorem pw_or1 (ha : PT X a tA) : PW X (.BoolOp .Or [a] pos) tA := by
  intro wh pins s σ H Q I h
  refine isTrue_or (thn (ha pins s σ H Q I h) fun c s1 e => ?_)
  cases c with
  | false => exact isTrue_or_nil e
  | true => exact e
theorem pw_and (ha : PT X a tA) (hb : PW X (.BoolOp .And (b :: rest) pos) tB') : PW X (.BoolOp .And (a :: b :: rest) pos) (tAnd tA tB') := by
  intro wh pins s σ H Q I h
  refine isTrue_and (thn (ha pins s σ H _ I h) fun c s1 ⟨H1,I1,q1⟩ => ?_)
  cases c with
  | true => exact hb wh pins s1 σ H1 Q I1 q1
  | false => exact ⟨H1,I1,q1⟩
theorem pw_or (ha : PT X a tA) (hb : PW X (.BoolOp .Or (b :: rest) pos) tB') : PW X (.BoolOp .Or (a :: b :: rest) pos) (tOr tA tB') := by
  intro wh pins s σ H Q I h
  refine isTrue_or (thn (ha pins s σ H _ I h) fun c s1 ⟨H1,I1,q1⟩ => ?_)
  cases c with
  | true => exact ⟨H1,I1,q1⟩
  | false => exact hb wh pins s1 σ H1 Q I1 q1
theorem pt_not (ha : PT X a tA) : PT X (.UnaryOp .Not a pos) (tNot tA) := by
  intro pins s σ H Q I h
  exact isTrue_not (ha pins s σ H (fun c H1 => Q (!c) H1) I h)
def tAndV (ta tb : TE) : TE := fun σ H Q => ta σ H fun x H1 => ∃ c,x = .bl c ∧ if c = true then tb σ H1 Q else Q (.bl false) H1
def tNotV (ta : TE) : TE := fun σ H Q => ta σ H fun x H1 => ∃ c,x = .bl c ∧ Q (.bl (!c)) H1
theorem pe_one {op} {t : TE} (h : PE X a t) : PE X (.BoolOp op [a] pos) t := fun pins s σ H Q I hw => BoolOp_one (h pins s σ H Q I hw)
theorem pe_and (ha : PE X a ta) (hb : PE X (.BoolOp .And (b :: rest) pos) tb) : PE X (.BoolOp .And (a :: b :: rest) pos) (tAndV ta tb) := by
  intro pins s σ H Q I h
  refine BoolOp_and (thn (ha pins s σ H _ I h) fun v s1 ⟨x,H1,I1,r1,q1⟩ => ?_)
  obtain ⟨c,rfl,q1⟩ := q1
  cases r1
  refine wpAny_truthy_bool ?_
  cases c with
  | true => exact hb pins s1 σ H1 Q I1 q1
  | false => exact ⟨.bl false,H1,I1,rfl,q1⟩
theorem pe_not (ha : PE X a ta) : PE X (.UnaryOp .Not a pos) (tNotV ta) := by
  intro pins s σ H Q I h
  refine UnaryOp_ (thn (ha pins s σ H _ I h) fun v s1 ⟨x,H1,I1,r1,q1⟩ => ?_)
  obtain ⟨c,rfl,q1⟩ := q1
  cases r1
  exact not_of (wpAny_truthy_bool ⟨.bl (!c),H1,I1,rfl,q1⟩)
end
end L2

namespace L2
open PySem PySem.Spec PyProof.Rows

def SqL (K : PySem.W.Frag) (H : Hp) (a : Addr) (xs : List V) : Prop :=
  Rd H a (.lst xs) ∨
    ∃ (o : Obj) (its : Array Value) (n : Nat),K.lookup a = some o ∧ o.cls = .type "list" ∧ o.dict = none ∧ o.data = .seq its n ∧ its.size ≤ sizeLine ∧ Vals xs its.toList
def SqT (K : PySem.W.Frag) (H : Hp) (a : Addr) (xs : List V) : Prop :=
  Rd H a (.tup xs) ∨
    ∃ (o : Obj) (its : Array Value) (n : Nat),K.lookup a = some o ∧ o.cls = .type "tuple" ∧ o.data = .seq its n ∧ its.size ≤ sizeLine ∧ Vals xs its.toList
def absV : Value → Option V
  | .none => some .non
  | .bool b => some (.bl b)
  | .int i _ => some (.int i)
  | .str x _ => some (.str x)
  | .bytes b _ => some (.byt b)
  | .float b _ => some (.flt b)
  | .ref a => some (.ref a)
  | .type n => some (.ty n)
  | _ => none
theorem RelV.abs {x : V} {u : Value} (r : RelV x u) : absV u = some x := by
  cases x with
  | non => cases r; rfl
  | bl _ => cases r; rfl
  | int _ => obtain ⟨t,rfl⟩ := r; rfl
  | str _ => obtain ⟨t,rfl⟩ := r; rfl
  | byt _ => obtain ⟨t,rfl⟩ := r; rfl
  | flt _ => obtain ⟨t,rfl⟩ := r; rfl
  | ref _ => cases r; rfl
  | ty _ => cases r; rfl
theorem RelV.inj {x y : V} {u : Value} (r : RelV x u) (q : RelV y u) : x = y := Option.some.inj (r.abs.symm.trans q.abs)
theorem Vals.inj : ∀ {xs ys : List V} {us : List Value},Vals xs us → Vals ys us → xs = ys
  | _,_,_,.nil,.nil => rfl
  | _,_,_,.cons r t,.cons r' t' => by rw [r.inj r',Vals.inj t t']
section
variable {X : Cx} {pins : List (Addr × Obj)} {σ : St} {H : Hp} {s : Shared} {a : Addr} {xs ys : List V}
theorem SqL.of {K : PySem.W.Frag} (h : H a = some (.lst xs)) : SqL K H a xs := .inl (.inl h)
theorem SqT.of {K : PySem.W.Frag} (h : H a = some (.tup xs)) : SqT K H a xs := .inl (.inl h)
theorem Inv.list (I : Inv X pins σ H s) (h : SqL X.K H a xs) : ∃ its : List Value,Vals xs its ∧ PlainL s.heap a its.toArray ∧ xs.length ≤ sizeLine := by
  rcases h with h | ⟨o,its,n,hk,hc,hd,hs,hz,r⟩
  · obtain ⟨z,its,n,r,e⟩ := h.ok I.hok
    exact ⟨its,r,⟨_,n,e,rfl,rfl,rfl⟩,z⟩
  · refine ⟨its.toList,r,⟨o,n,I.kIn a o hk,hc,hd,by simpa using hs⟩,?_⟩
    have e := r.length
    simp only [Array.length_toList] at e
    omega
theorem Inv.tuple (I : Inv X pins σ H s) (h : SqT X.K H a xs) : ∃ its : List Value,Vals xs its ∧ IsTup s.heap a its.toArray ∧ xs.length ≤ sizeLine := by
  rcases h with h | ⟨o,its,n,hk,hc,hs,hz,r⟩
  · obtain ⟨z,its,r,p⟩ := h.ok I.hok
    exact ⟨its,r,p,z⟩
  · refine ⟨its.toList,r,⟨o,I.kIn a o hk,hc,n,by simpa using hs⟩,?_⟩
    have e := r.length
    simp only [Array.length_toList] at e
    omega
theorem Inv.list_inj (I : Inv X pins σ H s) (h : SqL X.K H a xs) (h' : SqL X.K H a ys) : xs = ys := by
  obtain ⟨its,r,⟨o,n,e,_,_,d⟩,_⟩ := I.list h
  obtain ⟨its',r',⟨o',n',e',_,_,d'⟩,_⟩ := I.list h'
  rw [e] at e'; cases e'
  rw [d] at d'
  injection d' with d1 _
  have : its = its' := by simpa using congrArg Array.toList d1
  subst this
  exact r.inj r'
theorem Inv.tuple_inj (I : Inv X pins σ H s) (h : SqT X.K H a xs) (h' : SqT X.K H a ys) : xs = ys := by
  obtain ⟨its,r,⟨o,e,_,n,d⟩,_⟩ := I.tuple h
  obtain ⟨its',r',⟨o',e',_,n',d'⟩,_⟩ := I.tuple h'
  rw [e] at e'; cases e'
  rw [d] at d'
  injection d' with d1 _
  have : its = its' := by simpa using congrArg Array.toList d1
  subst this
  exact r.inj r'
end

abbrev Cx.wish (X : Cx) (E : Value → Shared → Prop) : Cx := { X with xe := E }
abbrev Cx.nox (X : Cx) : Cx := X.wish fun _ _ => False
theorem Cx.Ok.wish {X : Cx} (ok : X.Ok) (E : Value → Shared → Prop) : (X.wish E).Ok :=
  ⟨ok.mod,ok.kind,ok.glob,ok.blt,ok.above,ok.inj,ok.has,ok.cab,ok.hd,ok.frames,ok.stk,ok.exf,ok.bs,ok.bsz,ok.noex,ok.exfs,ok.funs,ok.frf⟩
theorem Cx.Ok.unwish {X : Cx} {E : Value → Shared → Prop} (ok : (X.wish E).Ok) : X.Ok :=
  ⟨ok.mod,ok.kind,ok.glob,ok.blt,ok.above,ok.inj,ok.has,ok.cab,ok.hd,ok.frames,ok.stk,ok.exf,ok.bs,ok.bsz,ok.noex,ok.exfs,ok.funs,ok.frf⟩
section
variable {X : Cx} {pins : List (Addr × Obj)} {σ : St} {H : Hp} {s : Shared} {E : Value → Shared → Prop}
theorem Inv.wish (I : Inv X pins σ H s) (E : Value → Shared → Prop) : Inv (X.wish E) pins σ H s := ⟨I.ok.wish E,I.os,I.bare,I.base,I.loc,I.cell,I.free,I.freeC,I.pin,I.hok,I.len⟩
theorem Inv.unwish (I : Inv (X.wish E) pins σ H s) : Inv X pins σ H s := ⟨I.ok.unwish,I.os,I.bare,I.base,I.loc,I.cell,I.free,I.freeC,I.pin,I.hok,I.len⟩
theorem SP.unwish {D : Ends} {f : Flow} {s' : Shared} (h : SP (X.wish E) pins D f s') : SP X pins D f s' := by
  cases f with
  | next => obtain ⟨σ',H',I,q⟩ := h; exact ⟨σ',H',I.unwish,q⟩
  | brk => obtain ⟨σ',H',I,q⟩ := h; exact ⟨σ',H',I.unwish,q⟩
  | cont => obtain ⟨σ',H',I,q⟩ := h; exact ⟨σ',H',I.unwish,q⟩
  | ret u => obtain ⟨v,σ',H',I,r,q⟩ := h; exact ⟨v,σ',H',I.unwish,r,q⟩
theorem PSs.nox {st : List Stmt} {t : TS} (h : PSs X.nox st t) : PSs X st t := fun pins s σ H D I hw =>
  wpAny_mono (h pins s σ H D (I.wish _) hw) (fun _ _ q => q.unwish) fun _ _ z => False.elim z
end

section
variable {X : Cx} {st : Stmt} {rest : List Stmt} {t u : TS} {e : Expr} {te : TE} {pos : Pos}
def tNext : TS := fun D σ H => D.nx σ H
def tSeq (t u : TS) : TS := fun D σ H => t { D with nx := u D } σ H
theorem pss_nil : PSs X [] tNext := fun _ _ σ H _ I h => wpAny_execs_nil ⟨σ,H,I,h⟩
theorem pss_cons (h1 : PS X st t) (h2 : PSs X rest u) : PSs X (st :: rest) (tSeq t u) := by
  intro pins s σ H D I h
  refine wpAny_execs_cons (thn (h1 pins s σ H { D with nx := u D } I h) fun f s1 q => ?_)
  cases f with
  | next =>
    obtain ⟨σ',H',I',q⟩ := q
    exact h2 pins s1 σ' H' D I' q
  | ret v => exact q
  | brk => exact q
  | cont => exact q
theorem pss_one (h1 : PS X st t) : PSs X [st] t := by
  intro pins s σ H D I h
  refine wpAny_execs_cons (thn (h1 pins s σ H D I h) fun f s1 q => ?_)
  cases f with
  | next => exact wpAny_execs_nil q
  | ret v => exact q
  | brk => exact q
  | cont => exact q
theorem Inv.quiet {pins : List (Addr × Obj)} {σ : St} {H : Hp} {s : Shared} (I : Inv X pins σ H s) : interactive X.env = false := by simp [interactive,I.ok.kind]
def tDrop (te : TE) : TS := fun D σ H => te σ H fun _ H1 => D.nx σ H1
theorem ps_expr (he : PE X e te) (hs : swapsWith e none pos.line X.env = pure false := by rfl) : PS X (.Expr e pos) (tDrop te) := by
  intro pins s σ H D I h
  exact wpAny_Expr_any (thn (he pins s σ H _ I h) fun v s1 ⟨x,H1,I1,r1,q1⟩ => ⟨σ,H1,I1,q1⟩) I.quiet hs
def tRet (te : TE) : TS := fun D σ H => te σ H D.rt
theorem ps_ret (he : PE X e te) : PS X (.Return (some e) pos) (tRet te) := by
  intro pins s σ H D I h
  exact wpAny_Return_some (thn (he pins s σ H _ I h) fun v s1 ⟨x,H1,I1,r1,q1⟩ => ⟨x,σ,H1,I1,r1,q1⟩)
def tIfS (c : TT) (t u : TS) : TS := fun D σ H => c σ H fun b H1 => if b = true then t D σ H1 else u D σ H1
theorem ps_if {c : Expr} {a b : List Stmt} {tc : TT} (hc : PT X c tc) (ha : PSs X a t) (hb : PSs X b u) : PS X (.If c a b pos) (tIfS tc t u) := by
  intro pins s σ H D I h
  refine wpAny_If (thn (hc pins s σ H _ I h) fun d s1 ⟨H1,I1,q1⟩ => ?_)
  cases d with
  | true => exact ha pins s1 σ H1 D I1 q1
  | false => exact hb pins s1 σ H1 D I1 q1
def tNever : TS := fun _ _ _ => False
theorem pss_never {sts : List Stmt} : PSs X sts tNever := fun _ _ _ _ _ _ h => h.elim
end

abbrev TG := V → St → Hp → (St → Hp → Prop) → Prop
abbrev TGs := List V → St → Hp → (St → Hp → Prop) → Prop
def PG (X : Cx) (target : Expr) (t : TG) : Prop :=
  ∀ (pins : List (Addr × Obj)) (s : Shared) (σ : St) (H : Hp) (v : V) (u : Value) (Q : St → Hp → Prop),Inv X pins σ H s → RelV v u → t v σ H Q →
    wpAny (model X.prog X.w) X.A (assign target X.env u) (fun _ s' => ∃ σ' H',Inv X pins σ' H' s' ∧ Q σ' H') X.xe s
def PGs (X : Cx) (ts : List Expr) (t : TGs) : Prop :=
  ∀ (pins : List (Addr × Obj)) (s : Shared) (σ : St) (H : Hp) (vs : List V) (us : List Value) (Q : St → Hp → Prop),Inv X pins σ H s → Vals vs us → t vs σ H Q →
    wpAny (model X.prog X.w) X.A (assignInOrder ((assignEach ts X.env).map (·.2)) us) (fun _ s' => ∃ σ' H',Inv X pins σ' H' s' ∧ Q σ' H') X.xe s
abbrev TSet := V → V → V → Hp → (Hp → Prop) → Prop
def PSet (X : Cx) (t : TSet) : Prop :=
  ∀ (pins : List (Addr × Obj)) (s : Shared) (σ : St) (H : Hp) (o i v : V) (ov iv u : Value) (Q : Hp → Prop),Inv X pins σ H s → RelV o ov → RelV i iv → RelV v u → t o i v H Q →
    wpAny (model X.prog X.w) X.A (setItem ov iv u) (fun _ s' => ∃ H',Inv X pins σ H' s' ∧ Q H') X.xe s
abbrev TIp := V → V → Hp → VK → Prop
def PIp (X : Cx) (op : Operator) (t : TIp) : Prop :=
  ∀ (pins : List (Addr × Obj)) (s : Shared) (σ : St) (H : Hp) (x y : V) (v u : Value) (Q : VK),Inv X pins σ H s → RelV x v → RelV y u → t x y H Q →
    wpAny (model X.prog X.w) X.A (inplaceOp op v u) (EP X pins σ Q) X.xe s
section
variable {X : Cx} {pos : Pos}
def gName (i : Nat) : TG := fun v σ H Q => Q (σ.set i (some v)) H
theorem pg_name {i : Nat} {x : Str} (hN : X.N.Nodup) (hi : X.N[i]? = some x) (hx : Loc X.env.scope x) (hf : X.fn x = true ∨ X.env.scope.names.lookup x = some .local := by first | exact .inl rfl | exact .inr rfl | assumption) : PG X (.Name x pos) (gName i) := by
  intro pins s σ H v u Q I r h
  exact wpAny_assign_Name (store_ok I hN hi hx r (fun s' I' => ⟨_,H,I',h⟩) hf)
def gNil : TGs := fun vs σ H Q => vs = [] ∧ Q σ H
def gCons (t : TG) (u : TGs) : TGs := fun vs σ H Q => ∃ v r,vs = v :: r ∧ t v σ H fun σ' H' => u r σ' H' Q
theorem pgs_nil : PGs X [] gNil := by
  intro pins s σ H vs us Q I r h
  obtain ⟨e,h⟩ := h
  subst e
  cases r
  exact assignInOrder_nil ⟨σ,H,I,h⟩
theorem pgs_cons {e : Expr} {es : List Expr} {t : TG} {u : TGs} (h1 : PG X e t) (h2 : PGs X es u)
    (hs : (assignEach (e :: es) X.env).map (·.2) = assign e X.env :: (assignEach es X.env).map (·.2) := by rfl) : PGs X (e :: es) (gCons t u) := by
  intro pins s σ H vs us Q I r h
  obtain ⟨v,vr,e1,h⟩ := h
  subst e1
  cases r with
  | cons r rr =>
    rw [hs]
    refine assignInOrder_cons (thn (h1 pins s σ H _ _ _ I r h) fun _ s1 ⟨σ1,H1,I1,q1⟩ => ?_)
    exact h2 pins s1 σ1 H1 _ _ Q I1 rr q1
def gTup (K : PySem.W.Frag) (n : Nat) (t : TGs) : TG := fun v σ H Q => ∃ a xs,v = .ref a ∧ SqT K H a xs ∧ xs.length = n ∧ t xs σ H Q
theorem pg_tup {es : List Expr} {k : Nat} {t : TGs} {n : Nat} (hc : X.calm = true) (h : PGs X es t)
    (hn : (assignEach es X.env).length = n := by rfl) (hst : (assignEach es X.env).findIdx? (·.1) = none := by rfl) : PG X (.Tuple es k pos) (gTup X.K n t) := by
  intro pins s σ H v u Q I r hw
  obtain ⟨a,xs,e1,hq,hl,hw⟩ := hw
  subst e1
  cases r
  obtain ⟨its,rv,ht,hz⟩ := I.tuple hq
  refine assign_Tuple_tuple (I.ok.hd hc) ht (by simp [hn,← hl,rv.length]) hst fun h' hx => ?_
  have I1 : Inv X pins σ H { s with heap := h' } := I.kept (t' := s.toks) fun b o e => hx b o (Nat.ne_of_lt (Heap.lt_size e)) e
  exact h pins _ σ H xs _ Q I1 (by simpa using rv) hw
def gSub (to ti : TE) (t : TSet) : TG := fun v σ H Q => to σ H fun o H1 => ti σ H1 fun i H2 => t o i v H2 fun H3 => Q σ H3
theorem pg_sub {o i : Expr} {to ti : TE} {t : TSet} (ho : PE X o to) (hi : PE X i ti) (hs : PSet X t)
    (ha : ∀ v,assign (.Subscript o i pos) X.env v = (do
      let ov ← holding [v] (eval o X.env)
      let iv ← holding [v,ov] (eval i X.env)
      standAt pos
      holding [v,ov,iv] (setItem ov iv v)
      release [v,ov,iv] []) := by intro _; rfl) : PG X (.Subscript o i pos) (gSub to ti t) := by
  intro pins s σ H v u Q I r h
  rw [ha]
  refine wpAny_bind (wpAny_holding (thn (ho pins s σ H _ I h) fun ov s1 ⟨x,H1,I1,r1,q1⟩ => ?_))
  refine wpAny_bind (wpAny_holding (thn (hi pins s1 σ H1 _ I1 q1) fun iv s2 ⟨y,H2,I2,r2,q2⟩ => ?_))
  refine wpAny_bind (wpAny_standAt (wpAny_bind (wpAny_holding (thn (hs pins s2 σ H2 x y v ov iv u _ I2 r1 r2 r q2) fun _ s3 ⟨H3,I3,q3⟩ => ?_))))
  exact wpAny_release ⟨σ,H3,I3,q3⟩
def tAsg (te : TE) (g : TG) : TS := fun D σ H => te σ H fun x H1 => g x σ H1 D.nx
theorem ps_asg {tg e : Expr} {te : TE} {g : TG} (he : PE X e te) (hg : PG X tg g) (hs : swapsWithSole [tg] e pos.line X.env = pure false := by rfl) (hw : swappedStores [tg] e X.env = pure none := by rfl)
    (h1 : (assignEach [tg] X.env).map (·.2) = [assign tg X.env] := by rfl) : PS X (.Assign [tg] e pos) (tAsg te g) := by
  intro pins s σ H D I h
  refine wpAny_Assign_stores (thn (he pins s σ H _ I h) fun v s1 ⟨x,H1,I1,r1,q1⟩ => ?_) hs hw
  rw [h1]
  exact thn (hg pins s1 σ H1 x v _ I1 r1 q1) fun _ s2 q => q
theorem ps_set {i : Nat} {x : Str} {e : Expr} {te : TE} {pos' : Pos} (hN : X.N.Nodup) (hi : X.N[i]? = some x) (hx : Loc X.env.scope x) (he : PE X e te) (hs : swapsWith e (some (.Name x pos')) pos.line X.env = pure false := by rfl) (hf : X.fn x = true ∨ X.env.scope.names.lookup x = some .local := by first | exact .inl rfl | exact .inr rfl | assumption) :
    PS X (.Assign [.Name x pos'] e pos) (tAsg te (gName i)) := by
  intro pins s σ H D I h
  refine wpAny_Assign_Name (thn (he pins s σ H _ I h) fun v s1 ⟨y,H1,I1,r1,q1⟩ => ?_) hs
  exact store_ok I1 hN hi hx r1 (fun s2 I2 => ⟨_,H1,I2,q1⟩) hf
def tAug (i : Nat) (te : TE) (ti : TIp) : TS := fun D σ H => ∃ x,σ[i]? = some (some x) ∧ te σ H fun y H1 => ti x y H1 fun z H2 => D.nx (σ.set i (some z)) H2
theorem ps_aug {i : Nat} {x : Str} {e : Expr} {te : TE} {op : Operator} {ti : TIp} {pos' : Pos} (hN : X.N.Nodup) (hi : X.N[i]? = some x) (hx : Loc X.env.scope x) (he : PE X e te) (ho : PIp X op ti) (hf : X.fn x = true ∨ X.env.scope.names.lookup x = some .local := by first | exact .inl rfl | exact .inr rfl | assumption) :
    PS X (.AugAssign (.Name x pos') op e pos) (tAug i te ti) := by
  intro pins s σ H D I h
  obtain ⟨v,e1,h⟩ := h
  obtain ⟨m,hn,hl⟩ := I.loc
  have vis : Vis X.env.scope x := by rcases hx with k | k; exact .inl k; exact .inr (.inl k)
  obtain ⟨u,r,l⟩ := hl i x v hi e1 vis
  refine wpAny_AugAssign_Name ?_
  have go : wpAny (model X.prog X.w) X.A (eval e X.env) (fun w s₂ => wpAny (model X.prog X.w) X.A (inplaceOp op u w) (fun r s₃ => wpAny (model X.prog X.w) X.A (storeName X.env x r) (fun _ => SP X pins D .next) X.xe s₃) X.xe s₂) X.xe s := by
    refine thn (he pins s σ H _ I h) fun w s1 ⟨y,H1,I1,r1,q1⟩ => ?_
    refine thn (ho pins s1 σ H1 v y u w _ I1 r r1 q1) fun z s2 ⟨zv,H2,I2,r2,q2⟩ => ?_
    exact store_ok I2 hN hi hx r2 (fun s3 I3 => ⟨_,H2,I3,q2⟩) hf
  rcases l with ⟨hk,hm⟩ | ⟨hk,c,hc,hcell⟩
  · exact wpAny_loadName_local I.ok.kind hk hn hm go
  · rcases hk with hk | hk
    · exact wpAny_loadName_cell I.ok.kind hk hc hcell go
    · rcases hx with k | k
      · have : X.env.scope.names.lookup x = some .free := hk
        rw [k] at this; cases this
      · have : X.env.scope.names.lookup x = some .free := hk
        rw [k] at this; cases this
def tAugS (to ti te : TE) (tget : V → V → Hp → VK → Prop) (tip : TIp) (tset : TSet) : TS := fun D σ H => to σ H fun o H1 => ti σ H1 fun i H2 => tget o i H2 fun x H3 => te σ H3 fun y H4 => tip x y H4 fun z H5 => tset o i z H5 fun H6 => D.nx σ H6
def PGet (X : Cx) (t : V → V → Hp → VK → Prop) : Prop :=
  ∀ (pins : List (Addr × Obj)) (s : Shared) (σ : St) (H : Hp) (o i : V) (ov iv : Value) (Q : VK),Inv X pins σ H s → RelV o ov → RelV i iv → t o i H Q →
    wpAny (model X.prog X.w) X.A (getItem ov iv) (EP X pins σ Q) X.xe s
theorem ps_augS {o i e : Expr} {to ti te : TE} {tget : V → V → Hp → VK → Prop} {tip : TIp} {tset : TSet} {op : Operator} {tpos : Pos} (ho : PE X o to) (hi : PE X i ti) (hg : PGet X tget) (he : PE X e te) (hp : PIp X op tip) (hs : PSet X tset)
    (ha : ∀ ov iv new,augStore i ov iv new = (do holding [new,ov,iv] (setItem ov iv new); release [new,ov,iv] []; pure .next) := by intros; rfl) : PS X (.AugAssign (.Subscript o i tpos) op e pos) (tAugS to ti te tget tip tset) := by
  intro pins s σ H D I h
  refine wpAny_AugAssign_SubscriptAny (thn (ho pins s σ H _ I h) fun ov s1 ⟨x1,H1,I1,r1,q1⟩ => ?_) ha
  refine thn (hi pins s1 σ H1 _ I1 q1) fun iv s2 ⟨x2,H2,I2,r2,q2⟩ => ?_
  refine thn (hg pins s2 σ H2 x1 x2 ov iv _ I2 r1 r2 q2) fun old s3 ⟨x3,H3,I3,r3,q3⟩ => ?_
  refine thn (he pins s3 σ H3 _ I3 q3) fun v s4 ⟨x4,H4,I4,r4,q4⟩ => ?_
  refine thn (hp pins s4 σ H4 x3 x4 old v _ I4 r3 r4 q4) fun new s5 ⟨x5,H5,I5,r5,q5⟩ => ?_
  exact thn (hs pins s5 σ H5 x1 x2 x5 ov iv new _ I5 r1 r2 r5 q5) fun _ s6 ⟨H6,I6,q6⟩ => ⟨σ,H6,I6,q6⟩
def ipI (f : Int → Int → Int) : TIp := fun x y H Q => ∃ i j,x = .int i ∧ y = .int j ∧ Q (.int (f i j)) H
theorem ip_add : PIp X .Add (ipI fun i j => i + j) := by
  intro pins s σ H x y v u Q I r1 r2 h
  obtain ⟨i,j,e1,e2,q⟩ := h
  subst e1; subst e2
  obtain ⟨t,rfl⟩ := r1
  obtain ⟨t',rfl⟩ := r2
  exact iadd_int ⟨.int _,H,I.tok _,⟨_,rfl⟩,q⟩
theorem ip_sub : PIp X .Sub (ipI fun i j => i - j) := by
  intro pins s σ H x y v u Q I r1 r2 h
  obtain ⟨i,j,e1,e2,q⟩ := h
  subst e1; subst e2
  obtain ⟨t,rfl⟩ := r1
  obtain ⟨t',rfl⟩ := r2
  exact isub_int ⟨.int _,H,I.tok _,⟨_,rfl⟩,q⟩
end

section
variable {X : Cx} {pos : Pos}
def tWhile (c : TT) (tb : TS) : TS := fun D σ H => ∃ W : Nat → St → Hp → Prop,(∃ m,W m σ H) ∧ ∀ m σ H,W m σ H →
  c σ H fun b H1 => if b = true then ∃ N : St → Hp → Prop,(∀ σ' H',N σ' H' → ∃ m',m' < m ∧ W m' σ' H') ∧ tb { D with nx := N,ct := N,bk := D.nx } σ H1 else D.nx σ H1
theorem ps_while {c : Expr} {body : List Stmt} {tc : TT} {tb : TS} (hp : PassesOwn (model X.prog X.w) X.A X.env X.xe) (hc : PT X c tc) (hb : PSs X body tb) : PS X (.While c body [] pos) (tWhile tc tb) := by
  intro pins s σ H D I h
  obtain ⟨W,⟨m0,w0⟩,turn⟩ := h
  refine wpAny_While (codeAny_whileLoop (fun n s' => ∃ σ' H',Inv X pins σ' H' s' ∧ W n σ' H') ?_ m0 ⟨σ,H,I,w0⟩)
  rintro n s1 ⟨σ1,H1,I1,w1⟩
  refine wpAny_passesOwn hp (thn (hc pins s1 σ1 H1 _ I1 (turn n σ1 H1 w1)) fun b s2 ⟨H2,I2,q2⟩ => ?_)
  cases b with
  | true =>
    obtain ⟨N,hN,q2⟩ := q2
    rw [if_pos rfl]
    refine wpAny_passesOwn hp (thn (hb pins s2 σ1 H2 _ I2 q2) fun f s3 q3 => ?_)
    cases f with
    | next =>
      obtain ⟨σ3,H3,I3,n3⟩ := q3
      obtain ⟨m',hm,w3⟩ := hN σ3 H3 n3
      exact ⟨m',hm,σ3,H3,I3,w3⟩
    | cont =>
      obtain ⟨σ3,H3,I3,n3⟩ := q3
      obtain ⟨m',hm,w3⟩ := hN σ3 H3 n3
      exact ⟨m',hm,σ3,H3,I3,w3⟩
    | brk => exact q3
    | ret v => exact q3
  | false =>
    rw [if_neg Bool.false_ne_true]
    exact wpAny_execs_nil ⟨σ1,H2,I2,q2⟩
end

structure It where
  go : Nat → Hp → Prop
  yld : Nat → Hp → V → Hp → Prop
  stop : Nat → Hp → Prop
def FpOk (X : Cx) (pins : List (Addr × Obj)) (H : Hp) (b : Addr) : Prop :=
  H b = none ∧ b ≠ X.env.locals ∧ b ∉ X.fs ∧ (b ∈ X.ex ∨ X.s₀.heap.objs.size ≤ b) ∧ (∀ x c,X.env.cells.lookup x = some c → c ≠ b) ∧ ∀ p ∈ X.pn ++ pins,p.1 ≠ b
theorem Inv.fpOk {X : Cx} {pins : List (Addr × Obj)} {σ : St} {H H' : Hp} {s : Shared} {b : Addr} (I : Inv X pins σ H s) (hb : s.heap.objs.size ≤ b) (hn : H' b = none) : FpOk X pins H' b := by
  refine ⟨hn,Nat.ne_of_gt (Nat.lt_of_lt_of_le I.lt hb),I.nofs hb,.inr (Nat.le_trans I.sz hb),fun x c e z => ?_,fun p hp z => ?_⟩
  · obtain ⟨v,q⟩ := I.cell x c e
    exact absurd (Nat.lt_of_lt_of_le q.lt (by rw [z]; exact hb)) (Nat.lt_irrefl _)
  · exact absurd (Nat.lt_of_lt_of_le (Heap.lt_size (I.pin p hp).1) (by rw [z]; exact hb)) (Nat.lt_irrefl _)
structure Turn (P : Program) (w : World) (K : PySem.W.Frag) (tg : Expr) (J : It) (fp : List Addr) (it : Addr) (tn : Nat → Heap → Prop) : Prop where
  mem : it ∈ fp
  obj : ∀ i h,tn i h → ∀ b ∈ fp,∃ o,h.get? b = some o ∧ ∀ v,o.data ≠ .cell v
  keep : ∀ i h h',tn i h → (∀ b ∈ fp,∀ o,h.get? b = some o → h'.get? b = some o) → tn i h'
  item : ∀ (X : Cx),X.prog = P → X.w = w → X.K = K → X.calm = true → ∀ (i : Nat) (pins : List (Addr × Obj)) (s : Shared) (σ : St) (H : Hp) (E : Value → Shared → Prop),Inv X pins σ H s → (∀ b ∈ fp,FpOk X pins H b) → tn i s.heap → J.go i H →
    wpAny (model P w) X.A (pyNext (.ref it)) (fun r s1 => ∃ u,r = some u ∧
      wpAny (model P w) X.A (letOwnedTupleGo tg (.ref it) u) (fun _ s2 => ∃ x H',Inv X pins σ H' s2 ∧ RelV x u ∧ J.yld i H x H' ∧ tn (i + 1) s2.heap ∧ ∀ b ∈ fp,H' b = none) E s1) E s
  done : ∀ (X : Cx),X.prog = P → X.w = w → X.K = K → X.calm = true → ∀ (i : Nat) (pins : List (Addr × Obj)) (s : Shared) (σ : St) (H : Hp) (E : Value → Shared → Prop),Inv X pins σ H s → (∀ b ∈ fp,FpOk X pins H b) → tn i s.heap → J.stop i H →
    wpAny (model P w) X.A (pyNext (.ref it)) (fun r s1 => r = none ∧ Inv X pins σ H s1) E s
  self : ∀ (A : Around) (i : Nat) (s : Shared) (Q : Value → Shared → Prop) (E : Value → Shared → Prop),tn i s.heap → Q (.ref it) s → wpAny (model P w) A (pyIter (.ref it)) Q E s
abbrev TI := St → Hp → (It → Hp → Prop) → Prop
def PIE (X : Cx) (pins : List (Addr × Obj)) (σ : St) (tg : Expr) (R : It → Hp → Prop) (itv : Value) (s2 : Shared) : Prop :=
  ∃ (it : Addr) (fp : List Addr) (tn : Nat → Heap → Prop) (J : It) (H' : Hp),itv = .ref it ∧ Inv X pins σ H' s2 ∧ Turn X.prog X.w X.K tg J fp it tn ∧ tn 0 s2.heap ∧ (∀ b ∈ fp,FpOk X pins H' b) ∧ R J H'
def PI (X : Cx) (tg iter : Expr) (wi : TI) : Prop :=
  ∀ (pins : List (Addr × Obj)) (s : Shared) (σ : St) (H : Hp) (R : It → Hp → Prop),Inv X pins σ H s → wi σ H R →
    wpAny (model X.prog X.w) X.A (eval iter X.env) (fun v s1 => wpAny (model X.prog X.w) X.A (pyIter v) (PIE X pins σ tg R) X.xe s1) X.xe s

theorem go_of {M : Model} {A : Around} {E : Value → Shared → Prop} {s : Shared} {tg : Expr} {it : Addr} {u : Value} {o : Obj} {n : String} {vs : Array Value} {Q : Unit → Shared → Prop} (ho : s.heap.get? it = some o) (hc : o.cls = .type n) (hd : o.data = .fields vs)
    (hn : ["enumerate", "zip", "dict_itemiterator", "dict_reverseitemiterator", "odict_iterator", "itertools.zip_longest", "itertools.pairwise"].contains n = false) (hQ : Q () s) : wpAny M A (letOwnedTupleGo tg (.ref it) u) Q E s := by
  unfold letOwnedTupleGo
  cases tg <;> first
    | exact wpAny_pure hQ
    | (cases u <;> first
        | exact wpAny_pure hQ
        | (refine wpAny_bind (wpAny_load ho ?_)
           rw [hc,hd]
           show wpAny M A (if (["enumerate", "zip", "dict_itemiterator", "dict_reverseitemiterator", "odict_iterator", "itertools.zip_longest", "itertools.pairwise"].contains n && vs[0]? == some (rawInt _)) = true then _ else _) Q E s
           rw [if_neg (by intro h; rw [hn,Bool.false_and] at h; cases h)]
           exact wpAny_pure hQ))

def Itl (K : PySem.W.Frag) (a : Addr) : It :=
  ⟨fun i H => ∃ xs x,SqL K H a xs ∧ xs[i]? = some x,fun i H x H' => H' = H ∧ ∀ xs,SqL K H a xs → xs[i]? = some x,fun i H => ∃ xs,SqL K H a xs ∧ xs.length ≤ i⟩
def Itt (K : PySem.W.Frag) (a : Addr) : It :=
  ⟨fun i H => ∃ xs x,SqT K H a xs ∧ xs[i]? = some x,fun i H x H' => H' = H ∧ ∀ xs,SqT K H a xs → xs[i]? = some x,fun i H => ∃ xs,SqT K H a xs ∧ xs.length ≤ i⟩
def Itr (lo : Int) (n : Nat) : It := ⟨fun i _ => i < n,fun i H x H' => H' = H ∧ x = .int (lo + i),fun i _ => n ≤ i⟩
theorem turn_list {P : Program} {w : World} {K : PySem.W.Frag} {tg : Expr} (a it : Addr) : Turn P w K tg (Itl K a) [it] it (fun i h => h.IsListIter it a i) where
  mem := by simp
  obj := fun i h st b hb => by
    have e : b = it := by simpa using hb
    subst e
    obtain ⟨o,e,c,d⟩ := st
    exact ⟨o,e,fun v z => by rw [d] at z; cases z⟩
  keep := fun i h h' st k => st.at fun o e => k it (by simp) o e
  item := by
    intro X hP hw hK hc i pins s σ H E I hf st hg
    subst hP hw hK
    obtain ⟨xs,x,hq,hx⟩ := hg
    obtain ⟨its,rv,p,hz⟩ := I.list hq
    obtain ⟨u,hu,ru⟩ := rv.get hx
    obtain ⟨f0,f1,f2,f3,f4,f5⟩ := hf it (by simp)
    refine wpAny_pyNext_list_item st p.isList (x := u) (by simpa using hu) fun h' st' sb => ?_
    have I1 : Inv X pins σ H { s with heap := h' } := I.turned (t' := s.toks) (fun b o hb e => (sb.2 b hb).trans e) f0 f1 f3 f4 f5
    obtain ⟨o,e,c,d⟩ := id st'
    exact ⟨u,rfl,go_of (s := { s with heap := h' }) e c d (by decide) ⟨x,H,I1,ru,⟨rfl,fun ys hy => by rw [I.list_inj hy hq]; exact hx⟩,st',fun b hb => (hf b hb).1⟩⟩
  done := by
    intro X hP hw hK hc i pins s σ H E I hf st hg
    subst hP hw hK
    obtain ⟨xs,hq,hx⟩ := hg
    obtain ⟨its,rv,p,hz⟩ := I.list hq
    obtain ⟨f0,f1,f2,f3,f4,f5⟩ := hf it (by simp)
    have hl := rv.length
    exact wpAny_pyNext_list_end (I.ok.hd hc) st p.isList (by simp; omega) fun h' eb => ⟨rfl,I.turned (t' := s.toks) (fun b o hb e => eb b o hb e) f0 f1 f3 f4 f5⟩
  self := fun _ _ _ _ _ st h => wpAny_pyIter_listiter st h
theorem turn_tuple {P : Program} {w : World} {K : PySem.W.Frag} {tg : Expr} (a it : Addr) : Turn P w K tg (Itt K a) [it] it (fun i h => h.IsTupleIter it a i) where
  mem := by simp
  obj := fun i h st b hb => by
    have e : b = it := by simpa using hb
    subst e
    obtain ⟨o,e,c,d⟩ := st
    exact ⟨o,e,fun v z => by rw [d] at z; cases z⟩
  keep := fun i h h' st k => st.at fun o e => k it (by simp) o e
  item := by
    intro X hP hw hK hc i pins s σ H E I hf st hg
    subst hP hw hK
    obtain ⟨xs,x,hq,hx⟩ := hg
    obtain ⟨its,rv,p,hz⟩ := I.tuple hq
    obtain ⟨u,hu,ru⟩ := rv.get hx
    obtain ⟨f0,f1,f2,f3,f4,f5⟩ := hf it (by simp)
    refine wpAny_pyNext_tuple_item st (show s.heap.IsTuple a its.toArray from p) (x := u) (by simpa using hu) fun h' st' sb => ?_
    have I1 : Inv X pins σ H { s with heap := h' } := I.turned (t' := s.toks) (fun b o hb e => (sb.2 b hb).trans e) f0 f1 f3 f4 f5
    obtain ⟨o,e,c,d⟩ := id st'
    exact ⟨u,rfl,go_of (s := { s with heap := h' }) e c d (by decide) ⟨x,H,I1,ru,⟨rfl,fun ys hy => by rw [I.tuple_inj hy hq]; exact hx⟩,st',fun b hb => (hf b hb).1⟩⟩
  done := by
    intro X hP hw hK hc i pins s σ H E I hf st hg
    subst hP hw hK
    obtain ⟨xs,hq,hx⟩ := hg
    obtain ⟨its,rv,p,hz⟩ := I.tuple hq
    obtain ⟨f0,f1,f2,f3,f4,f5⟩ := hf it (by simp)
    have hl := rv.length
    exact wpAny_pyNext_tuple_end (I.ok.hd hc) st (show s.heap.IsTuple a its.toArray from p) (by simp; omega) fun h' eb => ⟨rfl,I.turned (t' := s.toks) (fun b o hb e => eb b o hb e) f0 f1 f3 f4 f5⟩
  self := fun _ _ _ _ _ st h => wpAny_pyIter_tupleiter st h
theorem turn_range {P : Program} {w : World} {K : PySem.W.Frag} {tg : Expr} (it : Addr) (lo : Int) (n : Nat) : Turn P w K tg (Itr lo n) [it] it (fun i h => IsRangeIter h it (lo + (i : Nat) * 1) ((n : Int) - (i : Nat)) 1) where
  mem := by simp
  obj := fun i h st b hb => by
    have e : b = it := by simpa using hb
    subst e
    exact ⟨_,st,fun v z => by
      have z' : Data.fields _ = Data.cell v := z
      cases z'⟩
  keep := fun i h h' st k => k it (by simp) _ st
  item := by
    intro X hP hw hK hc i pins s σ H E I hf st hg
    subst hP hw hK
    obtain ⟨f0,f1,f2,f3,f4,f5⟩ := hf it (by simp)
    have W := Walks.range (prog := X.prog) (w := X.w) (I.ok.hd hc) it lo 1 n
    refine W.item i s _ _ hg st fun v h' tk hv st' kk => ?_
    obtain ⟨t,rfl⟩ := hv
    have I1 : Inv X pins σ H { s with heap := h',toks := tk } := I.turned (fun b o hb e => kk b o (by simpa using hb) e) f0 f1 f3 f4 f5
    refine ⟨_,rfl,go_of (s := { s with heap := h',toks := tk }) (n := "range_iterator") st' rfl rfl (by decide) ⟨.int (lo + i),H,I1,⟨t,?_⟩,⟨rfl,rfl⟩,st',fun b hb => (hf b hb).1⟩⟩
    rw [Int.mul_one]
  done := by
    intro X hP hw hK hc i pins s σ H E I hf st hg
    subst hP hw hK
    obtain ⟨f0,f1,f2,f3,f4,f5⟩ := hf it (by simp)
    exact wpAny_pyNext_range_end (I.ok.hd hc) st (by have : n ≤ i := hg; omega) fun h' eb => ⟨rfl,I.turned (t' := s.toks) (fun b o hb e => eb b o hb e) f0 f1 f3 f4 f5⟩
  self := fun _ _ _ _ _ st h => wpAny_pyIter_rangeiter st h
end L2

namespace L2
open PySem PySem.Spec PyProof.Rows
section
variable {X : Cx} {tg : Expr}
def iList (K : PySem.W.Frag) (tl : TE) : TI := fun σ H R => tl σ H fun x H1 => ∃ a,x = .ref a ∧ (∃ xs,SqL K H1 a xs) ∧ R (Itl K a) H1
def iTup (K : PySem.W.Frag) (tl : TE) : TI := fun σ H R => tl σ H fun x H1 => ∃ a,x = .ref a ∧ (∃ xs,SqT K H1 a xs) ∧ R (Itt K a) H1
theorem pi_list {l : Expr} {tl : TE} (hl : PE X l tl) : PI X tg l (iList X.K tl) := by
  intro pins s σ H R I h
  refine thn (hl pins s σ H _ I h) fun v s1 ⟨x,H1,I1,r1,q1⟩ => ?_
  obtain ⟨a,e,⟨xs,hq⟩,q⟩ := q1
  subst e
  cases r1
  obtain ⟨its,rv,p,hz⟩ := I1.list hq
  refine wpAny_pyIter_list p.isList ?_
  refine ⟨s1.heap.objs.size,[s1.heap.objs.size],_,_,H1,rfl,I1.kept (t' := s1.toks) fun b o e => Heap.get?_push_of_some _ e,turn_list a _,⟨_,Heap.get?_push_size _ rfl,rfl,rfl⟩,fun b hb => ?_,q⟩
  have e : b = s1.heap.objs.size := by simpa using hb
  subst e
  exact I1.fpOk (Nat.le_refl _) (I1.hok.fresh (Nat.le_refl _))
theorem pi_tup {l : Expr} {tl : TE} (hl : PE X l tl) : PI X tg l (iTup X.K tl) := by
  intro pins s σ H R I h
  refine thn (hl pins s σ H _ I h) fun v s1 ⟨x,H1,I1,r1,q1⟩ => ?_
  obtain ⟨a,e,⟨xs,hq⟩,q⟩ := q1
  subst e
  cases r1
  obtain ⟨its,rv,p,hz⟩ := I1.tuple hq
  refine wpAny_pyIter_tuple (show s1.heap.IsTuple a its.toArray from p) ?_
  refine ⟨s1.heap.objs.size,[s1.heap.objs.size],_,_,H1,rfl,I1.kept (t' := s1.toks) fun b o e => Heap.get?_push_of_some _ e,turn_tuple a _,⟨_,Heap.get?_push_size _ rfl,rfl,rfl⟩,fun b hb => ?_,q⟩
  have e : b = s1.heap.objs.size := by simpa using hb
  subst e
  exact I1.fpOk (Nat.le_refl _) (I1.hok.fresh (Nat.le_refl _))
theorem range_it {pins : List (Addr × Obj)} {σ : St} {H : Hp} {s : Shared} {R : It → Hp → Prop} {E : Value → Shared → Prop} {lo hi : Int} {t u v : Tok} {tk : Nat} (I : Inv X pins σ H s) (h1 : -(2 ^ 62) ≤ lo) (h2 : lo < 2 ^ 62) (h3 : -(2 ^ 62) ≤ hi) (h4 : hi < 2 ^ 62)
    (q : R (Itr lo (hi - lo).toNat) H) : wpAny (model X.prog X.w) X.A (pyIter (.ref s.heap.objs.size)) (PIE X pins σ tg R) E { s with heap := s.heap.push { cls := .type "range",data := .fields #[.int lo t,.int hi u,.int 1 v] },toks := tk } := by
  refine wpAny_pyIter_range (IsRange.new ..) (small_one h1 h2 h3 h4) ?_
  have I1 : Inv X pins σ H { s with heap := s.heap.push { cls := .type "range",data := .fields #[.int lo t,.int hi u,.int 1 v] },toks := tk } := I.kept fun b o e => Heap.get?_push_of_some _ e
  refine ⟨(s.heap.push { cls := .type "range",data := .fields #[.int lo t,.int hi u,.int 1 v] }).objs.size,[(s.heap.push { cls := .type "range",data := .fields #[.int lo t,.int hi u,.int 1 v] }).objs.size],_,_,H,rfl,
    I1.kept (t' := tk) fun b o e => Heap.get?_push_of_some _ e,turn_range _ lo (hi - lo).toNat,?_,fun b hb => ?_,q⟩
  · have e1 : lo + ((0 : Nat) : Int) * 1 = lo := by simp
    have e2 : (((hi - lo).toNat : Nat) : Int) - ((0 : Nat) : Int) = Builtin.Range.rangeSize lo hi 1 := by rw [rangeSize_one]; split <;> omega
    show IsRangeIter _ _ (lo + ((0 : Nat) : Int) * 1) ((((hi - lo).toNat : Nat) : Int) - ((0 : Nat) : Int)) 1
    rw [e1,e2]
    exact Heap.get?_push_size _ rfl
  · have e : b = (s.heap.push { cls := .type "range",data := .fields #[.int lo t,.int hi u,.int 1 v] }).objs.size := by simpa using hb
    subst e
    exact I1.fpOk (Nat.le_refl _) (I1.hok.fresh (Nat.le_refl _))
def iRng1 (ta : TA) : TI := fun σ H R => ta σ H fun vs H1 => ∃ j : Int,vs = [.int j] ∧ -(2 ^ 62) ≤ j ∧ j < 2 ^ 62 ∧ R (Itr 0 j.toNat) H1
def iRng2 (ta : TA) : TI := fun σ H R => ta σ H fun vs H1 => ∃ i j : Int,vs = [.int i,.int j] ∧ (-(2 ^ 62) ≤ i ∧ i < 2 ^ 62 ∧ -(2 ^ 62) ≤ j ∧ j < 2 ^ 62) ∧ R (Itr i (j - i).toNat) H1
theorem pi_range1 {a : Expr} {ta : TA} {p pos : Pos} (hg : Gl X "range") (hm : X.mg "range" = none) (ha : PA X [a] ta) (hs : starEach [a] X.env = [(false,eval a X.env)] := by rfl) : PI X tg (.Call (.Name "range" p) [a] [] pos) (iRng1 ta) := by
  intro pins s σ H R I h
  refine Call_ (ld_blt I hg hm boot_range (PyProof.Rows.callWith_type1 (thn (ha pos pins s σ H _ I h) fun us s1 ⟨vs,H1,I1,r1,q1⟩ => ?_) hs rfl))
  obtain ⟨j,e,q1,q2,q⟩ := q1
  subst e
  cases r1 with
  | cons r rr =>
    cases rr
    obtain ⟨t,rfl⟩ := r
    exact call_range_1 (range_it I1 (by omega) (by omega) q1 q2 (by simpa using q))
theorem pi_range2 {a b : Expr} {ta : TA} {p pos : Pos} (hg : Gl X "range") (hm : X.mg "range" = none) (ha : PA X [a,b] ta) (hs : starEach [a,b] X.env = [(false,eval a X.env),(false,eval b X.env)] := by rfl) (hs2 : starEach [b] X.env = [(false,eval b X.env)] := by rfl) :
    PI X tg (.Call (.Name "range" p) [a,b] [] pos) (iRng2 ta) := by
  intro pins s σ H R I h
  refine Call_ (ld_blt I hg hm boot_range (PyProof.Rows.callWith_type1 (thn (ha pos pins s σ H _ I h) fun us s1 ⟨vs,H1,I1,r1,q1⟩ => ?_) (by rw [hs,hs2]) (by rw [hs2]; rfl)))
  obtain ⟨i,j,e,⟨q1,q2,q3,q4⟩,q⟩ := q1
  subst e
  cases r1 with
  | cons r rr =>
    cases rr with
    | cons r' rr =>
      cases rr
      obtain ⟨t,rfl⟩ := r
      obtain ⟨t',rfl⟩ := r'
      exact call_range_2 (range_it I1 q1 q2 q3 q4 q)

def tFor (wi : TI) (g : TG) (tb : TS) : TS := fun D σ H => wi σ H fun J H1 => ∃ W : Nat → Nat → St → Hp → Prop,(∃ m,W 0 m σ H1) ∧ ∀ i m σ H,W i m σ H →
  (J.stop i H ∧ D.nx σ H) ∨ (J.go i H ∧ ∃ N : St → Hp → Prop,(∀ σ' H',N σ' H' → ∃ m',m' < m ∧ W (i + 1) m' σ' H') ∧ ∀ x H',J.yld i H x H' → g x σ H' fun σ2 H2 => tb { D with nx := N,ct := N,bk := D.nx } σ2 H2)
def pinsAt (fp : List Addr) (h : Heap) : List (Addr × Obj) := fp.filterMap fun b => (h.get? b).map fun o => (b,o)
theorem mem_pinsAt {fp : List Addr} {h : Heap} {b : Addr} {o : Obj} (hb : b ∈ fp) (e : h.get? b = some o) : (b,o) ∈ pinsAt fp h := List.mem_filterMap.mpr ⟨b,hb,by rw [e]; rfl⟩
theorem of_pinsAt {fp : List Addr} {h : Heap} {p : Addr × Obj} (hp : p ∈ pinsAt fp h) : p.1 ∈ fp ∧ h.get? p.1 = some p.2 := by
  obtain ⟨b,hb,e⟩ := List.mem_filterMap.mp hp
  cases q : h.get? b with
  | none => rw [q] at e; cases e
  | some o =>
    rw [q] at e
    have e' : (b,o) = p := Option.some.inj e
    subst e'
    exact ⟨hb,q⟩
theorem Inv.pinned {pins : List (Addr × Obj)} {σ : St} {H : Hp} {s : Shared} {fp : List Addr} (I : Inv X pins σ H s) (hf : ∀ b ∈ fp,FpOk X pins H b) (ho : ∀ b ∈ fp,∃ o,s.heap.get? b = some o ∧ ∀ v,o.data ≠ .cell v) : Inv X (pins ++ pinsAt fp s.heap) σ H s :=
  I.pins_of fun p hp => (List.mem_append.mp hp).elim (fun z => I.pin p (List.mem_append_right _ z)) fun z => by
    obtain ⟨hb,e⟩ := of_pinsAt z
    obtain ⟨f0,f1,f2,_⟩ := hf p.1 hb
    obtain ⟨o,e',d⟩ := ho p.1 hb
    rw [e] at e'; cases e'
    exact ⟨e,f0,f1,f2,d⟩
theorem Inv.unpinned {pins pl : List (Addr × Obj)} {σ : St} {H : Hp} {s : Shared} (I : Inv X (pins ++ pl) σ H s) : Inv X pins σ H s := I.pins_of fun p hp => I.pin p (List.mem_append_right _ (List.mem_append_left _ hp))
theorem ps_for {iter : Expr} {body : List Stmt} {wi : TI} {g : TG} {tb : TS} {pos : Pos} (hp : PassesOwn (model X.prog X.w) X.A X.env X.xe) (hc : X.calm = true) (hi : PI X tg iter wi) (hg : PG X tg g) (hb : PSs X body tb)
    (hs : ∀ x,foldedSetIterable iter X.env x = pure x := by intro _; rfl) : PS X (.For tg iter body [] pos) (tFor wi g tb) := by
  intro pins s σ H D I h
  refine wpAny_For (thn (hi pins s σ H _ I h) fun v s1 h1 => thn h1 fun itv s2 h2 => ?_) hs
  obtain ⟨it,fp,tn,J,H2,e,I2,T,st2,f2,W,⟨m0,w0⟩,turn⟩ := h2
  subst e
  -- what stays true of the iterator's objects through the loop
  have stat : ∀ {H' : Hp},(∀ b ∈ fp,H' b = none) → ∀ b ∈ fp,FpOk X pins H' b := fun hn b hb => ⟨hn b hb,(f2 b hb).2⟩
  refine codeAny_forLoop_any (fun n s' => ∃ i σ' H',Inv X pins σ' H' s' ∧ tn i s'.heap ∧ (∀ b ∈ fp,H' b = none) ∧ W i n σ' H') ?_ m0 ⟨0,σ,H2,I2,st2,fun b hb => (f2 b hb).1,w0⟩
  rintro n s3 ⟨i,σ3,H3,I3,st3,fr3,w3⟩
  rcases turn i n σ3 H3 w3 with ⟨stop,qn⟩ | ⟨go,N,hN,step⟩
  · refine wpAny_passesOwn hp (thn (T.done X rfl rfl rfl hc i pins s3 σ3 H3 X.xe I3 (stat fr3) st3 stop) fun r s4 ⟨hr,I4⟩ => ?_)
    subst hr
    exact wpAny_execs_nil ⟨σ3,H3,I4,qn⟩
  · refine wpAny_passesOwn hp (thn (T.item X rfl rfl rfl hc i pins s3 σ3 H3 X.xe I3 (stat fr3) st3 go) fun r s4 ⟨u,hr,h4⟩ => ?_)
    subst hr
    refine wpAny_passesOwn hp (thn h4 fun _ s5 ⟨x,H5,I5,r5,y5,st5,fr5⟩ => ?_)
    have I5' := I5.pinned (stat fr5) (T.obj _ _ st5)
    refine wpAny_passesOwn hp (thn (hg _ s5 σ3 H5 x u _ I5' r5 (step x H5 y5)) fun _ s6 ⟨σ6,H6,I6,q6⟩ => ?_)
    refine wpAny_passesOwn hp (thn (hb _ s6 σ6 H6 _ I6 q6) fun f s7 q7 => ?_)
    have again : ∀ {σ7 : St} {H7 : Hp},Inv X (pins ++ pinsAt fp s5.heap) σ7 H7 s7 → N σ7 H7 → ∃ m,m < n ∧ ∃ i σ' H',Inv X pins σ' H' s7 ∧ tn i s7.heap ∧ (∀ b ∈ fp,H' b = none) ∧ W i m σ' H' := fun {σ7 H7} I7 n7 => by
      obtain ⟨m',hm,w7⟩ := hN σ7 H7 n7
      refine ⟨m',hm,i + 1,σ7,H7,I7.unpinned,T.keep _ _ _ st5 fun b hb o e => (I7.pin (b,o) (List.mem_append_right _ (List.mem_append_right _ (mem_pinsAt hb e)))).1,fun b hb => ?_,w7⟩
      obtain ⟨o,e,d⟩ := T.obj _ _ st5 b hb
      exact (I7.pin (b,o) (List.mem_append_right _ (List.mem_append_right _ (mem_pinsAt hb e)))).2.1
    cases f with
    | next => obtain ⟨σ7,H7,I7,n7⟩ := q7; exact again I7 n7
    | cont => obtain ⟨σ7,H7,I7,n7⟩ := q7; exact again I7 n7
    | brk => obtain ⟨σ7,H7,I7,q7⟩ := q7; exact ⟨σ7,H7,I7.unpinned,q7⟩
    | ret v => obtain ⟨x7,σ7,H7,I7,r7,q7⟩ := q7; exact ⟨x7,σ7,H7,I7.unpinned,r7,q7⟩
end

theorem for_list {K : PySem.W.Frag} {a : Addr} {xs : List V} {g : TG} {tb : TS} {D : Ends} {σ : St} {H : Hp} (Pv : Nat → St → Hp → Prop) (h0 : Pv 0 σ H) (hl : ∀ i σ H,i ≤ xs.length → Pv i σ H → SqL K H a xs)
    (hs : ∀ i x σ H,xs[i]? = some x → Pv i σ H → g x σ H fun σ2 H2 => tb { D with nx := Pv (i + 1),ct := Pv (i + 1),bk := D.nx } σ2 H2) (hd : ∀ σ H,Pv xs.length σ H → D.nx σ H) :
    ∃ W : Nat → Nat → St → Hp → Prop,(∃ m,W 0 m σ H) ∧ ∀ i m σ H,W i m σ H →
      ((Itl K a).stop i H ∧ D.nx σ H) ∨ ((Itl K a).go i H ∧ ∃ N : St → Hp → Prop,(∀ σ' H',N σ' H' → ∃ m',m' < m ∧ W (i + 1) m' σ' H') ∧ ∀ x H',(Itl K a).yld i H x H' → g x σ H' fun σ2 H2 => tb { D with nx := N,ct := N,bk := D.nx } σ2 H2) := by
  refine ⟨fun i m σ H => m = xs.length - i ∧ i ≤ xs.length ∧ Pv i σ H,⟨xs.length,by simp,Nat.zero_le _,h0⟩,?_⟩
  rintro i m σ H ⟨rfl,hi,p⟩
  have q := hl i σ H hi p
  by_cases hlt : i < xs.length
  · refine .inr ⟨⟨xs,xs[i],q,by simp [hlt]⟩,Pv (i + 1),fun σ' H' p' => ⟨xs.length - (i + 1),by omega,rfl,hlt,p'⟩,fun x H' y => ?_⟩
    obtain ⟨e,y⟩ := y
    subst e
    exact hs i x σ _ (y xs q) p
  · have e : i = xs.length := by omega
    subst e
    exact .inl ⟨⟨xs,q,Nat.le_refl _⟩,hd σ H p⟩
theorem for_tup {K : PySem.W.Frag} {a : Addr} {xs : List V} {g : TG} {tb : TS} {D : Ends} {σ : St} {H : Hp} (Pv : Nat → St → Hp → Prop) (h0 : Pv 0 σ H) (hl : ∀ i σ H,i ≤ xs.length → Pv i σ H → SqT K H a xs)
    (hs : ∀ i x σ H,xs[i]? = some x → Pv i σ H → g x σ H fun σ2 H2 => tb { D with nx := Pv (i + 1),ct := Pv (i + 1),bk := D.nx } σ2 H2) (hd : ∀ σ H,Pv xs.length σ H → D.nx σ H) :
    ∃ W : Nat → Nat → St → Hp → Prop,(∃ m,W 0 m σ H) ∧ ∀ i m σ H,W i m σ H →
      ((Itt K a).stop i H ∧ D.nx σ H) ∨ ((Itt K a).go i H ∧ ∃ N : St → Hp → Prop,(∀ σ' H',N σ' H' → ∃ m',m' < m ∧ W (i + 1) m' σ' H') ∧ ∀ x H',(Itt K a).yld i H x H' → g x σ H' fun σ2 H2 => tb { D with nx := N,ct := N,bk := D.nx } σ2 H2) := by
  refine ⟨fun i m σ H => m = xs.length - i ∧ i ≤ xs.length ∧ Pv i σ H,⟨xs.length,by simp,Nat.zero_le _,h0⟩,?_⟩
  rintro i m σ H ⟨rfl,hi,p⟩
  have q := hl i σ H hi p
  by_cases hlt : i < xs.length
  · refine .inr ⟨⟨xs,xs[i],q,by simp [hlt]⟩,Pv (i + 1),fun σ' H' p' => ⟨xs.length - (i + 1),by omega,rfl,hlt,p'⟩,fun x H' y => ?_⟩
    obtain ⟨e,y⟩ := y
    subst e
    exact hs i x σ _ (y xs q) p
  · have e : i = xs.length := by omega
    subst e
    exact .inl ⟨⟨xs,q,Nat.le_refl _⟩,hd σ H p⟩
theorem for_range {lo : Int} {n : Nat} {g : TG} {tb : TS} {D : Ends} {σ : St} {H : Hp} (Pv : Nat → St → Hp → Prop) (h0 : Pv 0 σ H)
    (hs : ∀ i σ H,i < n → Pv i σ H → g (.int (lo + i)) σ H fun σ2 H2 => tb { D with nx := Pv (i + 1),ct := Pv (i + 1),bk := D.nx } σ2 H2) (hd : ∀ σ H,Pv n σ H → D.nx σ H) :
    ∃ W : Nat → Nat → St → Hp → Prop,(∃ m,W 0 m σ H) ∧ ∀ i m σ H,W i m σ H →
      ((Itr lo n).stop i H ∧ D.nx σ H) ∨ ((Itr lo n).go i H ∧ ∃ N : St → Hp → Prop,(∀ σ' H',N σ' H' → ∃ m',m' < m ∧ W (i + 1) m' σ' H') ∧ ∀ x H',(Itr lo n).yld i H x H' → g x σ H' fun σ2 H2 => tb { D with nx := N,ct := N,bk := D.nx } σ2 H2) := by
  refine ⟨fun i m σ H => m = n - i ∧ i ≤ n ∧ Pv i σ H,⟨n,by simp,Nat.zero_le _,h0⟩,?_⟩
  rintro i m σ H ⟨rfl,hi,p⟩
  by_cases hlt : i < n
  · refine .inr ⟨hlt,Pv (i + 1),fun σ' H' p' => ⟨n - (i + 1),by omega,rfl,hlt,p'⟩,fun x H' y => ?_⟩
    obtain ⟨e,y⟩ := y
    subst e y
    exact hs i σ _ hlt p
  · have e : i = n := by omega
    subst e
    exact .inl ⟨Nat.le_refl _,hd σ H p⟩
end L2

namespace L2
open PySem PySem.Spec PyProof.Rows

abbrev R2 := V → V → Hp → VK → Prop
def OpR (X : Cx) (f : Value → Value → Sem Value) (r : R2) : Prop :=
  ∀ (pins : List (Addr × Obj)) (s : Shared) (σ : St) (H : Hp) (x y : V) (v u : Value) (Q : VK),Inv X pins σ H s → RelV x v → RelV y u → r x y H Q →
    wpAny (model X.prog X.w) X.A (f v u) (EP X pins σ Q) X.xe s
def UnR (X : Cx) (f : Value → Sem Value) (r : V → Hp → VK → Prop) : Prop :=
  ∀ (pins : List (Addr × Obj)) (s : Shared) (σ : St) (H : Hp) (x : V) (v : Value) (Q : VK),Inv X pins σ H s → RelV x v → r x H Q →
    wpAny (model X.prog X.w) X.A (f v) (EP X pins σ Q) X.xe s
def CallR (X : Cx) (f : Value) (r : List V → Hp → VK → Prop) : Prop :=
  ∀ (pins : List (Addr × Obj)) (s : Shared) (σ : St) (H : Hp) (xs : List V) (us : List Value) (Q : VK),Inv X pins σ H s → Vals xs us → r xs H Q →
    wpAny (model X.prog X.w) X.A (call f us) (EP X pins σ Q) X.xe s
def tOp (r : R2) (ta tb : TE) : TE := fun σ H Q => ta σ H fun x H1 => tb σ H1 fun y H2 => r x y H2 Q
def tUn (r : V → Hp → VK → Prop) (ta : TE) : TE := fun σ H Q => ta σ H fun x H1 => r x H1 Q
def rI (C : Int → Int → Prop) (g : Int → Int → V) : R2 := fun x y H Q => ∃ i j,x = .int i ∧ y = .int j ∧ C i j ∧ Q (g i j) H
def rI0 (g : Int → Int → V) : R2 := fun x y H Q => ∃ i j,x = .int i ∧ y = .int j ∧ Q (g i j) H
def rU (g : Int → V) : V → Hp → VK → Prop := fun x H Q => ∃ i,x = .int i ∧ Q (g i) H

section
variable {X : Cx} {a b c : Expr} {ta tb tc : TE} {pos : Pos}

theorem binT (ha : PE X a ta) (hb : PE X b tb) {pins : List (Addr × Obj)} {s : Shared} {σ : St} {H : Hp} {R : V → V → Hp → Prop} (I : Inv X pins σ H s)
    (h : ta σ H fun x H1 => tb σ H1 fun y H2 => R x y H2) {Q : Value → Shared → Prop} {f : Value → Value → Sem Value}
    (hf : ∀ v u s2 x y H2,Inv X pins σ H2 s2 → RelV x v → RelV y u → R x y H2 → wpAny (model X.prog X.w) X.A (f v u) Q X.xe s2) :
    wpAny (model X.prog X.w) X.A (eval a X.env) (fun v s₁ => wpAny (model X.prog X.w) X.A (eval b X.env) (fun u s₂ => wpAny (model X.prog X.w) X.A (f v u) Q X.xe s₂) X.xe s₁) X.xe s := by
  refine thn (ha pins s σ H _ I h) fun v s1 ⟨x,H1,I1,r1,q1⟩ => ?_
  refine thn (hb pins s1 σ H1 _ I1 q1) fun u s2 ⟨y,H2,I2,r2,q2⟩ => ?_
  exact hf v u s2 x y H2 I2 r1 r2 q2

theorem pe_op {op : Operator} {r : R2} (ho : OpR X (binaryOp op) r) (ha : PE X a ta) (hb : PE X b tb) : PE X (.BinOp a op b pos) (tOp r ta tb) := by
  intro pins s σ H Q I h
  exact wpAny_BinOp (binT ha hb I h fun v u s2 x y H2 I2 rx ry q => ho pins s2 σ H2 x y v u Q I2 rx ry q)
theorem pe_un {op : UnaryOp} {r : V → Hp → VK → Prop} (ho : UnR X (unaryOp op) r) (ha : PE X a ta) : PE X (.UnaryOp op a pos) (tUn r ta) := by
  intro pins s σ H Q I h
  exact UnaryOp_ (thn (ha pins s σ H _ I h) fun v s1 ⟨x,H1,I1,r1,q1⟩ => ho pins s1 σ H1 x v Q I1 r1 q1)
theorem opI {f : Value → Value → Sem Value} {C : Int → Int → Prop} {g : Int → Int → Int}
    (rule : ∀ (i j : Int) (t u : Tok) (s : Shared) (Q : Value → Shared → Prop) (E : Value → Shared → Prop),C i j → Q (.int (g i j) s.toks) { s with toks := s.toks + 1 } → wpAny (model X.prog X.w) X.A (f (.int i t) (.int j u)) Q E s) :
    OpR X f (rI C fun i j => .int (g i j)) := by
  intro pins s σ H x y v u Q I rx ry h
  obtain ⟨i,j,rfl,rfl,hc,q⟩ := h
  obtain ⟨t,rfl⟩ := rx
  obtain ⟨t',rfl⟩ := ry
  exact rule i j t t' s _ _ hc ⟨.int (g i j),H,I.tok _,⟨_,rfl⟩,q⟩
theorem opI0 {f : Value → Value → Sem Value} {g : Int → Int → Int}
    (rule : ∀ (i j : Int) (t u : Tok) (s : Shared) (Q : Value → Shared → Prop) (E : Value → Shared → Prop),Q (.int (g i j) s.toks) { s with toks := s.toks + 1 } → wpAny (model X.prog X.w) X.A (f (.int i t) (.int j u)) Q E s) :
    OpR X f (rI0 fun i j => .int (g i j)) := by
  intro pins s σ H x y v u Q I rx ry h
  obtain ⟨i,j,rfl,rfl,q⟩ := h
  obtain ⟨t,rfl⟩ := rx
  obtain ⟨t',rfl⟩ := ry
  exact rule i j t t' s _ _ ⟨.int (g i j),H,I.tok _,⟨_,rfl⟩,q⟩
theorem opB0 {f : Value → Value → Sem Value} {g : Int → Int → Bool}
    (rule : ∀ (i j : Int) (t u : Tok) (s : Shared) (Q : Value → Shared → Prop) (E : Value → Shared → Prop),Q (.bool (g i j)) s → wpAny (model X.prog X.w) X.A (f (.int i t) (.int j u)) Q E s) :
    OpR X f (rI0 fun i j => .bl (g i j)) := by
  intro pins s σ H x y v u Q I rx ry h
  obtain ⟨i,j,rfl,rfl,q⟩ := h
  obtain ⟨t,rfl⟩ := rx
  obtain ⟨t',rfl⟩ := ry
  exact rule i j t t' s _ _ ⟨.bl (g i j),H,I,rfl,q⟩

def CDiv (i j : Int) : Prop := 0 < j ∧ j < 1073741824
def CPow (i j : Int) : Prop := 0 ≤ j ∧ j ≤ 1000000 ∧ i.natAbs < 2 ^ 64
def CMul (i j : Int) : Prop := (-(2 ^ 64) < i ∧ i < 2 ^ 64) ∨ (-(2 ^ 64) < j ∧ j < 2 ^ 64)
theorem CMul.ok {i j : Int} (h : CMul i j) : IntMulOk i j := by
  rcases h with ⟨h1,h2⟩ | ⟨h1,h2⟩
  · exact .of_left (intBits_le_64 h1 h2)
  · exact .of_right (intBits_le_64 h1 h2)
theorem op_add : OpR X (binaryOp .Add) (rI0 fun i j => .int (i + j)) := opI0 fun _ _ _ _ _ _ _ q => add_int q
theorem op_sub : OpR X (binaryOp .Sub) (rI0 fun i j => .int (i - j)) := opI0 fun _ _ _ _ _ _ _ q => sub_int q
theorem op_mul : OpR X (binaryOp .Mult) (rI CMul fun i j => .int (i * j)) := opI fun _ _ _ _ _ _ _ hc q => mul_int q hc.ok
theorem op_fdiv : OpR X (binaryOp .FloorDiv) (rI CDiv fun i j => .int (i / j)) := opI fun i j _ _ _ _ _ hc q => by
  have h1 : (0 : Int) < j := hc.1
  have h2 : j < 1073741824 := hc.2
  exact floordiv_int (by omega) (by rw [Int.fdiv_eq_ediv_of_nonneg i (by omega)]; exact q) (.inl (PyProof.noPylong_small (by omega)))
theorem op_mod : OpR X (binaryOp .Mod) (rI (fun _ j => 0 < j) fun i j => .int (i % j)) := opI fun i j _ _ _ _ _ hc q => by
  have h1 : (0 : Int) < j := hc
  exact mod_int' (by omega) (by rw [Int.fmod_eq_emod_of_nonneg i (by omega)]; exact q)
theorem op_pow : OpR X (binaryOp .Pow) (rI CPow fun i j => .int (i ^ j.toNat)) := opI fun _ _ _ _ _ _ _ hc q => pow_int_small hc.1 hc.2.1 hc.2.2 q
theorem unI {f : Value → Sem Value} {g : Int → Int}
    (rule : ∀ (i : Int) (t : Tok) (s : Shared) (Q : Value → Shared → Prop) (E : Value → Shared → Prop),Q (.int (g i) s.toks) { s with toks := s.toks + 1 } → wpAny (model X.prog X.w) X.A (f (.int i t)) Q E s) :
    UnR X f (rU fun i => .int (g i)) := by
  intro pins s σ H x v Q I rx h
  obtain ⟨i,rfl,q⟩ := h
  obtain ⟨t,rfl⟩ := rx
  exact rule i t s _ _ ⟨.int (g i),H,I.tok _,⟨_,rfl⟩,q⟩
theorem un_neg : UnR X (unaryOp .USub) (rU fun i => .int (-i)) := unI fun _ _ _ _ _ q => neg_int q
end

def scal : V → V → Bool
  | .non,.non => true | .non,.int _ => true | .int _,.non => true | .non,.bl _ => true | .bl _,.non => true | .non,.str _ => true | .str _,.non => true
  | .int _,.int _ => true | .bl _,.bl _ => true | .str _,.str _ => true | .byt _,.byt _ => true
  | .int _,.str _ => true | .str _,.int _ => true | .bl _,.str _ => true | .str _,.bl _ => true
  | _,_ => false
def rEq : R2 := fun x y H Q => scal x y = true ∧ Q (.bl (decide (x = y))) H
def rNe : R2 := fun x y H Q => scal x y = true ∧ Q (.bl (!decide (x = y))) H

theorem dec_int {i j : Int} : decide (V.int i = V.int j) = (i == j) := by
  rw [Bool.eq_iff_iff]
  simp
theorem dec_bl {i j : Bool} : decide (V.bl i = V.bl j) = (i == j) := by
  rw [Bool.eq_iff_iff]
  simp
theorem dec_str {i j : Str} : decide (V.str i = V.str j) = (i == j) := by
  rw [Bool.eq_iff_iff]
  simp
theorem dec_byt {i j : Array UInt8} : decide (V.byt i = V.byt j) = (i.toList == j.toList) := by
  rw [Bool.eq_iff_iff]
  cases i
  cases j
  simp

section
variable {X : Cx} {a b c : Expr} {ta tb tc : TE} {pos : Pos}
theorem fin_bl {pins : List (Addr × Obj)} {σ : St} {H : Hp} {s : Shared} {Q : VK} {k k' : Bool} (I : Inv X pins σ H s) (q : Q (.bl k) H) (e : k = k') : EP X pins σ Q (.bool k') s := by
  subst e
  exact ⟨.bl k,H,I,rfl,q⟩
theorem op_eq : OpR X (compareOp .Eq) rEq := by
  intro pins s σ H x y v u Q I rx ry h
  obtain ⟨hs,q⟩ := h
  cases x with
  | non =>
    cases rx
    cases y with
    | non => cases ry; exact PySem.EqNone.eq_none_none (fin_bl I q (by simp))
    | bl j => cases ry; exact PySem.EqNone.eq_none_bool (fin_bl I q (by simp))
    | int j => obtain ⟨t',rfl⟩ := ry; exact PySem.EqNone.eq_none_int (fin_bl I q (by simp))
    | str j => obtain ⟨t',rfl⟩ := ry; exact PySem.EqNone.eq_none_str (fin_bl I q (by simp))
    | _ => exact absurd (show false = true from hs) Bool.false_ne_true
  | bl i =>
    cases rx
    cases y with
    | non => cases ry; exact PySem.EqNone.eq_bool_none (fin_bl I q (by simp))
    | bl j => cases ry; exact eq_bool (fin_bl I q dec_bl)
    | str j => obtain ⟨t',rfl⟩ := ry; exact PySem.EqMixed.eq_bool_str (fin_bl I q (by simp))
    | _ => exact absurd (show false = true from hs) Bool.false_ne_true
  | int i =>
    obtain ⟨t,rfl⟩ := rx
    cases y with
    | non => cases ry; exact PySem.EqNone.eq_int_none (fin_bl I q (by simp))
    | int j => obtain ⟨t',rfl⟩ := ry; exact eq_int (fin_bl I q dec_int)
    | str j => obtain ⟨t',rfl⟩ := ry; exact PySem.EqMixed.eq_int_str (fin_bl I q (by simp))
    | _ => exact absurd (show false = true from hs) Bool.false_ne_true
  | str i =>
    obtain ⟨t,rfl⟩ := rx
    cases y with
    | non => cases ry; exact PySem.EqNone.eq_str_none (fin_bl I q (by simp))
    | bl j => cases ry; exact PySem.EqMixed.eq_str_bool (fin_bl I q (by simp))
    | int j => obtain ⟨t',rfl⟩ := ry; exact PySem.EqMixed.eq_str_int (fin_bl I q (by simp))
    | str j => obtain ⟨t',rfl⟩ := ry; exact eq_str (fin_bl I q dec_str)
    | _ => exact absurd (show false = true from hs) Bool.false_ne_true
  | byt i =>
    obtain ⟨t,rfl⟩ := rx
    cases y with
    | byt j => obtain ⟨t',rfl⟩ := ry; exact PySem.W.eq_bytes (fin_bl I q dec_byt)
    | _ => exact absurd (show false = true from hs) Bool.false_ne_true
  | _ => cases y <;> exact absurd (show false = true from hs) Bool.false_ne_true
theorem op_ne : OpR X (compareOp .NotEq) rNe := by
  intro pins s σ H x y v u Q I rx ry h
  obtain ⟨hs,q⟩ := h
  cases x with
  | non =>
    cases rx
    cases y with
    | non => cases ry; exact PySem.EqNone.ne_none_none (fin_bl I q (by simp))
    | bl j => cases ry; exact PySem.EqNone.ne_none_bool (fin_bl I q (by simp))
    | int j => obtain ⟨t',rfl⟩ := ry; exact PySem.EqNone.ne_none_int (fin_bl I q (by simp))
    | str j => obtain ⟨t',rfl⟩ := ry; exact PySem.EqNone.ne_none_str (fin_bl I q (by simp))
    | _ => exact absurd (show false = true from hs) Bool.false_ne_true
  | bl i =>
    cases rx
    cases y with
    | non => cases ry; exact PySem.EqNone.ne_bool_none (fin_bl I q (by simp))
    | bl j => cases ry; exact ne_bool (fin_bl I q (congrArg not dec_bl))
    | str j => obtain ⟨t',rfl⟩ := ry; exact PySem.EqMixed.ne_bool_str (fin_bl I q (by simp))
    | _ => exact absurd (show false = true from hs) Bool.false_ne_true
  | int i =>
    obtain ⟨t,rfl⟩ := rx
    cases y with
    | non => cases ry; exact PySem.EqNone.ne_int_none (fin_bl I q (by simp))
    | int j => obtain ⟨t',rfl⟩ := ry; exact ne_int (fin_bl I q (congrArg not dec_int))
    | str j => obtain ⟨t',rfl⟩ := ry; exact PySem.EqMixed.ne_int_str (fin_bl I q (by simp))
    | _ => exact absurd (show false = true from hs) Bool.false_ne_true
  | str i =>
    obtain ⟨t,rfl⟩ := rx
    cases y with
    | non => cases ry; exact PySem.EqNone.ne_str_none (fin_bl I q (by simp))
    | bl j => cases ry; exact PySem.EqMixed.ne_str_bool (fin_bl I q (by simp))
    | int j => obtain ⟨t',rfl⟩ := ry; exact PySem.EqMixed.ne_str_int (fin_bl I q (by simp))
    | str j => obtain ⟨t',rfl⟩ := ry; exact ne_str (fin_bl I q (congrArg not dec_str))
    | _ => exact absurd (show false = true from hs) Bool.false_ne_true
  | byt i =>
    obtain ⟨t,rfl⟩ := rx
    cases y with
    | byt j => obtain ⟨t',rfl⟩ := ry; exact PySem.W.ne_bytes (fin_bl I q (congrArg not dec_byt))
    | _ => exact absurd (show false = true from hs) Bool.false_ne_true
  | _ => cases y <;> exact absurd (show false = true from hs) Bool.false_ne_true

theorem op_lt : OpR X (compareOp .Lt) (rI0 fun i j => .bl (decide (i < j))) := opB0 fun _ _ _ _ _ _ _ q => lt_int q
theorem op_le : OpR X (compareOp .LtE) (rI0 fun i j => .bl (decide (i ≤ j))) := opB0 fun _ _ _ _ _ _ _ q => le_int q
theorem op_gt : OpR X (compareOp .Gt) (rI0 fun i j => .bl (decide (j < i))) := opB0 fun _ _ _ _ _ _ _ q => gt_int q
theorem op_ge : OpR X (compareOp .GtE) (rI0 fun i j => .bl (decide (j ≤ i))) := opB0 fun _ _ _ _ _ _ _ q => ge_int q
theorem op_notN : OpR X (compareOp .IsNot) (fun x y H Q => y = .non ∧ Q (.bl (!decide (x = .non))) H) := by
  intro pins s σ H x y v u Q I rx ry h
  obtain ⟨rfl,q⟩ := h
  cases ry
  refine isnot_none_gen (fin_bl I q ?_)
  cases x <;> first
    | (cases rx; rfl)
    | (obtain ⟨t,rfl⟩ := rx; rfl)

theorem nomark (b : Expr) {op : CmpOp} (h : op ≠ .In := by decide) (h2 : op ≠ .NotIn := by decide) : behindInMarks op b = false := by
  have e1 : (op == CmpOp.In) = false := by cases op <;> first | rfl | exact absurd rfl h
  have e2 : (op == CmpOp.NotIn) = false := by cases op <;> first | rfl | exact absurd rfl h2
  cases b <;> simp [behindInMarks,e1,e2]
theorem pe_cmpR {op : CmpOp} {r : R2} (ho : OpR X (compareOp op) r) (ha : PE X a ta) (hb : PE X b tb) (hm : behindInMarks op b = false) : PE X (.Compare a [op] [b] pos) (tOp r ta tb) := by
  intro pins s σ H Q I h
  exact wpAny_Compare1 (binT ha hb I h fun v u s2 x y H2 I2 rx ry q => ho pins s2 σ H2 x y v u Q I2 rx ry q) hm
def tTest (t : TE) : TT := fun σ H Q => t σ H fun x H' => ∃ k,x = .bl k ∧ Q k H'
theorem pt_cmpR {op : CmpOp} {r : R2} (ho : OpR X (compareOp op) r) (ha : PE X a ta) (hb : PE X b tb) (hm : behindInMarks op b = false) : PT X (.Compare a [op] [b] pos) (tTest (tOp r ta tb)) := by
  intro pins s σ H Q I h
  refine wpAny_isTrue_Compare1 (thn (ha pins s σ H _ I h) fun v s1 ⟨x,H1,I1,r1,q1⟩ => thn (hb pins s1 σ H1 _ I1 q1) fun u s2 ⟨y,H2,I2,r2,q2⟩ =>
    thn (ho pins s2 σ H2 x y v u _ I2 r1 r2 q2) fun c s3 ⟨z,H3,I3,r3,k,e,q3⟩ => ?_) hm
  subst e
  cases r3
  exact wpAny_truthy_bool ⟨H3,I3,q3⟩
def tChain (r r' : R2) (ta tb tc : TE) : TE := fun σ H Q => ta σ H fun x H1 => tb σ H1 fun y H2 => r x y H2 fun z H3 => ∃ k,z = .bl k ∧
  (if k = true then tc σ H3 fun w' H4 => r' y w' H4 Q else Q (.bl false) H3)
theorem pe_chain {op op' : CmpOp} {r r' : R2} (ho : OpR X (compareOp op) r) (ho' : OpR X (compareOp op') r') (ha : PE X a ta) (hb : PE X b tb) (hc : PE X c tc)
    (hm : lastMarks [op,op'] [b,c] = false := by with_unfolding_all rfl) : PE X (.Compare a [op,op'] [b,c] pos) (tChain r r' ta tb tc) := by
  intro pins s σ H Q I h
  refine Compare_chain (thn (ha pins s σ H _ I h) fun v s1 ⟨x,H1,I1,r1,q1⟩ => chain_link (thn (hb pins s1 σ H1 _ I1 q1) fun u s2 ⟨y,H2,I2,r2,q2⟩ =>
    thn (ho pins s2 σ H2 x y v u _ I2 r1 r2 q2) fun d s3 ⟨z,H3,I3,r3,k,e,q3⟩ => ?_)) hm
  subst e
  cases r3
  refine wpAny_truthy_bool ?_
  cases k with
  | false => exact ite_ff ⟨.bl false,H3,I3,rfl,q3⟩
  | true => exact ite_tt (chain_last (thn (hc pins s3 σ H3 _ I3 q3) fun w' s4 ⟨z',H4,I4,r4,q4⟩ => ho' pins s4 σ H4 y z' u w' Q I4 r2 r4 q4))
theorem line63 : (sizeLine : Nat) < 2 ^ 63 := by rw [sizeLine_eq]; decide
theorem vals1 {x : V} {us : List Value} (r : Vals [x] us) : ∃ u,us = [u] ∧ RelV x u := by
  cases r with
  | cons r1 r2 => cases r2; exact ⟨_,rfl,r1⟩
theorem vals2 {x y : V} {us : List Value} (r : Vals [x,y] us) : ∃ u w',us = [u,w'] ∧ RelV x u ∧ RelV y w' := by
  cases r with
  | cons r1 r2 =>
    cases r2 with
    | cons r3 r4 => cases r4; exact ⟨_,_,rfl,r1,r3⟩
theorem call_abs : CallR X (.builtin "abs") (fun xs H Q => ∃ i,xs = [.int i] ∧ Q (.int (if i < 0 then -i else i)) H) := by
  intro pins s σ H xs us Q I r h
  obtain ⟨i,rfl,q⟩ := h
  obtain ⟨u,rfl,t,rfl⟩ := vals1 r
  exact call_abs_int fun u tk => ⟨.int (if i < 0 then -i else i),H,I.tok _,⟨_,rfl⟩,q⟩
theorem call_int1 : CallR X (.type "int") (fun xs H Q => (∃ i,xs = [.int i] ∧ Q (.int i) H) ∨ ∃ k,xs = [.bl k] ∧ Q (.int (if k then 1 else 0)) H) := by
  intro pins s σ H xs us Q I r h
  rcases h with ⟨i,rfl,q⟩ | ⟨k,rfl,q⟩
  · obtain ⟨u,rfl,t,rfl⟩ := vals1 r
    exact call_int_int ⟨.int i,H,I,⟨_,rfl⟩,q⟩
  · obtain ⟨u,rfl,r1⟩ := vals1 r
    cases r1
    exact call_int_bool ⟨.int (if k then 1 else 0),H,I.tok _,⟨_,rfl⟩,q⟩
end
end L2

namespace L2
open PySem PySem.Spec PyProof.Rows

structure ObjM (h : Heap) (x dx C : Addr) (mA : Str → Option Value) : Prop where
  obj : h.get? x = some (PySem.W.instObj C dx)
  ns : h.Ns1 dx mA
  ne : dx ≠ x

theorem lookIn_ns {h : Heap} {dx : Addr} {mA : Str → Option Value} (n : h.Ns1 dx mA) : ∃ od,h.get? dx = some od ∧ ∀ name,PySem.W.lookIn name od = some (mA name) := by
  obtain ⟨o,es,ep,ho,hd,hk,_,hm⟩ := n
  refine ⟨o,ho,fun name => ?_⟩
  have e := hm name
  unfold nsFind findBy at e
  rw [← Array.find?_toList] at e
  unfold PySem.W.lookIn
  rw [hd]
  dsimp only
  split
  · rename_i y q
    rw [q] at e
    exact congrArg some e
  · rename_i q
    rw [q] at e
    have a : es.toList.any (·.refKey) = false := by
      rw [List.any_eq_false]
      intro y hy
      obtain ⟨z,t,hkey⟩ := hk y (Array.mem_toList_iff.mp hy)
      simp [DictEntry.refKey,hkey]
    have a' : ¬ es.toList.any (·.refKey) = true := by rw [a]; exact Bool.false_ne_true
    rw [if_neg a']
    exact congrArg some e

theorem ObjM.look {h : Heap} {x dx C : Addr} {mA : Str → Option Value} (I : ObjM h x dx C mA) : ∃ od,PySem.W.InstAt h x (PySem.W.instObj C dx) C (some od) ∧ ∀ name,PySem.W.lookIn name od = some (mA name) :=
  let ⟨od,ho,hl⟩ := lookIn_ns I.ns
  ⟨od,⟨I.obj,rfl,rfl,ho⟩,hl⟩

section
variable {prog : Program} {w : World} {A : Around} {E : Value → Shared → Prop} {s : Shared} {K : PySem.W.Frag} {x dx C f : Addr} {mA : Str → Option Value} {name : Str} {v : Value}

theorem get_map {expr : Bool} {Q : Value → Shared → Prop} (X : K.In s.heap) (I : ObjM s.heap x dx C mA) (hg : PySem.W.plainGet K C name = true) (hh : PySem.W.hasDictIn K C = true)
    (ha : PySem.W.findIn K (.ref C) name = some none) (hv : mA name = some v) (hv' : PySem.W.handedIn v = true) (h : Q v { s with toks := s.toks + 1 }) :
    wpAny (model prog w) A (getAttr (.ref x) name expr) Q E s := by
  obtain ⟨od,J,hl⟩ := I.look
  exact PySem.W.get_value X J (PySem.W.plainGet_of hg).1 (PySem.W.findObj_own hh ha rfl (by rw [hl,hv])) hv' h

theorem get_meth {pl : Sem Bool} {Q : Value × List Value → Shared → Prop} (X : K.In s.heap) (I : ObjM s.heap x dx C mA) (hg : PySem.W.plainGet K C name = true)
    (hf : PySem.W.findIn K (.ref C) name = some (some (.ref f))) (ht : PySem.W.isFn K (.ref f) = true) (hv : mA name = none) (h : Q (.ref f,[.ref x]) s) :
    wpAny (model prog w) A (getMethod (.ref x) name pl) Q E s := by
  obtain ⟨od,J,hl⟩ := I.look
  exact PySem.W.method_fn X J (PySem.W.plainGet_of hg).1 (PySem.W.plainGet_of hg).2 hf (beq_iff_eq.mp ht) (by show (PySem.W.lookIn name od).map (·.isSome) = some false; rw [hl,hv]; rfl) h

theorem set_map {ns : List Str} {Q : Unit → Shared → Prop} (X : K.In s.heap) (I : ObjM s.heap x dx C mA)
    (hs : PySem.W.findIn K (.ref C) "__setattr__" = some (some (.builtin "object.__setattr__"))) (hp : PySem.W.plainOver K C = true) (ht : PySem.W.takerIn K C name = some none) (hh : PySem.W.hasDictIn K C = true)
    (hw : PySem.Within mA ns) (hsz : ns.length ≤ sizeLine)
    (h : ∀ h',ObjM h' x dx C (fun y => if y = name then some v else mA y) → Heap.SameBut dx s.heap h' → Q () { s with heap := h',toks := s.toks + 2 }) :
    wpAny (model prog w) A (setAttr (.ref x) name v) Q E s := by
  obtain ⟨od,J,hl⟩ := I.look
  refine PySem.W.set_plain X J hs (PySem.W.osa_open (s := { s with toks := s.toks + 1 }) (r := none) X J hp ht fun b => ?_)
  obtain ⟨cd,hc,hd'⟩ := PySem.W.any_some hh
  have hx : s.heap.get? x = some ⟨.ref C,some dx,.plain,#[]⟩ := I.obj
  refine wpAny_bind (wpAny_pure (wpAny_bind (wpAny_bind (wpAny_loadPart hx (wpAny_bind (PySem.W.Looks.here (s := { s with toks := s.toks + 1 }) (PySem.W.looks_clsIn X hc) ?_))))))
  rw [hd']
  refine wpAny_pure (a := some dx) (wpAny_bind (wpAny_pure (wpAny_bind ?_)))
  refine wpAny_nsSet1 (s := { s with toks := s.toks + 1 }) I.ns fun h' hn2 hs2 => ?_
  obtain ⟨oD,esD,epD,hoD,hdD,hcD⟩ := hn2.count (PySem.Within.cons name v hw)
  refine wpAny_bind (wpAny_lookBehind hoD (by rw [hdD]; exact pastItsLine_dict (Nat.le_trans hcD (by rw [List.length_cons]; omega))) ?_)
  exact wpAny_pure (h _ ⟨(hs2.2 _ (Ne.symm I.ne)).trans I.obj,hn2,I.ne⟩ hs2)

theorem make_map {R : Result → Shared → Prop} {vs : List Value} {kw : List (Str × Value)} (X : K.In s.heap) (hm : PySem.W.makesIn K C = true)
    (hi : PySem.W.findIn K (.ref C) "__init__" = some (some (.ref f))) (hf : PySem.W.typeIn K (.ref f) = some (.type "function"))
    (h : codeAny (model prog w) (A.under (.builtin "type.__call__" ⟨.ref C :: vs,kw⟩)) (.call (.ref f) ⟨.ref (s.heap.objs.size + 1) :: vs,kw⟩) (PySem.W.InitBack (s.heap.objs.size + 1) R)
      { s with heap := (s.heap.push PySem.W.emptyDict).push (PySem.W.instObj C s.heap.objs.size) }) :
    codeAny (model prog w) A (.call (.ref C) ⟨vs,kw⟩) R s := by
  obtain ⟨hh,g,d,t,os⟩ := s
  exact PySem.W.make_core (PySem.W.makes_of X hm) (PySem.W.looks_findIn X hi) (fun self => PySem.W.bind_fn X self hf) (.inl rfl) h
end

def putF (f : Str) (v : V) : List (Str × V) → List (Str × V)
  | [] => [(f,v)]
  | (g,x) :: r => if g = f then (g,v) :: r else (g,x) :: putF f v r
theorem lookup_putF (f g : Str) (v : V) : ∀ fs : List (Str × V),(putF f v fs).lookup g = if g = f then some v else fs.lookup g
  | [] => by
    show List.lookup g [(f,v)] = _
    by_cases h : g = f
    · have hb : (g == f) = true := beq_iff_eq.mpr h
      simp only [List.lookup,hb,if_pos h]
    · have hb : (g == f) = false := beq_eq_false_iff_ne.mpr h
      simp only [List.lookup,hb,if_neg h]
  | (k,x) :: r => by
    have ih := lookup_putF f g v r
    rw [show putF f v ((k,x) :: r) = (if k = f then (k,v) :: r else (k,x) :: putF f v r) from rfl]
    by_cases hk : k = f
    · rw [if_pos hk]
      by_cases h : g = k
      · have hb : (g == k) = true := beq_iff_eq.mpr h
        simp only [List.lookup,hb,if_pos (h.trans hk)]
      · have hb : (g == k) = false := beq_eq_false_iff_ne.mpr h
        simp only [List.lookup,hb,if_neg (fun e : g = f => h (e.trans hk.symm))]
    · rw [if_neg hk]
      by_cases h : g = k
      · have hb : (g == k) = true := beq_iff_eq.mpr h
        simp only [List.lookup,hb,if_neg (fun e : g = f => hk (h.symm.trans e))]
      · have hb : (g == k) = false := beq_eq_false_iff_ne.mpr h
        simp only [List.lookup,hb]
        exact ih
theorem keys_putF (f : Str) (v : V) : ∀ fs : List (Str × V),f ∈ (putF f v fs).map (·.1) ∧ ∀ g,g ∈ fs.map (·.1) → g ∈ (putF f v fs).map (·.1)
  | [] => ⟨by simp [putF],fun g h => by simp at h⟩
  | (k,x) :: r => by
    obtain ⟨i1,i2⟩ := keys_putF f v r
    rw [show putF f v ((k,x) :: r) = (if k = f then (k,v) :: r else (k,x) :: putF f v r) from rfl]
    by_cases hk : k = f
    · rw [if_pos hk]
      subst hk
      exact ⟨by simp,fun g h => by simpa using h⟩
    · rw [if_neg hk]
      refine ⟨?_,fun g h => ?_⟩
      · rw [List.map_cons]
        exact List.mem_cons_of_mem _ i1
      · rw [List.map_cons] at h ⊢
        rcases List.mem_cons.mp h with e | e
        · exact List.mem_cons.mpr (.inl e)
        · exact List.mem_cons_of_mem _ (i2 g e)
theorem length_putF (f : Str) (v : V) : ∀ fs : List (Str × V),(putF f v fs).length ≤ fs.length + 1
  | [] => by simp [putF]
  | (k,x) :: r => by
    have ih := length_putF f v r
    rw [show putF f v ((k,x) :: r) = (if k = f then (k,v) :: r else (k,x) :: putF f v r) from rfl]
    by_cases hk : k = f
    · rw [if_pos hk,List.length_cons,List.length_cons]; omega
    · rw [if_neg hk,List.length_cons,List.length_cons]; omega

theorem RelO.some_of {v : V} {o : Option Value} (r : RelO (some v) o) : ∃ u,o = some u ∧ RelV v u := by
  cases o with
  | none => exact (show False from r).elim
  | some u => exact ⟨u,rfl,r⟩
theorem RelO.none_of {o : Option Value} (r : RelO none o) : o = none := by
  cases o with
  | none => rfl
  | some u => exact (show False from r).elim
theorem handed_of {v : V} {u : Value} (r : RelV v u) : PySem.W.handedIn u = true := by
  cases v with
  | non => cases (show u = Value.none from r); rfl
  | bl b => cases (show u = Value.bool b from r); rfl
  | int i => obtain ⟨t,e⟩ := (show ∃ t,u = Value.int i t from r); cases e; rfl
  | str x => obtain ⟨t,e⟩ := (show ∃ t,u = Value.str x t from r); cases e; rfl
  | byt b => obtain ⟨t,e⟩ := (show ∃ t,u = Value.bytes b t from r); cases e; rfl
  | flt b => obtain ⟨t,e⟩ := (show ∃ t,u = Value.float b t from r); cases e; rfl
  | ref a => cases (show u = Value.ref a from r); rfl
  | ty n => cases (show u = Value.type n from r); rfl

section
variable {P : Program} {w : World} {H H' : Hp} {h h' : Heap} {a C dx : Addr} {fs fs' : List (Str × V)}
theorem ins_get (hok : HOk P w H h) (e : H a = some (.ins C dx fs)) : ∃ mA,ObjM h a dx C mA ∧ (∀ f,RelO (fs.lookup f) (mA f)) ∧ PySem.Within mA (fs.map (·.1)) ∧ fs.length ≤ 1000 ∧ H dx = some (.own a) := by
  obtain ⟨d,z,ne,ob,mA,n,r,q⟩ := (show ObjOk P w H h a (.ins C dx fs) from hok a _ e)
  exact ⟨mA,⟨ob,n,ne⟩,r,q,z,d⟩
end

structure Cls (K : PySem.W.Frag) (C : Addr) : Prop where
  pg : PySem.W.plainGet K C Str.empty = true
  hd : PySem.W.hasDictIn K C = true
  po : PySem.W.plainOver K C = true
  sa : PySem.W.findIn K (.ref C) "__setattr__" = some (some (.builtin "object.__setattr__"))
theorem Cls.get {K : PySem.W.Frag} {C : Addr} (c : Cls K C) (f : Str) : PySem.W.plainGet K C f = true := c.pg
def NoAttr (K : PySem.W.Frag) (C : Addr) (f : Str) : Prop := PySem.W.findIn K (.ref C) f = some none
theorem NoAttr.taker {K : PySem.W.Frag} {C : Addr} {f : Str} (n : NoAttr K C f) : PySem.W.takerIn K C f = some none := by
  unfold PySem.W.takerIn
  rw [show PySem.W.findIn K (.ref C) f = some none from n]
  rfl
structure Meth (K : PySem.W.Frag) (C : Addr) (m : Str) (f : Addr) : Prop where
  at_ : PySem.W.findIn K (.ref C) m = some (some (.ref f))
  fn : PySem.W.isFn K (.ref f) = true
  kp : PySem.W.keepIn K (.ref f) = true

section
variable {X : Cx} {pins : List (Addr × Obj)} {σ : St} {H : Hp} {s : Shared} {a C dx : Addr} {fs : List (Str × V)} {f : Str} {v : V} {A : Around} {E : Value → Shared → Prop}

theorem getattr_ok {b : Bool} {Q : Value → Shared → Prop} (I : Inv X pins σ H s) (e : H a = some (.ins C dx fs)) (c : Cls X.K C) (n : NoAttr X.K C f) (l : fs.lookup f = some v)
    (h : ∀ u s',Inv X pins σ H s' → RelV v u → Q u s') : wpAny (model X.prog X.w) A (getAttr (.ref a) f b) Q E s := by
  obtain ⟨mA,O,r,_,_,_⟩ := ins_get I.hok e
  obtain ⟨u,hu,ru⟩ := RelO.some_of (v := v) (o := mA f) (by rw [← l]; exact r f)
  exact get_map I.kIn O (c.get f) c.hd n hu (handed_of ru) (h u _ (I.tok _) ru)

theorem getmeth_ok {m : Str} {g : Addr} {pl : Sem Bool} {Q : Value × List Value → Shared → Prop} (I : Inv X pins σ H s) (e : H a = some (.ins C dx fs)) (c : Cls X.K C) (k : Meth X.K C m g) (l : fs.lookup m = none)
    (h : Q (.ref g,[.ref a]) s) : wpAny (model X.prog X.w) A (getMethod (.ref a) m pl) Q E s := by
  obtain ⟨mA,O,r,_,_,_⟩ := ins_get I.hok e
  have hn : mA m = none := RelO.none_of (by rw [← l]; exact r m)
  exact get_meth I.kIn O (c.get m) k.at_ k.fn hn h

theorem setattr_ok {y : V} {u : Value} {Q : Unit → Shared → Prop} (I : Inv X pins σ H s) (e : H a = some (.ins C dx fs)) (c : Cls X.K C) (n : NoAttr X.K C f) (hl : fs.length < 1000) (ry : RelV y u)
    (h : ∀ s',Inv X pins σ (upd H a (.ins C dx (putF f y fs))) s' → Q () s') : wpAny (model X.prog X.w) A (setAttr (.ref a) f u) Q E s := by
  obtain ⟨mA,O,r,wi,_,ho⟩ := ins_get I.hok e
  have hz : (fs.map (·.1)).length ≤ sizeLine := by rw [List.length_map,sizeLine_eq]; omega
  refine set_map I.kIn O c.sa c.po n.taker c.hd wi hz fun h' O' sb => h _ ?_
  have hd : ∃ o,h'.get? dx = some o := let ⟨o,_,_,e',_⟩ := O'.ns; ⟨o,e'⟩
  refine I.write (x := a) (e := dx) (by rw [e]; exact True.intro) (.inr ho) (fun b q hb z => (sb.2 b hb).trans z) hd ?_
  refine ⟨by rw [upd_ne O.ne]; exact ho,?_,O.ne,O'.obj,_,O'.ns,fun g => ?_,fun g hg => ?_⟩
  · have := length_putF f y fs; omega
  · show RelO ((putF f y fs).lookup g) (if g = f then some u else mA g)
    rw [lookup_putF]
    by_cases q : g = f
    · rw [if_pos q,if_pos q]; exact ry
    · rw [if_neg q,if_neg q]; exact r g
  · by_cases q : g = f
    · rw [q]; exact (keys_putF f y fs).1
    · refine (keys_putF f y fs).2 g (wi g fun z => hg ?_)
      show (if g = f then some u else mA g) = none
      rw [if_neg q]; exact z

theorem Inv.made (I : Inv X pins σ H s) : Inv X pins σ (upd (upd H s.heap.objs.size (.own (s.heap.objs.size + 1))) (s.heap.objs.size + 1) (.ins C s.heap.objs.size []))
    { s with heap := (s.heap.push PySem.W.emptyDict).push (PySem.W.instObj C s.heap.objs.size) } := by
  have e1 : (s.heap.push PySem.W.emptyDict).get? s.heap.objs.size = some PySem.W.emptyDict := Heap.get?_push_size s.heap rfl
  have e2 : ((s.heap.push PySem.W.emptyDict).push (PySem.W.instObj C s.heap.objs.size)).get? (s.heap.objs.size + 1) = some (PySem.W.instObj C s.heap.objs.size) := by
    have := Heap.get?_push_size (s.heap.push PySem.W.emptyDict) (o := PySem.W.instObj C s.heap.objs.size) rfl
    rwa [Heap.size_push] at this
  have e3 : (s.heap.push PySem.W.emptyDict).Ns s.heap.objs.size (fun _ => none) := ⟨PySem.W.emptyDict,#[],_,e1,rfl,(fun e he => absurd he (by simp)),fun _ => rfl⟩
  have I1 := I.laid (a := s.heap.objs.size) (o := .own (s.heap.objs.size + 1)) (h' := s.heap.push PySem.W.emptyDict) (t' := s.toks) (fun b u q => Heap.get?_push_of_some _ q) (Nat.le_refl _) ⟨_,e1⟩
  refine I1.laid (a := s.heap.objs.size + 1) (o := .ins C s.heap.objs.size []) (t' := s.toks) (fun b u q => Heap.get?_push_of_some _ q) (Nat.le_of_eq (Heap.size_push _ _)) ?_
  have ne : s.heap.objs.size ≠ s.heap.objs.size + 1 := Nat.ne_of_lt (Nat.lt_succ_self _)
  refine ⟨by rw [upd_ne ne,upd_same],Nat.zero_le _,ne,e2,fun _ => none,(Heap.Ns1.of_empty e3).at fun o q => Heap.get?_push_of_some _ q,fun _ => True.intro,fun y hy => absurd rfl hy⟩

theorem attr_of {prog : Program} {w : World} {env : Env} {e : Expr} {f : Str} {pos : Pos} {s : Shared} {Q : Value → Shared → Prop} (hb : attributeBase e f env (eval e env) = eval e env)
    (h : wpAny (model prog w) A (eval e env) (fun o s₁ => wpAny (model prog w) A (getAttr o f true) Q E s₁) E s) : wpAny (model prog w) A (eval (.Attribute e f pos) env) Q E s :=
  Attribute_any_ h (by rw [arm_eval_Attribute,hb])
end

def tFld (K : PySem.W.Frag) (ta : TE) (f : Str) : TE := fun σ H Q => ta σ H fun x H1 => ∃ a C dx fs v,x = .ref a ∧ H1 a = some (.ins C dx fs) ∧ Cls K C ∧ NoAttr K C f ∧ fs.lookup f = some v ∧ Q v H1
def sFld (K : PySem.W.Frag) (ta tv : TE) (f : Str) : TS := fun D σ H => tv σ H fun y H1 => ta σ H1 fun x H2 => ∃ a C dx fs,x = .ref a ∧ H2 a = some (.ins C dx fs) ∧ Cls K C ∧ NoAttr K C f ∧ fs.length < 1000 ∧
  D.nx σ (upd H2 a (.ins C dx (putF f y fs)))
section
variable {X : Cx} {o e value : Expr} {f : Str} {pos pos' tpos : Pos} {ta tv : TE}
theorem pe_fld (he : PE X e ta) (hb : attributeBase e f X.env (eval e X.env) = eval e X.env) : PE X (.Attribute e f pos) (tFld X.K ta f) := by
  intro pins s σ H Q I h
  refine attr_of hb (thn (he pins s σ H _ I h) fun u s1 ⟨x,H1,I1,rx,a,C,dx,fs,v,ex,ea,c,n,l,q⟩ => ?_)
  subst ex
  obtain rfl : u = Value.ref a := rx
  exact getattr_ok I1 ea c n l fun u' s2 I2 ru => ⟨v,H1,I2,ru,q⟩
theorem ps_fld (ha : PE X o ta) (hv : PE X value tv) (hs : swapsWith value (some (.Attribute o f pos')) pos.line X.env = pure false) : PS X (.Assign [.Attribute o f pos'] value pos) (sFld X.K ta tv f) := by
  intro pins s σ H D I h
  refine plainObj_wpAny_Assign_Attribute (thn (hv pins s σ H _ I h) fun u s1 ⟨y,H1,I1,ry,q⟩ => thn (ha pins s1 σ H1 _ I1 q) fun ov s2 ⟨x,H2,I2,rx,a,C,dx,fs,ex,ea,c,n,l,q2⟩ => ?_) hs
  subst ex
  obtain rfl : ov = Value.ref a := rx
  exact setattr_ok I2 ea c n l ry fun s3 I3 => ⟨σ,_,I3,q2⟩
end

section
variable {X : Cx} {pins : List (Addr × Obj)} {σ : St} {H : Hp} {s : Shared} {A : Around} {E : Value → Shared → Prop} {Q : Value → Shared → Prop} {c : Value} {b : Bool}
inductive TyOf (K : PySem.W.Frag) (H : Hp) : V → Value → Prop where
  | non : TyOf K H .non (.type "NoneType")
  | bl (x : Bool) : TyOf K H (.bl x) (.type "bool")
  | int (i : Int) : TyOf K H (.int i) (.type "int")
  | str (x : Str) : TyOf K H (.str x) (.type "str")
  | flt (x : UInt64) : TyOf K H (.flt x) (.type "float")
  | lst {a : Addr} {xs : List V} (e : H a = some (.lst xs)) : TyOf K H (.ref a) (.type "list")
  | frz {a : Addr} {o : Obj} {xs : List V} (e : H a = some (.frz o (.lst xs))) : TyOf K H (.ref a) (.type "list")
  | tup {a : Addr} {xs : List V} (e : H a = some (.tup xs)) : TyOf K H (.ref a) (.type "tuple")
  | dK {a : Addr} {kvs : List (Key × V)} (e : H a = some (.dK kvs)) : TyOf K H (.ref a) (.type "dict")
  | dT {a : Addr} {kvs : List (List Key × V)} (e : H a = some (.dT kvs)) : TyOf K H (.ref a) (.type "dict")
  | ins {a C dx : Addr} {fs : List (Str × V)} (e : H a = some (.ins C dx fs)) (cl : Cls K C) (ha : PySem.W.findIn K (.ref C) "__class__" = some (some (.builtin "object.__class__")))
      (hn : PySem.W.specialIn K (.builtin "object.__class__") "__get__" = some (some (.builtin "getset_descriptor.__get__"))) (htk : PySem.W.takesIn K (.builtin "object.__class__") = some true)
      (hm : PySem.W.mroIn K C (.type "object") = some true) : TyOf K H (.ref a) (.ref C)
theorem isinst_ok {x : V} {u t : Value} (I : Inv X pins σ H s) (rx : RelV x u) (ty : TyOf X.K H x t) (e : PySem.W.kitOne X.K t c = some b) (h : ∀ tk,Q (.bool b) { s with toks := tk }) :
    wpAny (model X.prog X.w) A (call (.builtin "isinstance") [u,c]) Q E s := by
  cases ty with
  | non => cases (show u = Value.none from rx); exact PySem.W.kia_one PySem.W.kitx_none I.kIn True.intro e (fun z => nomatch z) h
  | bl y => cases (show u = Value.bool y from rx); exact PySem.W.kia_one PySem.W.kitx_bool I.kIn True.intro e (fun z => nomatch z) h
  | int i => obtain ⟨t,q⟩ := (show ∃ t,u = Value.int i t from rx); cases q; exact PySem.W.kia_one PySem.W.kitx_int I.kIn True.intro e (fun z => nomatch z) h
  | str y => obtain ⟨t,q⟩ := (show ∃ t,u = Value.str y t from rx); cases q; exact PySem.W.kia_one PySem.W.kitx_str I.kIn True.intro e (fun z => nomatch z) h
  | flt y => obtain ⟨t,q⟩ := (show ∃ t,u = Value.float y t from rx); cases q; exact PySem.W.kia_one PySem.W.kitx_float I.kIn True.intro e (fun z => nomatch z) h
  | @lst a xs ea =>
    cases (show u = Value.ref a from rx)
    obtain ⟨_,_,n,_,h1⟩ := (show ObjOk X.prog X.w H s.heap a (.lst xs) from I.hok a _ ea)
    exact PySem.W.kia_one PySem.W.kitx_list I.kIn ⟨_,h1,rfl⟩ e (fun z => nomatch z) h
  | @frz a ob xs ea =>
    cases (show u = Value.ref a from rx)
    obtain ⟨_,_,_,n,_,h1⟩ := (show ObjOk X.prog X.w H s.heap a (.frz ob (.lst xs)) from I.hok a _ ea)
    exact PySem.W.kia_one PySem.W.kitx_list I.kIn ⟨_,h1,rfl⟩ e (fun z => nomatch z) h
  | @tup a xs ea =>
    cases (show u = Value.ref a from rx)
    obtain ⟨_,_,_,p⟩ := (show ObjOk X.prog X.w H s.heap a (.tup xs) from I.hok a _ ea)
    obtain ⟨o,h1,h2,_⟩ := p
    exact PySem.W.kia_one PySem.W.kitx_tuple I.kIn ⟨o,h1,h2⟩ e (fun z => nomatch z) h
  | @dK a kvs ea =>
    cases (show u = Value.ref a from rx)
    obtain ⟨_,_,vs,_,p⟩ := (show ObjOk X.prog X.w H s.heap a (.dK kvs) from I.hok a _ ea)
    obtain ⟨o,es,ep,h1,h2,_⟩ := p
    exact PySem.W.kia_one PySem.W.kitx_dict I.kIn ⟨o,h1,h2.1⟩ e (fun z => nomatch z) h
  | @dT a kvs ea =>
    cases (show u = Value.ref a from rx)
    obtain ⟨_,_,xs,_,o,es,ep,h1,h2,_⟩ := (show ObjOk X.prog X.w H s.heap a (.dT kvs) from I.hok a _ ea)
    exact PySem.W.kia_one PySem.W.kitx_dict I.kIn ⟨o,h1,h2.1⟩ e (fun z => nomatch z) h
  | @ins a C dx fs ea cl ha hn htk hm =>
    cases (show u = Value.ref a from rx)
    obtain ⟨mA,O,_⟩ := ins_get I.hok ea
    obtain ⟨od,J,_⟩ := O.look
    exact PySem.W.kia_one (PySem.W.kitx_own (cl.get _) cl.hd ha hn htk hm) I.kIn J e (fun z => nomatch z) h
end
end L2

namespace L2
open PySem PySem.Spec PyProof.Rows

structure Room (k : Nat) (A : Around) : Prop where
  hd : A.handled = none
  dp : A.depth + 3 * k + 5 < recursionLimit
  un : A.units + 16 * k + 200 < cLine
theorem Room.mono {j k : Nat} {A : Around} (r : Room k A) (h : j ≤ k) : Room j A := ⟨r.hd,by have := r.dp; omega,by have := r.un; omega⟩
theorem Room.deeper {k : Nat} {A : Around} (r : Room (k + 1) A) (env : Env) : Room k (A.deeper env) :=
  ⟨r.hd,by have := r.dp; show A.depth + 1 + 3 * k + 5 < _; omega,by have := r.un; show A.units + 3 + 16 * k + 200 < _; omega⟩
theorem make_depth {A : Around} {C : Addr} {us : List Value} {kw : List (Str × Value)} : (A.under (.builtin "type.__call__" ⟨.ref C :: us,kw⟩)).depth = A.depth + 1 := by
  first | rfl | simp [Around.under,Code.weight,Code.isCreation,Code.isGuard,Code.isCaller,Code.frames,Code.isFrame,guardIds]
theorem make_units {A : Around} {C : Addr} {us : List Value} {kw : List (Str × Value)} : (A.under (.builtin "type.__call__" ⟨.ref C :: us,kw⟩)).units = A.units + 1 := by
  first | rfl | simp [Around.under,Code.cUnits,Code.frames,Code.isFrame]
theorem Room.make {k : Nat} {A : Around} (r : Room (k + 1) A) (C : Addr) (us : List Value) (kw : List (Str × Value)) : Room k (A.under (.builtin "type.__call__" ⟨.ref C :: us,kw⟩)) :=
  ⟨r.hd,by have := r.dp; rw [make_depth]; omega,by have := r.un; rw [make_units]; omega⟩
theorem Room.depth {k : Nat} {A : Around} (r : Room k A) : A.depth < recursionLimit := by have := r.dp; omega
theorem Room.units {k : Nat} {A : Around} (r : Room k A) : A.units + 64 < cLine := by have := r.un; omega
def tNil : TA := fun _ H Q => Q [] H
def tCons (ta : TE) (tr : TA) : TA := fun σ H Q => ta σ H fun x H1 => tr σ H1 fun xs H2 => Q (x :: xs) H2
section
variable {X : Cx} {e : Expr} {es : List Expr} {te : TE} {t : TA} {pos : Pos}
theorem pa_nil : PA X [] tNil := fun _ _ _ _ H Q I h => Calls.spliced_nil ⟨[],H,I,.nil,h⟩
theorem pa_cons (ha : PE X e te) (hr : PA X es t) (hs : starEach (e :: es) X.env = (false,eval e X.env) :: starEach es X.env := by rfl) : PA X (e :: es) (tCons te t) := by
  intro pos pins s σ H Q I h
  rw [hs]
  show wpAny _ _ (spliced ((false,eval e X.env) :: backTo pos (starEach es X.env))) _ _ s
  refine Calls.spliced_cons (thn (ha pins s σ H _ I h) fun u s1 ⟨x,H1,I1,r1,q1⟩ => ?_)
  exact thn (hr pos pins s1 σ H1 _ I1 q1) fun us s2 ⟨xs,H2,I2,r2,q2⟩ => ⟨x :: xs,H2,I2,.cons r1 r2,q2⟩

def tTup (t : TA) : TE := fun σ H Q => t σ H fun xs H1 => xs.length ≤ sizeLine ∧ ∀ p,H1 p = none → Q (.ref p) (upd H1 p (.tup xs))
def tLst (t : TA) : TE := fun σ H Q => t σ H fun xs H1 => xs.length ≤ sizeLine ∧ ∀ p,H1 p = none → Q (.ref p) (upd H1 p (.lst xs))
theorem pe_tup {x1} (h : PA X es t) : PE X (.Tuple es x1 pos) (tTup t) := by
  intro pins s σ H Q I hq
  refine wpAny_Tuple_spliced (thn (h pos pins s σ H _ I hq) fun us s1 ⟨xs,H1,I1,r,z,q⟩ => ⟨by rw [← r.length]; exact z,?_⟩)
  have hf : H1 s1.heap.objs.size = none := I1.hok.fresh (Nat.le_refl _)
  refine ⟨.ref s1.heap.objs.size,upd H1 s1.heap.objs.size (.tup xs),I1.laid (t' := s1.toks) (fun b u e => Heap.get?_push_of_some _ e) (Nat.le_refl _) ?_,rfl,q _ hf⟩
  exact ⟨z,us,r,⟨_,Heap.get?_push_size _ rfl,rfl,_,rfl⟩⟩
theorem pe_lst (h : PA X es t) : PE X (.List es pos) (tLst t) := by
  intro pins s σ H Q I hq
  refine wpAny_List_spliced (thn (h pos pins s σ H _ I hq) fun us s1 ⟨xs,H1,I1,r,z,q⟩ => ⟨by rw [← r.length]; exact z,?_⟩)
  have hf : H1 s1.heap.objs.size = none := I1.hok.fresh (Nat.le_refl _)
  refine ⟨.ref s1.heap.objs.size,upd H1 s1.heap.objs.size (.lst xs),I1.laid (t' := s1.toks) (fun b u e => Heap.get?_push_of_some _ e) (Nat.le_refl _) ?_,rfl,q _ hf⟩
  exact ⟨z,us,0,r,Heap.get?_push_size _ rfl⟩
end

abbrev Sp := List V → Hp → VK → XK → Prop
abbrev CXT := List Env → Hp → Shared → XK → Value → Shared → Prop

structure Env0 (P : Program) (w : World) (K : PySem.W.Frag) (mg : Str → Option Value) (base : Heap) (A : Around) (outer : List Env) (s : Shared) (H : Hp) : Prop where
  frames : A.frames = some outer
  mod : Mod K mg base
  bs : ∀ b o,base.get? b = some o → s.heap.get? b = some o ∧ H b = none
  bsz : base.objs.size ≤ s.heap.objs.size
  funs : s.heap.FunFrames base outer
  frf : ∀ b ∈ frs outer,H b = none
  hok : HOk P w H s.heap
  bare : AllBare s.gens
def CE (outer : List Env) (P : Program) (w : World) (H : Hp) (s : Shared) (Q : VK) (u : Value) (s' : Shared) : Prop :=
  ∃ v H',s'.os = s.os ∧ AllBare s'.gens ∧ Un (frs outer) [] H H' s.heap s'.heap ∧ HOk P w H' s'.heap ∧ RelV v u ∧ Q v H'
def CR (CX : CXT) (outer : List Env) (P : Program) (w : World) (H : Hp) (s : Shared) (Q : VK) (E : XK) (r : Result) (s' : Shared) : Prop :=
  match r with
  | .ok (.ret u) => CE outer P w H s Q u s'
  | .ok _ => False
  | .error e => CX outer H s E e s'
structure FnOk (P : Program) (w : World) (K : PySem.W.Frag) (mg : Str → Option Value) (base : Heap) (CX : CXT) (k : Nat) (f : Addr) (fd : FuncData) (ps : List Str) (sp : Sp) : Prop where
  len : ∀ vs H Q E,sp vs H Q E → vs.length = ps.length
  run : ∀ (A : Around) (outer : List Env) (s : Shared) (H : Hp) (args : Args) (us : List Value) (vs : List V) (Q : VK) (E : XK),Room k A → Env0 P w K mg base A outer s H → BindsTo s fd args (ps.zip us) → Vals vs us → sp vs H Q E →
    codeAny (model P w) A (.call (.ref f) args) (CR CX outer P w H s Q E) s
theorem FnOk.mono {P : Program} {w : World} {K : PySem.W.Frag} {mg : Str → Option Value} {base : Heap} {CX : CXT} {j k : Nat} {f : Addr} {fd : FuncData} {ps : List Str} {sp : Sp} (F : FnOk P w K mg base CX j f fd ps sp) (h : j ≤ k) :
    FnOk P w K mg base CX k f fd ps sp := ⟨F.len,fun A outer s H args us vs Q E hr => F.run A outer s H args us vs Q E (hr.mono h)⟩
theorem Env0.make {P : Program} {w : World} {K : PySem.W.Frag} {mg : Str → Option Value} {base : Heap} {A : Around} {outer : List Env} {s : Shared} {H : Hp} (e : Env0 P w K mg base A outer s H) (C : Addr) (us : List Value) (kw : List (Str × Value)) :
    Env0 P w K mg base (A.under (.builtin "type.__call__" ⟨.ref C :: us,kw⟩)) outer s H := ⟨by first | exact e.frames | (simpa [Around.under,Code.envs,Code.isFrame,pushEnvs] using e.frames),e.mod,e.bs,e.bsz,e.funs,e.frf,e.hok,e.bare⟩
section
variable {X : Cx} {pins : List (Addr × Obj)} {σ : St} {H : Hp} {s s' : Shared}
theorem Inv.env0 (I : Inv X pins σ H s) : Env0 X.prog X.w X.K X.mg X.base X.A X.stack s H :=
  ⟨I.ok.frames,I.ok.mod,I.bs,Nat.le_trans I.ok.bsz I.sz,I.stack,I.stkFree,I.hok,I.bare⟩
theorem Inv.after {Q : VK} {u : Value} (I : Inv X pins σ H s) (h : CE X.stack X.prog X.w H s Q u s') : EP X pins σ Q u s' := by
  obtain ⟨v,H',os,bare,un,hok,r,q⟩ := h
  obtain ⟨hh,g,d,t,os'⟩ := s'
  obtain rfl : os' = s.os := os
  exact ⟨v,H',I.call (h' := hh) (g' := g) (d' := d) (t' := t) (ch := []) un hok bare (fun b z => absurd z (by simp)),r,q⟩
end

def tCall (sp : Sp) (dvs : List V) (E : XK) (t : TA) : TE := fun σ H Q => t σ H fun vs H1 => sp (vs ++ dvs) H1 Q E
def tMeth (C : Addr) (m : Str) (sp : Sp) (dvs : List V) (E : XK) (ta : TE) (t : TA) : TE := fun σ H Q => ta σ H fun x H1 => ∃ a dx fs,x = .ref a ∧ H1 a = some (.ins C dx fs) ∧ fs.lookup m = none ∧
  t σ H1 fun vs H2 => sp (x :: (vs ++ dvs)) H2 Q E
def tMake (C : Addr) (sp : Sp) (dvs : List V) (E : XK) (t : TA) : TE := fun σ H Q => t σ H fun vs H1 => ∀ x dx,H1 x = none → H1 dx = none → dx ≠ x →
  sp (.ref x :: (vs ++ dvs)) (upd (upd H1 dx (.own x)) x (.ins C dx [])) (fun v H2 => v = .non ∧ Q (.ref x) H2) E

def Binds (K : PySem.W.Frag) (fd : FuncData) (ps : List Str) (ds : List Value) : Prop :=
  ∀ (s : Shared) (us : List Value),K.In s.heap → (us ++ ds).length = ps.length → BindsTo s fd ⟨us,[]⟩ (ps.zip (us ++ ds))
theorem Binds.all {K : PySem.W.Frag} {fd : FuncData} {ps : List Str} (h : ∀ us : List Value,us.length = ps.length → bindArgs fd ⟨us,[]⟩ = pure (ps.zip us)) : Binds K fd ps [] := fun s us _ hl => by
  rw [List.append_nil] at hl ⊢
  exact .of_eq (h us hl)

def Passes (CX : CXT) (X : Cx) (E : XK) : Prop := ∀ (pins : List (Addr × Obj)) (σ : St) (H : Hp) (s : Shared) (e : Value) (s' : Shared),Inv X pins σ H s → CX X.stack H s E e s' → X.xe e s'

section
variable {X : Cx} {CX : CXT} {k : Nat} {f C : Addr} {fd : FuncData} {ps : List Str} {sp : Sp} {dvs : List V} {ds : List Value} {E : XK} {x m : Str} {p pos apos : Pos} {e o : Expr} {es : List Expr} {ta : TE} {t : TA}

theorem run_fn {pins : List (Addr × Obj)} {σ : St} {H : Hp} {s : Shared} {Q : VK} {us : List Value} {vs : List V} (F : FnOk X.prog X.w X.K X.mg X.base CX k f fd ps sp) (hr : Room k X.A) (hb : Binds X.K fd ps ds) (hd : Vals dvs ds) (hx : Passes CX X E)
    (I : Inv X pins σ H s) (r : Vals vs us) (h : sp (vs ++ dvs) H Q E) : wpAny (model X.prog X.w) X.A (call (.ref f) us) (EP X pins σ Q) X.xe s := by
  have r2 : Vals (vs ++ dvs) (us ++ ds) := r.append hd
  have hl : (us ++ ds).length = ps.length := by rw [← r2.length]; exact F.len _ _ _ _ h
  refine wpAny_call (codeAny_mono (F.run X.A X.stack s H ⟨us,[]⟩ (us ++ ds) (vs ++ dvs) Q E hr I.env0 (hb s us I.kIn hl) r2 h) fun r s' hq => ?_)
  cases r with
  | error e => exact hx pins σ H s e s' I hq
  | ok fl =>
    cases fl with
    | ret u => exact I.after hq
    | next => exact False.elim hq
    | brk => exact False.elim hq
    | cont => exact False.elim hq

theorem pe_call (F : FnOk X.prog X.w X.K X.mg X.base CX k f fd ps sp) (hr : Room k X.A) (hg : Gl X x) (hm : X.mg x = some (.ref f)) (hk : PySem.W.keepIn X.K (.ref f) = true) (hb : Binds X.K fd ps ds) (hd : Vals dvs ds) (hx : Passes CX X E)
    (ha : PA X (e :: es) t) (hdb : (x == ("__debug__" : Str)) = false := by decide) (he : starEach (e :: es) X.env = (false,eval e X.env) :: starEach es X.env := by rfl) (hpl : (backTo pos (starEach es X.env)).any (·.1) = false := by rfl) :
    PE X (.Call (.Name x p) (e :: es) [] pos) (tCall sp dvs E t) := by
  intro pins s σ H Q I h
  refine wpAny_Call_Name_kw (ld_glob I hg hm ?_ hdb)
  refine PySem.W.callWith_K (h₀ := X.base) I.ok.mod.kin hk (thn (ha pos pins s σ H _ I h) fun us s1 ⟨vs,H1,I1,r,q⟩ => ⟨I1.kIn,?_⟩) he hpl
  exact run_fn F hr hb hd hx I1 r q
theorem pe_meth {pl : Sem Bool} (he : PE X o ta) (c : Cls X.K C) (hm : Meth X.K C m f) (F : FnOk X.prog X.w X.K X.mg X.base CX k f fd ps sp) (hr : Room k X.A) (hb : Binds X.K fd ps ds) (hd : Vals dvs ds) (hx : Passes CX X E) (ha : PA X (e :: es) t)
    (hst : starEach (e :: es) X.env = (false,eval e X.env) :: starEach es X.env := by rfl) (hpl : (backTo pos (starEach es X.env)).any (·.1) = false := by rfl)
    (ht : eval (.Call (.Attribute o m apos) (e :: es) [] pos) X.env = (do
      let ov ← eval o X.env
      standAt apos.atName
      let (f,first) ← holding [ov] (getMethod ov m pl)
      callWith pos f first (backTo pos (starEach (e :: es) X.env)) (backToKw pos (keywordEach [] X.env))) := by rfl) :
    PE X (.Call (.Attribute o m apos) (e :: es) [] pos) (tMeth C m sp dvs E ta t) := by
  intro pins s σ H Q I h
  refine PySem.W.methodCall_KW (pl := pl) (thn (he pins s σ H _ I h) fun u s1 ⟨x,H1,I1,rx,a,dx,fs,ex,ea,l,q⟩ => ?_) ht
  subst ex
  obtain rfl : u = Value.ref a := rx
  refine getmeth_ok I1 ea c hm l ?_
  refine PySem.W.callWith_K (first := [.ref a]) (h₀ := X.base) I.ok.mod.kin hm.kp (thn (ha pos pins s1 σ H1 _ I1 q) fun us s2 ⟨vs,H2,I2,r,q2⟩ => ⟨I2.kIn,?_⟩) hst hpl
  exact run_fn (us := .ref a :: us) (vs := .ref a :: vs) F hr hb hd hx I2 (.cons rfl r) q2
theorem pe_meth0 {pl : Sem Bool} (he : PE X o ta) (c : Cls X.K C) (hm : Meth X.K C m f) (F : FnOk X.prog X.w X.K X.mg X.base CX k f fd ps sp) (hr : Room k X.A) (hb : Binds X.K fd ps ds) (hd : Vals dvs ds) (hx : Passes CX X E)
    (ht : eval (.Call (.Attribute o m apos) [] [] pos) X.env = (do
      let ov ← eval o X.env
      standAt apos.atName
      let (f,first) ← holding [ov] (getMethod ov m pl)
      callWith pos f first (backTo pos (starEach [] X.env)) (backToKw pos (keywordEach [] X.env))) := by rfl) :
    PE X (.Call (.Attribute o m apos) [] [] pos) (tMeth C m sp dvs E ta tNil) := by
  intro pins s σ H Q I h
  refine PySem.W.methodCall_KW (pl := pl) (thn (he pins s σ H _ I h) fun u s1 ⟨x,H1,I1,rx,a,dx,fs,ex,ea,l,q⟩ => ?_) ht
  subst ex
  obtain rfl : u = Value.ref a := rx
  refine getmeth_ok I1 ea c hm l ?_
  exact PySem.W.callWith_K0 (first := [.ref a]) I1.kIn hm.kp (run_fn (us := [.ref a]) (vs := [.ref a]) F hr hb hd hx I1 (.cons rfl .nil) q)

structure Mk (K : PySem.W.Frag) (C f : Addr) : Prop where
  makes : PySem.W.makesIn K C = true
  init : PySem.W.findIn K (.ref C) "__init__" = some (some (.ref f))
  fn : PySem.W.isFn K (.ref f) = true
  kp : PySem.W.keepIn K (.ref C) = true

theorem run_make {pins : List (Addr × Obj)} {σ : St} {H : Hp} {s : Shared} {Q : VK} {us : List Value} {vs : List V} (M : Mk X.K C f) (F : FnOk X.prog X.w X.K X.mg X.base CX k f fd ps sp) (hr : Room (k + 1) X.A) (hb : Binds X.K fd ps ds) (hd : Vals dvs ds)
    (hx : Passes CX X E) (I : Inv X pins σ H s) (r : Vals vs us)
    (h : ∀ x dx,H x = none → H dx = none → dx ≠ x → sp (.ref x :: (vs ++ dvs)) (upd (upd H dx (.own x)) x (.ins C dx [])) (fun v H2 => v = .non ∧ Q (.ref x) H2) E) :
    wpAny (model X.prog X.w) X.A (call (.ref C) us) (EP X pins σ Q) X.xe s := by
  have hq := h (s.heap.objs.size + 1) s.heap.objs.size (I.hok.fresh (Nat.le_succ _)) (I.hok.fresh (Nat.le_refl _)) (Nat.ne_of_lt (Nat.lt_succ_self _))
  have I2 := Inv.made (C := C) I
  have r2 : Vals (V.ref (s.heap.objs.size + 1) :: (vs ++ dvs)) (Value.ref (s.heap.objs.size + 1) :: (us ++ ds)) := .cons rfl (r.append hd)
  have hl : (Value.ref (s.heap.objs.size + 1) :: us ++ ds).length = ps.length := by
    have e := r2.length
    rw [F.len _ _ _ _ hq] at e
    exact e.symm
  refine wpAny_call (make_map (f := f) I.kIn M.makes M.init (beq_iff_eq.mp M.fn) (codeAny_mono (F.run _ X.stack _ _ ⟨Value.ref (s.heap.objs.size + 1) :: us,[]⟩ (Value.ref (s.heap.objs.size + 1) :: (us ++ ds)) _ _ E (hr.make C us [])
    (I2.env0.make C us []) (hb _ (Value.ref (s.heap.objs.size + 1) :: us) I2.kIn hl) r2 hq) fun r s' hq' => ?_))
  cases r with
  | error e => exact hx pins σ _ _ e s' I2 hq'
  | ok fl =>
    cases fl with
    | ret u =>
      obtain ⟨v,H',I3,rv,ev,q3⟩ := I2.after hq'
      subst ev
      exact ⟨rv,⟨V.ref (s.heap.objs.size + 1),H',I3,rfl,q3⟩⟩
    | next => exact False.elim hq'
    | brk => exact False.elim hq'
    | cont => exact False.elim hq'
theorem pe_make (M : Mk X.K C f) (F : FnOk X.prog X.w X.K X.mg X.base CX k f fd ps sp) (hr : Room (k + 1) X.A) (hg : Gl X x) (hm : X.mg x = some (.ref C)) (hb : Binds X.K fd ps ds) (hd : Vals dvs ds) (hx : Passes CX X E)
    (ha : PA X (e :: es) t) (hdb : (x == ("__debug__" : Str)) = false := by decide) (he : starEach (e :: es) X.env = (false,eval e X.env) :: starEach es X.env := by rfl) (hpl : (backTo pos (starEach es X.env)).any (·.1) = false := by rfl) :
    PE X (.Call (.Name x p) (e :: es) [] pos) (tMake C sp dvs E t) := by
  intro pins s σ H Q I h
  refine wpAny_Call_Name_kw (ld_glob I hg hm ?_ hdb)
  refine PySem.W.callWith_K (h₀ := X.base) I.ok.mod.kin M.kp (thn (ha pos pins s σ H _ I h) fun us s1 ⟨vs,H1,I1,r,q⟩ => ⟨I1.kIn,?_⟩) he hpl
  exact run_make M F hr hb hd hx I1 r q
end

def PK (X : Cx) (kws : List Keyword) (t : TA) : Prop :=
  ∀ (pos : Pos) (pins : List (Addr × Obj)) (s : Shared) (σ : St) (H : Hp) (Q : List V → Hp → Prop),Inv X pins σ H s → t σ H Q → wpAny (model X.prog X.w) X.A (evalAll ((backToKw pos (keywordEach kws X.env)).map (·.2))) (AP X pins σ Q) X.xe s
section
variable {X : Cx} {CX : CXT} {k : Nat} {f C : Addr} {fd : FuncData} {ps ks : List Str} {sp : Sp} {E : XK} {x m : Str} {p pos apos kpos : Pos} {e o : Expr} {es : List Expr} {kws : List Keyword} {te ta : TE} {t tk : TA} {nm : Option Str}
theorem pk_nil : PK X [] tNil := fun _ _ _ _ H Q I h => wpAny_evalAll_nil ⟨[],H,I,.nil,h⟩
theorem pk_cons (ha : PE X e te) (hr : PK X kws t) : PK X (⟨nm,e,kpos⟩ :: kws) (tCons te t) := by
  intro pos pins s σ H Q I h
  show wpAny _ _ (evalAll ((do let v ← eval e X.env; standAt pos; pure v) :: (backToKw pos (keywordEach kws X.env)).map (·.2))) _ _ s
  refine wpAny_evalAll_cons (wpAny_bind (thn (ha pins s σ H _ I h) fun u s1 ⟨x,H1,I1,r1,q1⟩ => wpAny_bind (wpAny_standAt (wpAny_pure ?_))))
  exact thn (hr pos pins s1 σ H1 _ I1 q1) fun us s2 ⟨xs,H2,I2,r2,q2⟩ => ⟨x :: xs,H2,I2,.cons r1 r2,q2⟩

variable {g : List Value → List Value → List Value} {gV : List V → List V → List V}
end

structure FnScope (N P : List Str) (sc : Scope) : Prop where
  kind : sc.kind = .function
  co : sc.isCoroutine = false
  gen : sc.isGenerator = false
  nd : N.Nodup
  pre : N.take P.length = P
  par : ∀ x ∈ P,sc.names.lookup x = some .local ∨ sc.names.lookup x = some .cell
  nofree : ∀ y ∈ sc.names,y.2 ≠ .free

theorem bindL_out {kindOf : Str → Option NameKind} {x : Str} : ∀ {binds : List (Str × Value)} {m : Str → Option Value},(∀ v,(x,v) ∉ binds) → bindL kindOf binds m x = m x
  | [],_,_ => rfl
  | (n,v) :: r,m,h => by
    unfold bindL
    rw [bindL_out fun w hw => h w (List.mem_cons_of_mem _ hw)]
    split
    · have : x ≠ n := by rintro rfl; exact h v List.mem_cons_self
      simp [this]
    · rfl
theorem bindC_out {kindOf : Str → Option NameKind} {x : Str} : ∀ {binds : List (Str × Value)} {m : Str → Option Value},(∀ v,(x,v) ∉ binds) → bindC kindOf binds m x = m x
  | [],_,_ => rfl
  | (n,v) :: r,m,h => by
    unfold bindC
    rw [bindC_out fun w hw => h w (List.mem_cons_of_mem _ hw)]
    split
    · rfl
    · have : x ≠ n := by rintro rfl; exact h v List.mem_cons_self
      simp [this]
theorem bindL_get {kindOf : Str → Option NameKind} {x : Str} {v : Value} : ∀ {P : List Str} {vs : List Value} {i : Nat} {m : Str → Option Value},P.Nodup → P[i]? = some x → vs[i]? = some v → kindOf x = some .local →
    bindL kindOf (P.zip vs) m x = some v
  | [],_,_,_,_,h,_,_ => by simp at h
  | _ :: _,[],_,_,_,_,h,_ => by simp at h
  | p :: P,w :: vs,0,m,nd,h1,h2,hk => by
    simp at h1 h2; subst h1; subst h2
    show bindL kindOf ((p,w) :: P.zip vs) m p = _
    unfold bindL
    rw [bindL_out fun v hv => (List.nodup_cons.mp nd).1 (List.of_mem_zip hv).1,if_pos hk]
    simp
  | p :: P,w :: vs,i + 1,m,nd,h1,h2,hk => by
    show bindL kindOf ((p,w) :: P.zip vs) m x = _
    unfold bindL
    exact bindL_get (i := i) (List.nodup_cons.mp nd).2 (by simpa using h1) (by simpa using h2) hk
theorem bindC_get {kindOf : Str → Option NameKind} {x : Str} {v : Value} : ∀ {P : List Str} {vs : List Value} {i : Nat} {m : Str → Option Value},P.Nodup → P[i]? = some x → vs[i]? = some v → kindOf x ≠ some .local →
    bindC kindOf (P.zip vs) m x = some v
  | [],_,_,_,_,h,_,_ => by simp at h
  | _ :: _,[],_,_,_,_,h,_ => by simp at h
  | p :: P,w :: vs,0,m,nd,h1,h2,hk => by
    simp at h1 h2; subst h1; subst h2
    show bindC kindOf ((p,w) :: P.zip vs) m p = _
    unfold bindC
    rw [bindC_out fun v hv => (List.nodup_cons.mp nd).1 (List.of_mem_zip hv).1,if_neg hk]
    simp
  | p :: P,w :: vs,i + 1,m,nd,h1,h2,hk => by
    show bindC kindOf ((p,w) :: P.zip vs) m x = _
    unfold bindC
    exact bindC_get (i := i) (List.nodup_cons.mp nd).2 (by simpa using h1) (by simpa using h2) hk

def start (N : List Str) (vs : List V) : St := vs.map some ++ List.replicate (N.length - vs.length) none

def cxOf (CX : CXT) (P : Program) (w : World) (K : PySem.W.Frag) (mg : Str → Option Value) (base : Heap) (N : List Str) (qual : Str) (scope : Scope) (f : Addr) (cd : Value) (A : Around) (outer : List Env) (s : Shared) (H : Hp) (E : XK) : Cx where
  prog := P
  w := w
  K := K
  mg := mg
  base := base
  A := A.deeper (envOfC qual scope s.heap.objs.size f cd)
  N := N
  s₀ := s
  H₀ := H
  env := envOfC qual scope s.heap.objs.size f cd
  outer := outer
  stack := envOfC qual scope s.heap.objs.size f cd :: outer
  ex := []
  calm := true
  fn := fun _ => true
  pn := []
  xe := fun e s' => wpAny (model P w) (A.deeper (envOfC qual scope s.heap.objs.size f cd)) (leaving (envOfC qual scope s.heap.objs.size f cd) e) (fun _ s'' => CX outer H s E e s'') (fun e' s'' => CX outer H s E e' s'') s'

theorem cell_has {sc : Scope} {n : Nat} {x : Str} (h : sc.names.lookup x = some .cell) : ∃ c,(cellsFrom n sc.names []).lookup x = some c := by
  have q := PySem.W.cellsFrom_some sc.names n [] (.inl h)
  exact Option.isSome_iff_exists.mp q

theorem inv_start {CX : CXT} {P : Program} {w : World} {K : PySem.W.Frag} {mg : Str → Option Value} {base : Heap} {N ps : List Str} {qual : Str} {scope : Scope} {f : Addr} {cd : Value} {A : Around} {outer : List Env} {s s1 : Shared} {H : Hp} {E : XK} {us : List Value} {vs : List V}
    (S : FnScope N ps scope) (hd : A.handled = none) (e0 : Env0 P w K mg base A outer s H) (hl : vs.length = ps.length) (r : Vals vs us)
    (x : InCallC s s.heap.objs.size (bindL (envOfC qual scope s.heap.objs.size f cd).kindOf (ps.zip us) fun _ => none) (cellsFrom (s.heap.objs.size + 1) scope.names []) (bindC (envOfC qual scope s.heap.objs.size f cd).kindOf (ps.zip us) fun _ => none) s1) :
    Inv (cxOf CX P w K mg base N qual scope f cd A outer s H E) [] (start N vs) H s1 := by
  have hpl : ps.length ≤ N.length := by have := congrArg List.length S.pre; rw [List.length_take] at this; omega
  obtain ⟨h1,tk,rfl,hk⟩ := x.done
  have noA : ∀ b : Addr,b ∉ (cxOf CX P w K mg base N qual scope f cd A outer s H E).ex := fun b z => absurd (show b ∈ ([] : List Addr) from z) (by simp)
  refine ⟨⟨e0.mod,S.kind,rfl,rfl,Nat.le_refl _,fun y z c h1 h2 => ?_,fun y hy => ?_,fun y c _ h => ?_,fun _ => hd,Around.frames_deeper e0.frames,.inr ⟨rfl,rfl⟩,fun b z => absurd z (noA b),e0.bs,e0.bsz,fun b _ _ => noA b,fun b z => absurd z (noA b),e0.funs,e0.frf⟩,
    rfl,e0.bare,Un.kept hk,⟨_,x.toInCall.ns,fun i y v h1 h2 h3 => ?_⟩,fun y c h => ⟨_,x.cell y c h⟩,e0.hok.fresh (Nat.le_refl _),fun y c h => ?_,fun p hp => absurd (show p ∈ ([] : List (Addr × Obj)) from hp) (by simp),e0.hok.kept hk,?_⟩
  · exact name_of_addr x.apart (PySem.mem_of_lookup h1) (PySem.mem_of_lookup h2)
  · have hy : scope.names.lookup y = some .cell ∨ scope.names.lookup y = some .free := hy
    rcases hy with hy | hy
    · exact cell_has hy
    · exact absurd rfl (S.nofree _ (PySem.mem_of_lookup hy))
  · exact Nat.le_of_lt (x.above y c (PySem.mem_of_lookup h))
  · have hi : i < vs.length := by
      unfold start at h2
      by_cases hi : i < vs.length
      · exact hi
      · rw [List.getElem?_append_right (by simpa using hi)] at h2
        rw [List.getElem?_replicate] at h2
        split at h2 <;> cases h2
    have ha : vs[i]? = some v := by
      unfold start at h2
      rw [List.getElem?_append_left (by simpa using hi),List.getElem?_map] at h2
      cases e : vs[i]? with
      | none => rw [e] at h2; cases h2
      | some a => rw [e] at h2; cases h2; rfl
    obtain ⟨u,hu,rv⟩ := r.get ha
    have hp : ps[i]? = some y := by
      rw [← S.pre,List.getElem?_take_of_lt (by omega)]; exact h1
    have ndP : ps.Nodup := by rw [← S.pre]; exact S.nd.sublist (List.take_sublist _ _)
    refine ⟨u,rv,?_⟩
    rcases S.par y (List.mem_of_getElem? hp) with k | k
    · exact .inl ⟨k,bindL_get ndP hp hu k⟩
    · obtain ⟨c,e⟩ := cell_has (n := s.heap.objs.size + 1) k
      refine .inr ⟨.inl k,c,e,?_⟩
      have q := x.cell y c e
      rw [bindC_get ndP hp hu (by show scope.names.lookup y ≠ _; rw [k]; decide)] at q
      exact q
  · exact e0.hok.fresh (Nat.le_of_lt (x.above y c (PySem.mem_of_lookup h)))
  · unfold start
    show _ = N.length
    rw [List.length_append,List.length_map,List.length_replicate]
    omega

theorem fn_of {CX : CXT} {P : Program} {w : World} {K : PySem.W.Frag} {mg : Str → Option Value} {base : Heap} {k : Nat} {f : Addr} {name qual : Str} {params : Arguments} {body : List Stmt} {scope : Scope} {dV kV doc pm cdv ct oc : Value} {an od : Option Addr}
    {osl : Array (Option Value)} {N ps : List Str} {sp : Sp} (lk : K.lookup f = some ⟨oc,od,.func (PySem.W.fnOf name qual params body scope dV kV doc pm an cdv ct),osl⟩) (hcd : PySem.W.codeIn K cdv qual = true) (S : FnScope N ps scope)
    (len : ∀ vs H Q E,sp vs H Q E → vs.length = ps.length)
    (hbody : ∀ (A : Around) (outer : List Env) (s : Shared) (H : Hp) (vs : List V) (Q : VK) (E : XK),Room k (A.deeper (envOfC qual scope s.heap.objs.size f cdv)) → sp vs H Q E →
      ∃ t,PSs (cxOf CX P w K mg base N qual scope f cdv A outer s H E) body t ∧ t { nx := fun _ H' => Q .non H',rt := Q } (start N vs) H) :
    FnOk P w K mg base CX (k + 1) f (PySem.W.fnOf name qual params body scope dV kV doc pm an cdv ct) ps sp := by
  refine ⟨len,fun A outer s H args us vs Q E hr e0 hb r hsp => ?_⟩
  have hl := len _ _ _ _ hsp
  have KX : K.In s.heap := e0.mod.kin.keeps fun b o e => (e0.bs b o e).1
  have lim : s.heap.NoLimit := e0.mod.nolimit.keeps fun b o e => (e0.bs b o e).1
  have hkind : ∀ y ∈ ps.zip us,scope.names.lookup y.1 = some .local ∨ (scope.names.lookup y.1 = some .cell ∧ ((cellsFrom (s.heap.objs.size + 1) scope.names []).lookup y.1).isSome = true) := fun ⟨n,v⟩ hy => by
    rcases S.par n (List.of_mem_zip hy).1 with q | q
    · exact .inl q
    · exact .inr ⟨q,PySem.W.cellsFrom_some _ _ _ (.inl q)⟩
  refine codeAny_call_function hr.depth (KX _ _ lk) rfl S.co S.gen rfl (PySem.W.codeRec_of KX hcd) (hb _ _ _ _ ?_)
  refine wpAny_newFunctionEnv_cells S.kind hkind fun env he s1 x => ?_
  subst he
  refine ⟨lim.keeps x.toInCall.keep,codeAny_func ?_⟩
  obtain ⟨t,ht,hq⟩ := hbody A outer s H vs Q E (hr.deeper _) hsp
  have I : Inv (cxOf CX P w K mg base N qual scope f cdv A outer s H E) [] (start N vs) H s1 := inv_start S hr.hd e0 hl r x
  refine wpAny_mono (ht [] s1 (start N vs) H _ I hq) (fun fl s' hs => ?_) fun e s' hs => hs
  have fin : ∀ {σ' : St} {H' : Hp} {v : V} {u : Value},Inv (cxOf CX P w K mg base N qual scope f cdv A outer s H E) [] σ' H' s' → RelV v u → Q v H' → CE outer P w H s Q u s' :=
    fun {σ' H' v u} J rv q => ⟨v,H',J.os,J.bare,J.base,J.hok,rv,q⟩
  cases fl with
  | ret u =>
    obtain ⟨v,σ',H',J,rv,q⟩ := hs
    exact fin J rv q
  | next =>
    obtain ⟨σ',H',J,q⟩ := hs
    exact fin (v := V.non) (u := Value.none) J rfl q
  | brk =>
    obtain ⟨_,_,_,q⟩ := hs
    exact False.elim q
  | cont =>
    obtain ⟨_,_,_,q⟩ := hs
    exact False.elim q
end L2

namespace L2
open PySem PySem.Spec PyProof.Rows
section
variable {X : Cx} {x : Str} {p pos : Pos} {e : Expr} {es : List Expr} {t : TA} {id T : String} {r : List V → Hp → VK → Prop}

def tCB (r : List V → Hp → VK → Prop) (t : TA) : TE := fun σ H Q => t σ H fun vs H1 => r vs H1 Q
theorem pe_callB (hc : CallR X (.builtin id) r) (hg : Gl X x) (hm : X.mg x = none) (hv : bootBuiltins x = some (.builtin id)) (ha : PA X (e :: es) t) (hn : x ≠ "__name__" := by decide) (hdb : (x == ("__debug__" : Str)) = false := by decide)
    (he : starEach (e :: es) X.env = (false,eval e X.env) :: starEach es X.env := by rfl) (hpl : (backTo pos (starEach es X.env)).any (·.1) = false := by rfl) : PE X (.Call (.Name x p) (e :: es) [] pos) (tCB r t) := by
  intro pins s σ H Q I h
  refine wpAny_Call_Name_kw (ld_blt I hg hm hv ?_ hn hdb)
  exact PyProof.Rows.callWith_builtin1 (thn (ha pos pins s σ H _ I h) fun us s1 ⟨vs,H1,I1,r1,q1⟩ => hc pins s1 σ H1 vs us Q I1 r1 q1) he hpl
theorem pe_callTy (hc : CallR X (.type T) r) (hg : Gl X x) (hm : X.mg x = none) (hv : bootBuiltins x = some (.type T)) (ha : PA X (e :: es) t) (hn : x ≠ "__name__" := by decide) (hdb : (x == ("__debug__" : Str)) = false := by decide)
    (he : starEach (e :: es) X.env = (false,eval e X.env) :: starEach es X.env := by rfl) (hpl : (backTo pos (starEach es X.env)).any (·.1) = false := by rfl) : PE X (.Call (.Name x p) (e :: es) [] pos) (tCB r t) := by
  intro pins s σ H Q I h
  refine wpAny_Call_Name_kw (ld_blt I hg hm hv ?_ hn hdb)
  exact PyProof.Rows.callWith_type1 (thn (ha pos pins s σ H _ I h) fun us s1 ⟨vs,H1,I1,r1,q1⟩ => hc pins s1 σ H1 vs us Q I1 r1 q1) he hpl
end
end L2

namespace HT
open PySem PyProof.Rows

section
open PySem.SeqAt
open PySem.AutoSeq1 (wpAny_loadPart')
open PySem.MeetsSeq PySem.MeetsSeq2 PySem.MeetsSeq3

end

section
variable {prog : Program} {w : World} {A : Around} {E : Value → Shared → Prop} {s : Shared}

def sIx (n d : Nat) : Option Int → Nat
  | none => d
  | some v => if v < 0 then (v + (n : Int)).toNat else min v.toNat n
theorem sIx_nat (n d k : Nat) : sIx n d (some (k : Int)) = min k n := by
  show (if (k : Int) < 0 then ((k : Int) + (n : Int)).toNat else min (k : Int).toNat n) = min k n
  rw [if_neg (by omega),Int.toNat_natCast]
theorem sIx_le (n d : Nat) (hd : d ≤ n) (o : Option Int) : sIx n d o ≤ n := by
  cases o with
  | none => exact hd
  | some v =>
    show (if v < 0 then (v + (n : Int)).toNat else min v.toNat n) ≤ n
    by_cases hv : v < 0
    · rw [if_pos hv]; omega
    · rw [if_neg hv]; exact Nat.min_le_right _ _
theorem clip_eq (v : Int) (n d : Nat) : (if v < 0 then max (v + (n : Int)) 0 else min v (n : Int)) = ((sIx n d (some v) : Nat) : Int) := by
  show (if v < 0 then max (v + (n : Int)) 0 else min v (n : Int)) = (((if v < 0 then (v + (n : Int)).toNat else min v.toNat n) : Nat) : Int)
  by_cases hv : v < 0
  · simp only [if_pos hv]; omega
  · simp only [if_neg hv]; omega
theorem adjust_gen (lo hi : Option Int) (n : Nat) : Builtin.Slice.sliceAdjust lo hi 1 (n : Int) = (((sIx n 0 lo : Nat) : Int),((sIx n n hi : Nat) : Int)) := by
  have h1 : ¬ ((1 : Int) < 0) := by omega
  unfold Builtin.Slice.sliceAdjust
  simp only [h1,if_false]
  refine Prod.ext ?_ ?_
  · cases lo with
    | none => rfl
    | some v => exact clip_eq v n 0
  · cases hi with
    | none => rfl
    | some v => exact clip_eq v n n
theorem places_gen (i j : Nat) : Builtin.Slice.slicePlaces (i : Int) (j : Int) 1 = j - i := by
  unfold Builtin.Slice.slicePlaces
  have h1 : (1 : Int) > 0 := by omega
  simp only [h1,if_true,Int.ediv_one]
  split <;> omega
theorem slicePart_ {v : Value} {o : Option Int} {Q : Option Int → Shared → Prop} (p : IsPart v o) (h : Q o s) : wpAny (model prog w) A (Builtin.Slice.slicePartIndex v) Q E s := by
  cases p with
  | none => exact slicePart_none h
  | int i t => exact slicePart_int h
theorem sliceApplied_gen {sl : Addr} {vl vu : Value} {lo hi : Option Int} {n : Nat} {Q : Int × Int × Nat → Shared → Prop} (hs : s.heap.IsSliceOf sl vl vu .none) (pl : IsPart vl lo) (pu : IsPart vu hi)
    (h : Q (((sIx n 0 lo : Nat) : Int),1,sIx n n hi - sIx n 0 lo) s) : wpAny (model prog w) A (Builtin.Slice.sliceApplied (.ref sl) (pure (n : Int))) Q E s := by
  obtain ⟨os,hos,hcs,hds⟩ := id hs
  unfold Builtin.Slice.sliceApplied Builtin.Slice.sliceFields
  refine wpAny_bind (wpAny_bind (wpAny_field hos hds (x := vl) rfl (wpAny_bind (wpAny_field hos hds (x := vu) rfl (wpAny_bind (wpAny_field hos hds (x := .none) rfl (wpAny_pure ?_)))))))
  refine wpAny_bind (slicePart_none ?_)
  show wpAny _ _ (if ((1 : Int) == 0) = true then _ else _) _ _ s
  rw [if_neg (by decide)]
  refine wpAny_bind (slicePart_ pl (wpAny_bind (slicePart_ pu (wpAny_bind (wpAny_pure ?_)))))
  show wpAny _ _ (match Builtin.Slice.sliceAdjust lo hi 1 (n : Int) with | (lo,hi) => pure (lo,(1 : Int),Builtin.Slice.slicePlaces lo hi 1)) _ _ s
  rw [adjust_gen lo hi n]
  show wpAny _ _ (pure (((sIx n 0 lo : Nat) : Int),(1 : Int),Builtin.Slice.slicePlaces ((sIx n 0 lo : Nat) : Int) ((sIx n n hi : Nat) : Int) 1)) _ _ s
  rw [places_gen]
  exact wpAny_pure h
theorem pick_gen (xs : Array Value) (i k : Nat) : ((List.range k).filterMap fun (m : Nat) => xs[((i : Int) + (m : Int) * 1).toNat]?).toArray = ((xs.toList.drop i).take k).toArray := by
  have e : (fun (m : Nat) => xs[((i : Int) + (m : Int) * 1).toNat]?) = fun m => xs[i + m]? := by
    funext m
    have : ((i : Int) + (m : Int) * 1).toNat = i + m := by omega
    rw [this]
  rw [e]
  have := pick_run xs i k
  rw [List.filterMap_map] at this
  have e2 : ((fun x => xs[x]?) ∘ fun x => i + x) = fun m => xs[i + m]? := rfl
  rw [e2] at this
  rw [this]

theorem getItem_tuple_cut {t sl : Addr} {items : Array Value} {vl vu : Value} {lo hi : Option Int} {Q : Value → Shared → Prop} (ht : IsTup s.heap t items) (hs : s.heap.IsSliceOf sl vl vu .none) (pl : IsPart vl lo) (pu : IsPart vu hi)
    (hw : ¬ (sIx items.size 0 lo = 0 ∧ sIx items.size items.size hi = items.size))
    (h : Q (.ref s.heap.objs.size) { s with heap := s.heap.push { cls := .type "tuple",data := .seq ((items.toList.drop (sIx items.size 0 lo)).take (sIx items.size items.size hi - sIx items.size 0 lo)).toArray } })
    (hsz : items.size ≤ sizeLine) : wpAny (model prog w) A (getItem (.ref t) (.ref sl)) Q E s := by
  have htake : sizeOk (.seq ((items.toList.drop (sIx items.size 0 lo)).take (sIx items.size items.size hi - sIx items.size 0 lo)).toArray) := by
    show ((items.toList.drop (sIx items.size 0 lo)).take (sIx items.size items.size hi - sIx items.size 0 lo)).toArray.size ≤ sizeLine
    rw [List.size_toArray,List.length_take,List.length_drop,Array.length_toList]
    omega
  have hj : sIx items.size items.size hi ≤ items.size := sIx_le _ _ (Nat.le_refl _) hi
  obtain ⟨os,hos,hcs,hds⟩ := id hs
  have hTs : s.TypeIs (.ref sl) "slice" := ⟨os,hos,hcs⟩
  unfold getItem
  try with_reducible refine wpAny_holding ?_
  first | refine wpAny_bind (wpAny_pure ?_) | skip
  refine wpAny_bind (wpAny_sequenceKey ht.typeIs (by decide) ?_)
  refine wpAny_bind (wpAny_callSpecial?_slot (name := Str.ofString "__getitem__") ht.typeIs PyProof.Rows.slot_tuple_getitem
    (wpAny_call_entry PyProof.Rows.slot_tuple_getitem ht.typeIs entry_tuple_getitem ?_ (args_tuple_getitem _ _)))
  show wpAny _ _ (Builtin.Tuple.tupleItemsOf (.ref t) >>= _) _ _ s
  refine wpAny_bind (tupleItemsOf_ ht ?_)
  refine wpAny_bind (wpAny_typeOf hTs ?_)
  rw [if_pos (by decide)]
  refine wpAny_bind (sliceApplied_gen hs pl pu ?_)
  have hno : ¬ ((((sIx items.size 0 lo : Nat) : Int) == 0 && (1 : Int) == 1 && (sIx items.size items.size hi - sIx items.size 0 lo) == items.size) = true) := by
    intro q
    rw [Bool.and_eq_true,Bool.and_eq_true] at q
    have q1 : ((sIx items.size 0 lo : Nat) : Int) = 0 := eq_of_beq q.1.1
    have q2 : sIx items.size items.size hi - sIx items.size 0 lo = items.size := eq_of_beq q.2
    exact hw ⟨by omega,by omega⟩
  show wpAny _ _ (if (((sIx items.size 0 lo : Nat) : Int) == 0 && (1 : Int) == 1 && (sIx items.size items.size hi - sIx items.size 0 lo) == items.size) = true then _ else _) _ _ s
  rw [if_neg hno,pick_gen]
  first
    | exact wpAny_bind (m := Builtin.Tuple.tupleExact _) (wpAny_newObj_type (wpAny_pure ⟨_,rfl,wpAny_pure h⟩) htake)
    | exact wpAny_bind (m := Builtin.Tuple.tupleExact _) (wpAny_newObj_type (wpAny_bind (wpAny_pure (wpAny_pure ⟨_,rfl,wpAny_pure h⟩))) htake)
    | exact wpAny_bind (wpAny_bind (m := Builtin.Tuple.tupleExact _) (wpAny_newObj_type (wpAny_pure (wpAny_pure ⟨_,rfl,wpAny_pure h⟩)) htake))
    | exact wpAny_bind (wpAny_bind (m := Builtin.Tuple.tupleExact _) (wpAny_newObj_type (wpAny_pure ⟨_,rfl,wpAny_pure h⟩) htake))
end
end HT

namespace L2
open PySem PySem.Spec PyProof.Rows

abbrev TO := St → Hp → (Option Int → Hp → Prop) → Prop
def PO (X : Cx) (e : Option Expr) (t : TO) : Prop :=
  ∀ (pins : List (Addr × Obj)) (s : Shared) (σ : St) (H : Hp) (Q : Option Int → Hp → Prop),Inv X pins σ H s → t σ H Q →
    wpAny (model X.prog X.w) X.A (evalPart e X.env) (fun u s' => ∃ o H',Inv X pins σ H' s' ∧ IsPart u o ∧ Q o H') X.xe s
def tNoPart : TO := fun _ H Q => Q none H
def tPart (t : TE) : TO := fun σ H Q => t σ H fun x H1 => ∃ i,x = .int i ∧ Q (some i) H1

theorem intsAre_of {ns : List Int} : ∀ {us : List Value},Vals (ns.map V.int) us → IntsAre us ns := by
  induction ns with
  | nil => intro us r; rw [List.map_nil] at r; cases r; exact .nil
  | cons n ns ih =>
    intro us r
    rw [List.map_cons] at r
    cases r with
    | cons r1 r2 =>
      obtain ⟨t,e⟩ := r1
      subst e
      exact .cons n t (ih r2)

section
variable {X : Cx} {e : Expr} {te : TE} {lo hi : Option Expr} {tl th : TO} {pos p2 : Pos}

theorem po_none : PO X none tNoPart := by
  intro pins s σ H Q I h
  rw [evalPart_none]
  exact wpAny_pure ⟨none,H,I,.none,h⟩
theorem po_some (h : PE X e te) : PO X (some e) (tPart te) := by
  intro pins s σ H Q I hw
  rw [evalPart_some]
  refine thn (h pins s σ H _ I hw) fun u s1 ⟨x,H1,I1,r1,q1⟩ => ?_
  obtain ⟨i,rfl,q⟩ := q1
  obtain ⟨t,rfl⟩ := r1
  exact ⟨some i,H1,I1,.int i t,q⟩

def SlR (X : Cx) (r : V → Option Int → Option Int → Hp → VK → Prop) : Prop :=
  ∀ (pins : List (Addr × Obj)) (s : Shared) (σ : St) (H : Hp) (x : V) (v vl vu : Value) (lo hi : Option Int) (sl : Addr) (Q : VK),Inv X pins σ H s → RelV x v → s.heap.IsSliceOf sl vl vu .none → IsPart vl lo → IsPart vu hi → r x lo hi H Q →
    ∃ T id,typeLookup (.type T) "__getitem__" = pure (some (.builtin id)) ∧ s.TypeIs v T ∧ wpAny (model X.prog X.w) X.A (getItem v (.ref sl)) (EP X pins σ Q) X.xe s
def tSl (r : V → Option Int → Option Int → Hp → VK → Prop) (te : TE) (tl th : TO) : TE := fun σ H Q => te σ H fun x H1 => tl σ H1 fun l H2 => th σ H2 fun u H3 => r x l u H3 Q
theorem pe_slice {r : V → Option Int → Option Int → Hp → VK → Prop} (hr : SlR X r) (he : PE X e te) (hl : PO X lo tl) (hu : PO X hi th) : PE X (.Subscript e (.Slice lo hi none p2) pos) (tSl r te tl th) := by
  intro pins s σ H Q I h
  refine Subscript_ (thn (he pins s σ H _ I h) fun v s1 ⟨x,H1,I1,r1,q1⟩ => ?_)
  refine wpAny_Slice (thn (hl pins s1 σ H1 _ I1 q1) fun vl s2 ⟨l,H2,I2,pl,q2⟩ => thn (hu pins s2 σ H2 _ I2 q2) fun vu s3 ⟨u,H3,I3,pu,q3⟩ => ?_)
  rw [evalPart_none]
  refine wpAny_pure ?_
  have I4 : Inv X pins σ H3 { s3 with heap := s3.heap.push { cls := .type "slice",data := .fields #[vl,vu,.none] } } := I3.kept (t' := s3.toks) fun b ob q => Heap.get?_push_of_some _ q
  obtain ⟨T,id,hT,ht,hg⟩ := hr pins { s3 with heap := s3.heap.push { cls := .type "slice",data := .fields #[vl,vu,.none] } } σ H3 x v vl vu l u s3.heap.objs.size Q I4 r1 (Heap.IsSliceOf.new ..) pl pu q3
  show wpAny (model X.prog X.w) X.A (subscriptTail e (.Slice lo hi none p2) v (.ref s3.heap.objs.size)) (EP X pins σ Q) X.xe { s3 with heap := s3.heap.push { cls := .type "slice",data := .fields #[vl,vu,.none] } }
  exact tail_any (ops := [.ref s3.heap.objs.size,v]) ht hT hg (by with_unfolding_all rfl)

def cutV (xs : List V) (lo hi : Option Int) : List V := (xs.drop (HT.sIx xs.length 0 lo)).take (HT.sIx xs.length xs.length hi - HT.sIx xs.length 0 lo)
theorem cutV_length (xs : List V) (lo hi : Option Int) : (cutV xs lo hi).length ≤ xs.length := by
  unfold cutV
  rw [List.length_take,List.length_drop]
  omega
def rSlT (K : PySem.W.Frag) : V → Option Int → Option Int → Hp → VK → Prop := fun x lo hi H Q => ∃ a xs,x = .ref a ∧ SqT K H a xs ∧
  ¬ (HT.sIx xs.length 0 lo = 0 ∧ HT.sIx xs.length xs.length hi = xs.length) ∧ ∀ p,H p = none → Q (.ref p) (upd H p (.tup (cutV xs lo hi)))
theorem sl_tup : SlR X (rSlT X.K) := by
  intro pins s σ H x v vl vu lo hi sl Q I rx hs pl pu h
  obtain ⟨a,xs,rfl,hx,hw,q⟩ := h
  cases rx
  obtain ⟨its,r,ht,hz⟩ := I.tuple hx
  have hlen : its.toArray.size = xs.length := by rw [List.size_toArray]; exact r.length.symm
  refine ⟨"tuple",_,PyProof.Rows.slot_tuple_getitem.lookup,ht.typeIs,?_⟩
  refine HT.getItem_tuple_cut ht hs pl pu (by rw [hlen]; exact hw) ?_ (by rw [hlen]; exact hz)
  rw [hlen]
  refine ⟨.ref s.heap.objs.size,_,I.laid (t' := s.toks) (o := .tup (cutV xs lo hi)) (fun b ob q => Heap.get?_push_of_some _ q) (Nat.le_refl _) ?_,rfl,q _ (I.hok.fresh (Nat.le_refl _))⟩
  exact ⟨Nat.le_trans (cutV_length xs lo hi) hz,_,(r.drop (HT.sIx xs.length 0 lo)).take (HT.sIx xs.length xs.length hi - HT.sIx xs.length 0 lo),IsTup.new _ _⟩

end
end L2

namespace L2
open PySem PySem.Spec PyProof.Rows

def ixN (n : Nat) (i : Int) : Option Nat := if 0 ≤ i then (if i < n then some i.toNat else none) else if -(n : Int) ≤ i then some (i + n).toNat else none
def atI {α : Type} (xs : List α) (i : Int) : Option α := (ixN xs.length i).bind fun j => xs[j]?
theorem ixN_seq {n : Nat} {i : Int} {j : Nat} (h : ixN n i = some j) : seqIndex? i n = some j ∧ j < n ∧ -(n : Int) ≤ i ∧ i < n := by
  unfold ixN at h
  by_cases h0 : 0 ≤ i
  · rw [if_pos h0] at h
    by_cases h1 : i < n
    · rw [if_pos h1] at h
      have e : i.toNat = j := Option.some.inj h
      exact ⟨by rw [seqIndex_of h0 h1,e],by omega,by omega,h1⟩
    · rw [if_neg h1] at h; cases h
  · rw [if_neg h0] at h
    by_cases h1 : -(n : Int) ≤ i
    · rw [if_pos h1] at h
      have e : (i + n).toNat = j := Option.some.inj h
      exact ⟨by rw [seqIndex_neg (by omega) h1,e],by omega,h1,by omega⟩
    · rw [if_neg h1] at h; cases h
theorem atI_get {α : Type} {xs : List α} {i : Int} {v : α} (h : atI xs i = some v) : ∃ j,seqIndex? i xs.length = some j ∧ xs[j]? = some v ∧ j < xs.length ∧ -(xs.length : Int) ≤ i ∧ i < xs.length := by
  unfold atI at h
  cases e : ixN xs.length i with
  | none => rw [e] at h; cases h
  | some j =>
    rw [e] at h
    obtain ⟨h1,h2,h3,h4⟩ := ixN_seq e
    exact ⟨j,h1,h,h2,h3,h4⟩
theorem atI_nat {α : Type} {xs : List α} {j : Nat} {v : α} (h : xs[j]? = some v) : atI xs (j : Int) = some v := by
  have hj : j < xs.length := (List.getElem?_eq_some_iff.mp h).1
  have e : ixN xs.length (j : Int) = some j := by
    unfold ixN
    rw [if_pos (by omega),if_pos (by omega)]; simp
  unfold atI; rw [e]; exact h
theorem atI_last {α : Type} (xs : List α) (v : α) : atI (xs ++ [v]) (-1) = some v := by
  have hl : (xs ++ [v]).length = xs.length + 1 := by simp
  have e : ixN (xs ++ [v]).length (-1) = some xs.length := by
    unfold ixN
    rw [hl,if_neg (by decide),if_pos (by omega)]
    congr 1
    omega
  unfold atI
  rw [e]
  show (xs ++ [v])[xs.length]? = some v
  simp

def PlainIx (b : Expr) : Prop := ∀ o i,subscripted b false o i = operate [o,i] (getItem o i)
def IxR (X : Cx) (r : R2) : Prop :=
  ∀ (value slice : Expr) (pins : List (Addr × Obj)) (s : Shared) (σ : St) (H : Hp) (x y : V) (v u : Value) (Q : VK),Inv X pins σ H s → RelV x v → RelV y u → r x y H Q →
    subscripted slice false v u = operate [v,u] (getItem v u) → wpAny (model X.prog X.w) X.A (subscriptTail value slice v u) (EP X pins σ Q) X.xe s
def MtR (X : Cx) (id : String) (r : V → List V → Hp → VK → Prop) : Prop :=
  ∀ (pins : List (Addr × Obj)) (s : Shared) (σ : St) (H : Hp) (x : V) (xs : List V) (v : Value) (us : List Value) (Q : VK),Inv X pins σ H s → RelV x v → Vals xs us → r x xs H Q →
    wpAny (model X.prog X.w) X.A (call (.builtin id) (v :: us)) (EP X pins σ Q) X.xe s
section
variable {X : Cx} {a b : Expr} {ta tb : TE} {pos : Pos}
theorem pe_ix {r : R2} (hr : IxR X r) (ha : PE X a ta) (hb : PE X b tb) (hs : PlainIx b) : PE X (.Subscript a b pos) (tOp r ta tb) := by
  intro pins s σ H Q I h
  exact Subscript_ (binT ha hb I h fun v u s2 x y H2 I2 rx ry q => hr a b pins s2 σ H2 x y v u Q I2 rx ry q (hs _ _))

def rIxL (K : PySem.W.Frag) : R2 := fun x y H Q => ∃ p xs i v,x = .ref p ∧ y = .int i ∧ SqL K H p xs ∧ atI xs i = some v ∧ Q v H
def rIxT (K : PySem.W.Frag) : R2 := fun x y H Q => ∃ p xs i v,x = .ref p ∧ y = .int i ∧ SqT K H p xs ∧ atI xs i = some v ∧ Q v H
theorem ix_list : IxR X (rIxL X.K) := by
  intro value slice pins s σ H x y v u Q I rx ry h hs
  obtain ⟨p,xs,i,z,rfl,rfl,hq,he,q⟩ := h
  cases rx
  obtain ⟨t,rfl⟩ := ry
  obtain ⟨its,r,pl,hz⟩ := I.list hq
  obtain ⟨j,h1,h2,h3,h4,h5⟩ := atI_get he
  obtain ⟨w,ew,rw'⟩ := r.get h2
  have hl := r.length
  have hn := line63
  have fin : EP X pins σ Q w s := ⟨z,H,I,rw',q⟩
  by_cases h0 : 0 ≤ i
  · have hj : i.toNat = j := by
      rw [seqIndex_of h0 h5] at h1
      exact Option.some.inj h1
    exact item_listR pl.isList h0 (by omega) (by rw [hj]; simpa using ew) fin hs
  · have hj : (i + (its.toArray.size : Int)).toNat = j := by
      rw [seqIndex_neg (by omega) h4] at h1
      rw [List.size_toArray,← hl]
      exact Option.some.inj h1
    exact subscriptTail_builtinR (x := w) pl.isList.typeIs slot_list_getitem.lookup
      (wpAny_getItem_list_neg (Q := fun r s' => r = w ∧ EP X pins σ Q r s') pl.isList (by omega) (by rw [List.size_toArray] <;> omega) (by omega) (by rw [hj]; simpa using ew) ⟨rfl,fin⟩) hs
theorem ix_tup : IxR X (rIxT X.K) := by
  intro value slice pins s σ H x y v u Q I rx ry h hs
  obtain ⟨p,xs,i,z,rfl,rfl,hq,he,q⟩ := h
  cases rx
  obtain ⟨t,rfl⟩ := ry
  obtain ⟨its,r,pl,hz⟩ := I.tuple hq
  obtain ⟨j,h1,h2,h3,h4,h5⟩ := atI_get he
  obtain ⟨w,ew,rw'⟩ := r.get h2
  have hl := r.length
  have hn := line63
  have fin : EP X pins σ Q w s := ⟨z,H,I,rw',q⟩
  exact subscriptTail_builtinR (x := w) pl.typeIs slot_tuple_getitem.lookup
    (getItem_tuple (j := j) (Q := fun r s' => r = w ∧ EP X pins σ Q r s') pl (by omega) (by omega) (by rw [List.size_toArray,← hl]; exact h1) (by simpa using ew) ⟨rfl,fin⟩) hs
theorem mapSeq_set (its : List Value) (n j : Nat) (u : Value) : Obj.mapSeq (·.setIfInBounds j u) { cls := .type "list",data := .seq its.toArray n } = { cls := .type "list",data := .seq (its.set j u).toArray n } := by
  simp [Obj.mapSeq]
theorem Inv.lst {pins : List (Addr × Obj)} {σ : St} {H : Hp} {s : Shared} {p : Addr} {xs : List V} (I : Inv X pins σ H s) (h : H p = some (.lst xs)) :
    ∃ (its : List Value) (n : Nat),Vals xs its ∧ s.heap.get? p = some { cls := .type "list",data := .seq its.toArray n } ∧ xs.length ≤ sizeLine := by
  obtain ⟨z,its,n,r,e⟩ := I.hok p _ h
  exact ⟨its,n,r,e,z⟩
theorem Inv.lstUpd {pins : List (Addr × Obj)} {σ : St} {H : Hp} {s : Shared} {p : Addr} {xs ys : List V} {its its' : List Value} {n n' : Nat} {f : Obj → Obj} (I : Inv X pins σ H s) (h : H p = some (.lst xs))
    (ho : s.heap.get? p = some { cls := .type "list",data := .seq its.toArray n }) (hf : f { cls := .type "list",data := .seq its.toArray n } = { cls := .type "list",data := .seq its'.toArray n' }) (r : Vals ys its') (hz : ys.length ≤ sizeLine) (t : Nat) :
    Inv X pins σ (upd H p (.lst ys)) { s with heap := s.heap.update p f,toks := t } := by
  have e : (s.heap.update p f).get? p = some { cls := .type "list",data := .seq its'.toArray n' } := by
    rw [Heap.get?_update_self f ho (by rw [hf] <;> rfl),hf]
  refine I.write (x := p) (e := p) (by rw [h]; trivial) (.inl rfl) (fun b u hb q => (Heap.get?_update_other _ _ (Ne.symm hb)).trans q) ⟨_,e⟩ ?_
  exact ⟨hz,its',n',r,e⟩
def rSetL : V → V → V → Hp → (Hp → Prop) → Prop := fun o i v H Q => ∃ p xs k j,o = .ref p ∧ i = .int k ∧ H p = some (.lst xs) ∧ ixN xs.length k = some j ∧ Q (upd H p (.lst (xs.set j v)))
theorem set_list : PSet X rSetL := by
  intro pins s σ H o i v ov iv u Q I ro ri rv h
  obtain ⟨p,xs,k,j,rfl,rfl,hp,hj,q⟩ := h
  cases ro
  obtain ⟨t,rfl⟩ := ri
  obtain ⟨its,n,r,ho,hz⟩ := I.lst hp
  obtain ⟨h1,h2,h3,h4⟩ := ixN_seq hj
  have hl := r.length
  have hn := line63
  have I' : Inv X pins σ (upd H p (.lst (xs.set j v))) { s with heap := s.heap.update p (Obj.mapSeq (·.setIfInBounds j u)) } :=
    I.lstUpd hp ho (mapSeq_set its n j u) (r.set rv j) (by rw [List.length_set]; exact hz) s.toks
  by_cases h0 : 0 ≤ k
  · have hk : k.toNat = j := by
      rw [seqIndex_of h0 h4] at h1
      exact Option.some.inj h1
    exact PySem.W.ki_setAt ho h0 (by omega) (by rw [List.size_toArray,← hl]; exact h4) (by rw [hk]; exact ⟨_,I',q⟩)
  · have hk : (k + (its.toArray.size : Int)).toNat = j := by
      rw [seqIndex_neg (by omega) h3] at h1
      rw [List.size_toArray,← hl]
      exact Option.some.inj h1
    exact PySem.W.ki_setBack ho (by omega) (by rw [List.size_toArray,← hl]; exact h3) (by omega) (by rw [hk]; exact ⟨_,I',q⟩)

theorem slice_bounds (lo hi : Option Int) (n : Nat) : (sliceBounds lo hi none n).1 = ((HT.sIx n 0 lo : Nat) : Int) ∧ (sliceBounds lo hi none n).2.1 = ((HT.sIx n n hi : Nat) : Int) ∧ (sliceBounds lo hi none n).2.2 = 1 := by
  refine ⟨?_,?_,rfl⟩
  · cases lo with
    | none => simp [sliceBounds,HT.sIx]
    | some i =>
      simp only [sliceBounds,HT.sIx,Option.getD_none,show (1 : Int) > 0 by decide,if_true]
      by_cases h : i < 0
      · simp only [h,if_true] <;> omega
      · simp only [h,if_false] <;> omega
  · cases hi with
    | none => simp [sliceBounds,HT.sIx]
    | some i =>
      simp only [sliceBounds,HT.sIx,Option.getD_none,show (1 : Int) > 0 by decide,if_true]
      by_cases h : i < 0
      · simp only [h,if_true] <;> omega
      · simp only [h,if_false] <;> omega
theorem slicePick_cut (its : List Value) (lo hi : Option Int) : slicePick its.toArray lo hi none = ((its.drop (HT.sIx its.length 0 lo)).take (HT.sIx its.length its.length hi - HT.sIx its.length 0 lo)).toArray := by
  obtain ⟨h1,h2,h3⟩ := slice_bounds lo hi its.toArray.size
  unfold slicePick
  rw [h1,h2,h3]
  simp only [sliceRange_one,pick_run,List.size_toArray] <;> rfl
def rSlL (K : PySem.W.Frag) : V → Option Int → Option Int → Hp → VK → Prop := fun x lo hi H Q => ∃ a xs,x = .ref a ∧ SqL K H a xs ∧ ∀ p,H p = none → Q (.ref p) (upd H p (.lst (cutV xs lo hi)))
theorem sl_list : SlR X (rSlL X.K) := by
  intro pins s σ H x v vl vu lo hi sl Q I rx hs pl pu h
  obtain ⟨a,xs,rfl,hx,q⟩ := h
  cases rx
  obtain ⟨its,r,ht,hz⟩ := I.list hx
  have hlen := r.length
  refine ⟨"list",_,slot_list_getitem.lookup,ht.isList.typeIs,?_⟩
  refine wpAny_getItem_list_slice ht.isList hs pl pu .none (by simp) ?_ (by rw [List.size_toArray] <;> omega)
  rw [slicePick_cut,← hlen]
  refine ⟨.ref s.heap.objs.size,_,I.laid (t' := s.toks) (o := .lst (cutV xs lo hi)) (fun b ob q => Heap.get?_push_of_some _ q) (Nat.le_refl _) ?_,rfl,q _ (I.hok.fresh (Nat.le_refl _))⟩
  exact ⟨Nat.le_trans (cutV_length xs lo hi) hz,_,0,(r.drop (HT.sIx xs.length 0 lo)).take (HT.sIx xs.length xs.length hi - HT.sIx xs.length 0 lo),Heap.get?_push_size _ rfl⟩

def flatV : V → Bool
  | .non => true
  | .bl _ => true
  | .int _ => true
  | .str _ => true
  | _ => false
def eqV : V → V → Bool
  | .non,.non => true
  | .bl a,.bl b => a == b
  | .bl a,.int b => (if a then 1 else 0) == b
  | .int a,.bl b => a == (if b then 1 else 0)
  | .int a,.int b => a == b
  | .str a,.str b => a == b
  | _,_ => false
theorem eqAt_V {A : Around} {s : Shared} {y x : V} {u v : Value} (ry : RelV y u) (rx : RelV x v) (fy : flatV y = true) (fx : flatV x = true) : SeqAt.EqAt A s u v (eqV y x) := by
  cases y with
  | non =>
    cases ry
    cases x with
    | non => cases rx; exact SeqAt.EqAt.same _
    | bl b => cases rx; exact SeqAt.EqAt.none_bool b
    | int b => obtain ⟨t,rfl⟩ := rx; exact SeqAt.EqAt.none_int b t
    | str b => obtain ⟨t,rfl⟩ := rx; exact SeqAt.EqAt.none_str b t
    | _ => exact absurd (show false = true from fx) Bool.false_ne_true
  | bl a =>
    cases ry
    cases x with
    | non => cases rx; exact SeqAt.EqAt.bool_none a
    | bl b => cases rx; exact SeqAt.EqAt.bool_bool a b
    | int b => obtain ⟨t,rfl⟩ := rx; exact SeqAt.EqAt.bool_int a b t
    | str b => obtain ⟨t,rfl⟩ := rx; exact SeqAt.EqAt.bool_str a b t
    | _ => exact absurd (show false = true from fx) Bool.false_ne_true
  | int a =>
    obtain ⟨t',rfl⟩ := ry
    cases x with
    | non => cases rx; exact SeqAt.EqAt.int_none a t'
    | bl b => cases rx; exact SeqAt.EqAt.int_bool a t' b
    | int b => obtain ⟨t,rfl⟩ := rx; exact SeqAt.EqAt.int_int a t' b t
    | str b => obtain ⟨t,rfl⟩ := rx; exact SeqAt.EqAt.int_str a t' b t
    | _ => exact absurd (show false = true from fx) Bool.false_ne_true
  | str a =>
    obtain ⟨t',rfl⟩ := ry
    cases x with
    | non => cases rx; exact SeqAt.EqAt.str_none a t'
    | bl b => cases rx; exact SeqAt.EqAt.str_bool a t' b
    | int b => obtain ⟨t,rfl⟩ := rx; exact SeqAt.EqAt.str_int a t' b t
    | str b => obtain ⟨t,rfl⟩ := rx; exact SeqAt.EqAt.str_str a t' b t
    | _ => exact absurd (show false = true from fx) Bool.false_ne_true
  | _ => exact absurd (show false = true from fy) Bool.false_ne_true
def eqU (x : V) (u : Value) : Bool := match u with
  | .none => eqV .non x
  | .bool b => eqV (.bl b) x
  | .int i _ => eqV (.int i) x
  | .str z _ => eqV (.str z) x
  | _ => false
theorem eqU_of {x y : V} {u : Value} (r : RelV y u) (f : flatV y = true) : eqU x u = eqV y x := by
  cases y with
  | non => cases r; rfl
  | bl b => cases r; rfl
  | int i => obtain ⟨t,rfl⟩ := r; rfl
  | str z => obtain ⟨t,rfl⟩ := r; rfl
  | _ => exact absurd (show false = true from f) Bool.false_ne_true
theorem any_eqU {x : V} : ∀ {xs : List V} {us : List Value},Vals xs us → xs.all flatV = true → us.any (eqU x) = xs.any fun y => eqV y x
  | _,_,.nil,_ => rfl
  | y :: xs,u :: us,.cons r t,f => by
    rw [List.all_cons,Bool.and_eq_true] at f
    rw [List.any_cons,List.any_cons,eqU_of r f.1,any_eqU t f.2]
theorem mem_eqAt {A : Around} {s : Shared} {x : V} {v : Value} (rx : RelV x v) (fx : flatV x = true) : ∀ {xs : List V} {us : List Value},Vals xs us → xs.all flatV = true → ∀ u ∈ us,SeqAt.EqAt A s u v (eqU x u)
  | _,_,.nil,_ => fun u hu => by cases hu
  | y :: xs,u :: us,.cons r t,f => fun u' hu => by
    rw [List.all_cons,Bool.and_eq_true] at f
    rcases List.mem_cons.mp hu with rfl | hu
    · rw [eqU_of r f.1]; exact eqAt_V r rx f.1 fx
    · exact mem_eqAt rx fx t f.2 u' hu
def inV (x : V) (xs : List V) : Bool := xs.any fun y => eqV y x
def rIn (K : PySem.W.Frag) (neg : Bool) : R2 := fun x y H Q => ∃ p xs,y = .ref p ∧ (SqL K H p xs ∨ SqT K H p xs) ∧ flatV x = true ∧ xs.all flatV = true ∧ Q (.bl (if neg then !inV x xs else inV x xs)) H
theorem op_in_seq : OpR X (compareOp .In) (rIn X.K false) := by
  intro pins s σ H x y v u Q I rx ry h
  obtain ⟨p,xs,rfl,hq,fx,fs,q⟩ := h
  cases ry
  rcases hq with hq | hq
  · obtain ⟨its,r,pl,hz⟩ := I.list hq
    refine SeqAt.in_listAt (eqU x) pl.isList (fun w hw => mem_eqAt rx fx r fs w (by simpa using hw)) ⟨.bl _,H,I,rfl,?_⟩
    rw [show its.toArray.any (eqU x) = its.any (eqU x) by simp,any_eqU r fs]
    exact q
  · obtain ⟨its,r,pl,hz⟩ := I.tuple hq
    refine SeqAt.in_tupleAt (eqU x) pl (fun w hw => mem_eqAt rx fx r fs w (by simpa using hw)) ⟨.bl _,H,I,rfl,?_⟩
    rw [show its.toArray.any (eqU x) = its.any (eqU x) by simp,any_eqU r fs]
    exact q
theorem op_notIn_seq : OpR X (compareOp .NotIn) (rIn X.K true) := by
  intro pins s σ H x y v u Q I rx ry h
  obtain ⟨p,xs,rfl,hq,fx,fs,q⟩ := h
  cases ry
  rcases hq with hq | hq
  · obtain ⟨its,r,pl,hz⟩ := I.list hq
    refine SeqAt.notIn_listAt (eqU x) pl.isList (fun w hw => mem_eqAt rx fx r fs w (by simpa using hw)) ⟨.bl _,H,I,rfl,?_⟩
    rw [show its.toArray.any (eqU x) = its.any (eqU x) by simp,any_eqU r fs]
    exact q
  · obtain ⟨its,r,pl,hz⟩ := I.tuple hq
    refine SeqAt.notIn_tupleAt (eqU x) pl (fun w hw => mem_eqAt rx fx r fs w (by simpa using hw)) ⟨.bl _,H,I,rfl,?_⟩
    rw [show its.toArray.any (eqU x) = its.any (eqU x) by simp,any_eqU r fs]
    exact q
theorem call_len_seq : CallR X (.builtin "len") (fun xs H Q => ∃ p ys,xs = [.ref p] ∧ (SqL X.K H p ys ∨ SqT X.K H p ys) ∧ Q (.int ys.length) H) := by
  intro pins s σ H xs us Q I r h
  obtain ⟨p,ys,rfl,hq,q⟩ := h
  obtain ⟨u,rfl,rx⟩ := vals1 r
  cases rx
  have hn := line63
  rcases hq with hq | hq
  · obtain ⟨its,r',pl,hz⟩ := I.list hq
    have hlen := r'.length
    exact Calls.call_len_list pl.isList (by simp only [List.size_toArray] <;> omega) ⟨.int ys.length,H,I.tok _,⟨s.toks + 1,by rw [List.size_toArray,hlen]⟩,q⟩
  · obtain ⟨its,r',pl,hz⟩ := I.tuple hq
    have hlen := r'.length
    exact len_tuple pl (by simp only [List.size_toArray] <;> omega) ⟨.int ys.length,H,I.tok _,⟨s.toks + 1,by rw [List.size_toArray,hlen]⟩,q⟩
theorem call_list_of : CallR X (.type "list") (fun xs H Q => ∃ p ys,xs = [.ref p] ∧ (SqL X.K H p ys ∨ SqT X.K H p ys) ∧ ∀ l,H l = none → Q (.ref l) (upd H l (.lst ys))) := by
  intro pins s σ H xs us Q I r h
  obtain ⟨p,ys,rfl,hq,q⟩ := h
  obtain ⟨u,rfl,rx⟩ := vals1 r
  cases rx
  have fin : ∀ (its : List Value),Vals ys its → ys.length ≤ sizeLine → ∀ (h' : Heap) (c' : Nat),(∀ b o',s.heap.get? b = some o' → h'.get? b = some o') →
      h'.get? s.heap.objs.size = some { cls := .type "list",dict := none,data := .seq its.toArray c',slots := #[] } → EP X pins σ Q (.ref s.heap.objs.size) { s with heap := h' } := fun its r' hz h' c' kp e =>
    ⟨.ref s.heap.objs.size,_,I.laid (t' := s.toks) kp (Nat.le_refl _) (show ObjOk X.prog X.w _ h' _ (.lst ys) from ⟨hz,its,c',r',e⟩),rfl,q _ (I.hok.fresh (Nat.le_refl _))⟩
  rcases hq with hq | hq
  · obtain ⟨its,r',pl,hz⟩ := I.list hq
    have hlen := r'.length
    obtain ⟨o,ho,hc,n,hd⟩ := pl.isList
    exact call_list_seq p (.inl rfl) ho hc hd (fun h' c' kp e => fin its r' hz h' c' kp e) (by simp only [List.size_toArray] <;> omega)
  · obtain ⟨its,r',pl,hz⟩ := I.tuple hq
    have hlen := r'.length
    obtain ⟨o,ho,hc,n,hd⟩ := pl
    exact call_list_seq p (.inr rfl) ho hc hd (fun h' c' kp e => fin its r' hz h' c' kp e) (by simp only [List.size_toArray] <;> omega)
theorem call_tuple_of : CallR X (.type "tuple") (fun xs H Q => ∃ p ys,xs = [.ref p] ∧ ((SqL X.K H p ys ∧ ∀ l,H l = none → Q (.ref l) (upd H l (.tup ys))) ∨ (SqT X.K H p ys ∧ Q (.ref p) H))) := by
  intro pins s σ H xs us Q I r h
  obtain ⟨p,ys,rfl,h⟩ := h
  obtain ⟨u,rfl,rx⟩ := vals1 r
  cases rx
  rcases h with ⟨hq,q⟩ | ⟨hq,q⟩
  · obtain ⟨its,r',pl,hz⟩ := I.list hq
    have hlen := r'.length
    refine call_tuple_list pl.isList (fun h' kp => ?_) (by simp only [List.size_toArray] <;> omega)
    have I1 : Inv X pins σ H { s with heap := h' } := I.kept (t' := s.toks) kp
    have I2 : Inv X pins σ (upd H h'.objs.size (.tup ys)) { s with heap := h'.push { cls := .type "tuple",data := .seq its.toArray } } :=
      I1.laid (t' := s.toks) (fun b o e => Heap.get?_push_of_some _ e) (Nat.le_refl _) (show ObjOk X.prog X.w _ _ _ (.tup ys) from ⟨hz,its,r',IsTup.new _ _⟩)
    exact ⟨.ref h'.objs.size,_,I2,rfl,q _ (I1.hok.fresh (Nat.le_refl _))⟩
  · obtain ⟨its,r',pl,hz⟩ := I.tuple hq
    exact call_tuple_same pl ⟨.ref p,H,I,rfl,q⟩

def tyV (K : PySem.W.Frag) (T : String) (x : V) (H : Hp) : Prop := match x with
  | .str _ => T = "str"
  | .int _ => T = "int"
  | .ref p => (T = "list" ∧ ∃ xs,SqL K H p xs) ∨ (T = "tuple" ∧ ∃ o,K.lookup p = some o ∧ o.cls = .type "tuple" ∧ o.dict = none) ∨
      (T = "dict" ∧ ((∃ kvs,H p = some (.dK kvs)) ∨ ∃ kvs,H p = some (.dT kvs))) ∨ (T = "set" ∧ ∃ S n,H p = some (.set S n))
  | _ => False
theorem tyV_is {pins : List (Addr × Obj)} {σ : St} {H : Hp} {s : Shared} {T : String} {x : V} {v : Value} (I : Inv X pins σ H s) (r : RelV x v) (ty : tyV X.K T x H) :
    s.TypeIs v T ∧ ∀ a,v = .ref a → ∃ ob,s.heap.get? a = some ob ∧ ob.dict = none := by
  cases x with
  | str z =>
    obtain ⟨t,rfl⟩ := r
    cases (show T = "str" from ty)
    exact ⟨typeIs_str s z t,fun _ e => nomatch e⟩
  | int i =>
    obtain ⟨t,rfl⟩ := r
    cases (show T = "int" from ty)
    exact ⟨typeIs_int s i t,fun _ e => nomatch e⟩
  | ref p =>
    cases r
    rcases ty with ⟨rfl,xs,hq⟩ | ⟨rfl,o,hk,hc,hd⟩ | ⟨rfl,hk⟩ | ⟨rfl,S,n,hk⟩
    · obtain ⟨its,_,pl,_⟩ := I.list hq
      refine ⟨pl.isList.typeIs,fun a e => ?_⟩
      cases e
      obtain ⟨o,n,e,c,hd,_⟩ := pl
      exact ⟨o,e,hd⟩
    · refine ⟨⟨o,I.kIn p o hk,hc⟩,fun a e => ?_⟩
      cases e
      exact ⟨o,I.kIn _ o hk,hd⟩
    · have z : ∃ o,s.heap.get? p = some o ∧ o.ExactDict := by
        rcases hk with ⟨kvs,hk⟩ | ⟨kvs,hk⟩
        · obtain ⟨_,_,_,_,o,_,_,e,ex,_⟩ := I.hok p _ hk
          exact ⟨o,e,ex⟩
        · obtain ⟨_,_,_,_,o,_,_,e,ex,_⟩ := I.hok p _ hk
          exact ⟨o,e,ex⟩
      obtain ⟨o,e,ex⟩ := z
      refine ⟨⟨o,e,ex.1⟩,fun a e2 => ?_⟩
      cases e2
      exact ⟨o,e,ex.2.1⟩
    · obtain ⟨o,_,_,_,e,ex,_⟩ := I.hok p _ hk
      refine ⟨⟨o,e,ex.1⟩,fun a e2 => ?_⟩
      cases e2
      exact ⟨o,e,ex.2.1⟩
  | _ => exact False.elim ty
def tBM0 (K : PySem.W.Frag) (T : String) (r : V → List V → Hp → VK → Prop) (to : TE) : TE := fun σ H Q => to σ H fun x H1 => tyV K T x H1 ∧ r x [] H1 Q
def tBM (K : PySem.W.Frag) (T : String) (r : V → List V → Hp → VK → Prop) (to : TE) (t : TA) : TE := fun σ H Q => to σ H fun x H1 => tyV K T x H1 ∧ t σ H1 fun xs H2 => r x xs H2 Q
variable {o e : Expr} {es : List Expr} {to : TE} {t : TA} {name : Str} {apos cpos : Pos} {T id : String} {r : V → List V → Hp → VK → Prop}
theorem pe_bm0 (pa : PlainAttrs T) (slot : Slot T name id) (hty : typeOf (.builtin id) = pure (.type "method_descriptor")) (hm : MtR X id r) (ho : PE X o to)
    (hbase : attributeBase o name X.env (eval o X.env) = eval o X.env := by rfl) (hline : (apos.endLine == cpos.line) = true := by rfl) : PE X (.Call (.Attribute o name apos) [] [] cpos) (tBM0 X.K T r to) := by
  intro pins s σ H Q I h
  refine wpAny_Call_method0_late hbase hline (thn (ho pins s σ H _ I h) fun v s1 ⟨x,H1,I1,r1,ty,q1⟩ => ?_)
  obtain ⟨h1,h2⟩ := tyV_is I1 r1 ty
  exact ⟨T,id,pa,slot,hty,h1,h2,Calls.callWith_builtin rfl (PySem.evalArgs_none (hm pins s1 σ H1 x [] v [] Q I1 r1 .nil q1))⟩
theorem pe_bm (pa : PlainAttrs T) (slot : Slot T name id) (hty : typeOf (.builtin id) = pure (.type "method_descriptor")) (hm : MtR X id r) (ho : PE X o to) (ha : PA X (e :: es) t)
    (hbase : attributeBase o name X.env (eval o X.env) = eval o X.env := by rfl)
    (hfew : ((backTo cpos (starEach (e :: es) X.env)).all (fun x => !x.1) && (backToKw cpos (keywordEach [] X.env)).all (fun x => x.1.isSome)
      && decide ((e :: es).length + ([] : List Keyword).length + (if ([] : List Keyword).isEmpty then 0 else 1) < 30)) = true := by rfl)
    (hline : (apos.endLine == cpos.line) = true := by rfl) (hs : starEach (e :: es) X.env = (false,eval e X.env) :: starEach es X.env := by rfl) (hplain : (backTo cpos (starEach es X.env)).any (·.1) = false := by rfl) :
    PE X (.Call (.Attribute o name apos) (e :: es) [] cpos) (tBM X.K T r to t) := by
  intro pins s σ H Q I h
  refine wpAny_Call_method_late hbase hfew hline rfl (thn (ho pins s σ H _ I h) fun v s1 ⟨x,H1,I1,r1,ty,q1⟩ => ?_)
  obtain ⟨h1,h2⟩ := tyV_is I1 r1 ty
  refine ⟨T,id,pa,slot,hty,h1,h2,?_⟩
  have hA := ha cpos pins s1 σ H1 _ I1 q1
  rw [hs] at hA ⊢
  refine Calls.callWith_builtin (by show (false || (backTo cpos (starEach es X.env)).any (·.1)) = false; rw [hplain] <;> rfl) (Calls.evalArgs_plain ?_)
  exact thn hA fun us s2 ⟨vs,H2,I2,r2,q2⟩ => hm pins s2 σ H2 x vs v us Q I2 r1 r2 q2
/- xs.append(e),list.index on a module's tuple .. are MtR facts of 06m -/
end
end L2

namespace L2
open PySem PySem.Spec PyProof.Rows

def MtM (X : Cx) (id : String) (r : V → List V → Hp → VK → Prop) : Prop :=
  ∀ (pins : List (Addr × Obj)) (s : Shared) (σ : St) (H : Hp) (x : V) (xs : List V) (v : Value) (us : List Value) (Q : VK),Inv X pins σ H s → RelV x v → Vals xs us → r x xs H Q →
    wpAny (model X.prog X.w) X.A (call (.builtin id) (v :: us)) (EP X pins σ Q) X.xe s

theorem Vals.one : ∀ {x : V} {us : List Value},Vals [x] us → ∃ u,us = [u] ∧ RelV x u
  | _,_,.cons r .nil => ⟨_,rfl,r⟩
theorem Vals.zero : ∀ {us : List Value},Vals [] us → us = []
  | _,.nil => rfl
theorem Vals.dropLast {xs : List V} {us : List Value} (h : Vals xs us) : Vals xs.dropLast us.dropLast := by
  induction h with
  | nil => exact .nil
  | cons r t ih =>
    cases t with
    | nil => exact .nil
    | cons q t' => exact .cons r ih
theorem erase_last {α : Type} (l : List α) : l.eraseIdx (l.length - 1) = l.dropLast := by
  induction l with
  | nil => rfl
  | cons a r ih =>
    cases r with
    | nil => rfl
    | cons b r =>
      have e : (a :: b :: r).length - 1 = ((b :: r).length - 1) + 1 := by
        have h1 : (a :: b :: r).length = r.length + 2 := rfl
        have h2 : (b :: r).length = r.length + 1 := rfl
        omega
      rw [e,List.eraseIdx_cons_succ,ih]
      all_goals rfl
section
variable {X : Cx} {pins : List (Addr × Obj)} {σ : St} {H : Hp} {s : Shared} {l b : Addr} {xs ys zs : List V}

theorem Inv.lset {its its' : List Value} {n : Nat} {f : Array Value → Array Value} {t' : Nat} (I : Inv X pins σ H s) (hH : H l = some (.lst xs))
    (e : s.heap.get? l = some { cls := .type "list",data := .seq its.toArray n }) (hf : f its.toArray = its'.toArray) (hv : Vals ys its') (hz : ys.length ≤ sizeLine) :
    Inv X pins σ (upd H l (.lst ys)) { s with heap := s.heap.update l (Obj.mapSeq f),toks := t' } := by
  have q := PySem.IsL.update e f
  rw [hf] at q
  refine I.write (x := l) (e := l) (by rw [hH]; exact trivial) (.inl rfl) (fun b' u hb hu => (Heap.get?_update_other s.heap (Obj.mapSeq f) (Ne.symm hb)).trans hu) ⟨_,q⟩ ?_
  exact ⟨hz,its',_,hv,q⟩
theorem Inv.fresh (I : Inv X pins σ H s) : H s.heap.objs.size = none := I.hok.fresh (Nat.le_refl _)
theorem Inv.lstM (I : Inv X pins σ H s) (hH : H l = some (.lst xs)) : xs.length ≤ sizeLine ∧ ∃ (its : List Value) (n : Nat),Vals xs its ∧ xs.length = its.length ∧ s.heap.get? l = some { cls := .type "list",data := .seq its.toArray n } := by
  obtain ⟨z,its,n,r,e⟩ := I.hok l _ hH
  exact ⟨z,its,n,r,r.length,e⟩

theorem notLongL {n : Nat} (h : n ≤ sizeLine) : Builtin.List.listTooLong n = false := by
  unfold Builtin.List.listTooLong
  exact decide_eq_false (by omega)
end

section
variable {X : Cx}

def rAppend : V → List V → Hp → VK → Prop := fun x vs H Q => ∃ l xs y,x = .ref l ∧ vs = [y] ∧ H l = some (.lst xs) ∧ xs.length < sizeLine ∧ Q .non (upd H l (.lst (xs ++ [y])))
theorem mt_append : MtM X "list.append" rAppend := by
  intro pins s σ H x vs v us Q I rx rv h
  obtain ⟨l,xs,y,rfl,rfl,hH,hz,q⟩ := h
  cases rx
  obtain ⟨u,rfl,ru⟩ := rv.one
  obtain ⟨z,its,n,r,hl,e⟩ := I.lstM hH
  refine call_meets F.slot_list_append ⟨_,e,rfl⟩ F.entry_list_append (F.args_list_append_2 _ _) (PySem.list_append l its.toArray n u (by rw [List.size_toArray]; omega)) ⟨e,?_⟩
  refine ⟨.non,_,I.lset (its' := its ++ [u]) hH e (by simp) (r.append (.cons ru .nil)) ?_,rfl,q⟩
  rw [List.length_append,List.length_singleton]
  omega

def rPop : V → List V → Hp → VK → Prop := fun x vs H Q => ∃ l xs y,x = .ref l ∧ vs = [] ∧ H l = some (.lst xs) ∧ xs[xs.length - 1]? = some y ∧ Q y (upd H l (.lst xs.dropLast))
theorem mt_pop : MtM X "list.pop" rPop := by
  intro pins s σ H x vs v us Q I rx rv h
  obtain ⟨l,xs,y,rfl,rfl,hH,hy,q⟩ := h
  cases rx
  have hus := rv.zero
  subst hus
  obtain ⟨z,its,n,r,hl,e⟩ := I.lstM hH
  obtain ⟨u,hu,ru⟩ := r.get hy
  have hy' : its.toArray[its.toArray.size - 1]? = some u := by
    show its.toArray[its.length - 1]? = some u
    rw [← Array.getElem?_toList,← hl]
    exact hu
  refine call_meets F.slot_list_pop ⟨_,e,rfl⟩ F.entry_list_pop (F.args_list_pop_1 _) (MeetsSeq.list_pop_last l its.toArray n u hy' (by rw [List.size_toArray]; omega)) ⟨e,?_⟩
  refine ⟨y,_,I.lset (its' := its.dropLast) hH e ?_ r.dropLast ?_,ru,q⟩
  · show its.toArray.eraseIdxIfInBounds (its.toArray.size - 1) = its.dropLast.toArray
    rw [List.size_toArray,List.eraseIdxIfInBounds_toArray,erase_last]
  · rw [List.length_dropLast]
    omega

end

section
variable {prog : Program} {w : World} {A : Around} {E : Value → Shared → Prop} {s : Shared}
end

section
variable {X : Cx}
end
end L2

namespace Att
open PySem PySem.W PySem.Calls PyProof.Rows

theorem ints_of_wellAll {P : Params} {h : Heap} : ∀ (ns : List Int) (vs : List Value),WellAll P h vs (ns.map WData.int) → IntsAre vs ns := by
  intro ns
  induction ns with
  | nil =>
    intro vs w
    rw [List.map_nil] at w
    cases w
    exact .nil
  | cons n ns ih =>
    intro vs w
    rw [List.map_cons] at w
    cases w with
    | cons a b =>
      cases a
      exact .cons _ _ (ih _ b)

theorem script_of {l : OpenLaw} {n : Nat} (hn : l.most = some n) {P : Params} {h : Heap} {args : List WData} {vals : List Value}
    (hpre : l.row.toRowW.claim.pre args = true) (hwl : WellAll P h vals args) :
    ∃ a vs ns,vals = [Value.ref a] ∧ args = [WData.list (ns.map WData.int)] ∧ h.get? a = some { cls := .type "list",data := .seq vs.toArray } ∧ IntsAre vs ns ∧ ns.length ≤ n := by
  have hsh : WShape.hasAll [] args [.list .int] = true := (pre_splitW hpre).1
  have hc : l.pre.holds [] { args := args } = true := (pre_splitW hpre).2
  obtain ⟨d,r,rfl,h1,h2⟩ := hasAllW_cons hsh
  obtain rfl := hasAllW_nil h2
  obtain ⟨xs,rfl,h3⟩ := hasW_list h1
  obtain ⟨ns,rfl⟩ := items_int h3
  have hlen : ns.length ≤ n := by
    unfold OpenLaw.pre at hc
    have h4 : (WTm.not (.lt (.lit (.int (n : Int))) (.len (.arg 0)))).holds [] { args := [.list (ns.map .int)] } = true := by
      have h4 := (holds_andW hc).1
      rw [hn] at h4
      exact h4
    have h5 := condW_of h4 (w_not (w_lt w_lit (w_len_list (w_arg rfl))))
    rw [List.length_map] at h5
    refine Nat.le_of_not_lt fun q => ?_
    have q' : (n : Int) < ((ns.length : Nat) : Int) := by omega
    first
      | (rw [decide_eq_true q'] at h5; exact absurd h5 (by decide))
      | (simp at h5; omega)
  cases hwl with
  | cons w1 w2 =>
    cases w2
    cases w1 with
    | list ho hall => exact ⟨_,_,ns,rfl,rfl,ho,ints_of_wellAll ns _ hall,hlen⟩

theorem post_true (l : OpenLaw) (args : List WData) : l.row.toRowW.claim.post args (.bool true) args = true :=
  postW_of (r := l.row.toRowW) (X := (true == true))
    (show WShape.has [] (.bool true) .bool = true by first | rfl | decide | simp [WShape.has,WShape.arms,WShape.armsAll])
    (show (WTm.eq .res (.lit (.bool true))).value [] { args := args,res := some (.bool true),after := args } = some (.bool (true == true)) from w_eq_bool (w_res rfl) w_lit) rfl

theorem attach_call {l : OpenLaw} {n : Nat} {q : Program} {loose : List Str} {XP : (Str → Option Value) → Heap → Prop} {YP : World → Heap → Prop} {d : DefRec}
    (hn : l.most = some n) (hdf : d.params.defaults = [])
    (call : ∀ (w : World) (s₀ s₁ : Shared) (mg mb : Str → Option Value) (fa : Addr) (o : Obj) (pm cd doc : Value) (a : Addr) (vs : List Value) (ns : List Int),
      Ground q loose [] XP w s₀ mg mb s₁.heap → YP w s₁.heap →
      s₁.heap.get? fa = some o → o.data = .func (docDef d.name d.params d.body d.scope pm cd doc) → s₁.heap.CodeRec cd d.name → mg d.name = some (.ref fa) →
      s₁.heap.get? a = some { cls := .type "list",data := .seq vs.toArray } → IntsAre vs ns → ns.length ≤ n → s₁.gens = #[] →
      codeAny (model l.prog w) callerA (.call (.ref fa) ⟨[.ref a],[]⟩) (fun r s' => r = .ok (.ret (.bool true)) ∧ OldK s₁.heap s'.heap ∧ s'.os = s₁.os ∧ AllBare s'.gens) s₁) :
    WalkO q loose XP YP l.row.toRowW d [] (fun f vs => PySem.call f vs) := by
  intro w s₀ s₁ mg mb G Y fa o pm cd doc dV kV ho hd hcd hD hmg hg args vals as hpre hlay hrd hwl hlo
  obtain rfl : dV = .none := Dflts.none hD hdf
  obtain rfl : kV = .none := Dflts.noKw hD
  obtain ⟨a,vs,ns,rfl,rfl,hobj,hints,hlen⟩ := script_of hn hpre hwl
  refine enter_call (codeAny_mono (call w s₀ s₁ mg mb fa o pm cd doc a vs ns G Y ho (fd_plain hd) hcd hmg hobj hints hlen hg) fun r s' hq => ?_)
  obtain ⟨rfl,h2,h3,h4⟩ := hq
  exact ⟨.inl ⟨.bool true,.bool true,[],rfl,fun _ => rfl,.bool true,post_true l _,fun _ => ⟨List.Pairwise.nil,fun _ hm => (nomatch hm)⟩⟩,h2,h3,h4⟩

section
variable {prog : Program} {w : World} {A : Around} {E : Value → Shared → Prop} {s : Shared} {K : Frag}

end
end Att

namespace L2
open PySem PySem.Spec PyProof.Rows

theorem vals_ints : ∀ {vs : List Value} {ns : List Int},IntsAre vs ns → Vals (ns.map V.int) vs
  | _,_,.nil => .nil
  | _,_,.cons n t h => .cons ⟨t,rfl⟩ (vals_ints h)

def Only (H : Hp) : Prop := ∀ b,H b = none ∨ ∃ o xs,H b = some (.frz o (.lst xs))

theorem law_call {P : Program} {w : World} {K : PySem.W.Frag} {mg mb : Str → Option Value} {CX : CXT} {k : Nat} {fa a : Addr} {fd : FuncData} {x : Str} {sp : Sp} {s₁ : Shared} {vs : List Value} {ns : List Int}
    (KX : K.In s₁.heap) (hns : s₁.heap.Ns mainGlobals mg) (hb : s₁.heap.Ns builtinsNs mb) (hbb : ∀ x : Str,x ≠ "__name__" → mb x = bootBuiltins x) (hlim : s₁.heap.NoLimit) (hg : s₁.gens = #[])
    (ha : s₁.heap.get? a = some { cls := .type "list",data := .seq vs.toArray }) (hi : IntsAre vs ns) (hl : ns.length ≤ sizeLine) (hr : Room k callerA)
    (F : ∀ base : Heap,K.In base → base.Ns mainGlobals mg → FnOk P w K mg base CX k fa fd [x] sp) (hbind : ∀ (s : Shared) (u : Value),BindsTo s fd ⟨[u],[]⟩ [(x,u)])
    (hsp : ∀ H : Hp,Only H → SqL K H a (ns.map V.int) → sp [.ref a] H (fun v _ => v = .bl true) fun _ _ _ => False)
    (hCX : ∀ H e s',CX [] H s₁ (fun _ _ _ => False) e s' → False) :
    codeAny (model P w) callerA (.call (.ref fa) ⟨[.ref a],[]⟩) (fun r s' => r = .ok (.ret (.bool true)) ∧ OldK s₁.heap s'.heap ∧ s'.os = s₁.os ∧ AllBare s'.gens) s₁ := by
  have rv := vals_ints hi
  have lenV := hi.length
  -- from an abstract heap in which nothing but the script may be tracked
  have core : ∀ H : Hp,Only H → SqL K H a (ns.map V.int) → HOk P w H s₁.heap → (∀ b,H b ≠ none → b = a) → (H a ≠ none → K.lookup a = none) →
      codeAny (model P w) callerA (.call (.ref fa) ⟨[.ref a],[]⟩) (fun r s' => r = .ok (.ret (.bool true)) ∧ OldK s₁.heap s'.heap ∧ s'.os = s₁.os ∧ AllBare s'.gens) s₁ := by
    intro H hO hS hok hA hK
    have base_of : ∀ {b : Addr} {o : Obj},s₁.heap.get? b = some o → H b = none → (hidT s₁.heap H).get? b = some o := fun e n => hidT_get e n
    have noA : ∀ {b : Addr} {o : Obj} {es : Array DictEntry} {ep : Nat},s₁.heap.get? b = some o → o.data = .dict es ep → H b = none := fun {b o es ep} e d => by
      cases q : H b with
      | none => rfl
      | some u =>
        have e' : b = a := hA b (by rw [q]; simp)
        subst e'
        rw [ha] at e; cases e
        have d' : Data.seq vs.toArray _ = Data.dict es ep := d
        cases d'
    have nsK : ∀ {b : Addr} {m : Str → Option Value},s₁.heap.Ns b m → (hidT s₁.heap H).Ns b m := fun {b m} ⟨o,es,ep,e,d,r⟩ => ⟨o,es,ep,base_of e (noA e d),d,r⟩
    have hKb : K.In (hidT s₁.heap H) := fun b o e => base_of (KX b o e) (by
      cases q : H b with
      | none => rfl
      | some u =>
        have e' : b = a := hA b (by rw [q]; simp)
        subst e'
        rw [hK (by rw [q]; simp)] at e; cases e)
    have hM : Mod K mg (hidT s₁.heap H) := ⟨hKb,nsK hns,⟨mb,nsK hb,hbb⟩,let ⟨mc,h1,h2⟩ := hlim; ⟨mc,nsK h1,h2⟩⟩
    have e0 : Env0 P w K mg (hidT s₁.heap H) callerA [] s₁ H := ⟨rfl,hM,fun b o e => of_hidT e,Nat.le_of_eq (hidT_size _ _),trivial,fun b hb => absurd (show b ∈ ([] : List Addr) from hb) (by simp),hok,.of_eq hg⟩
    refine codeAny_mono ((F _ hKb (nsK hns)).run callerA [] s₁ H ⟨[.ref a],[]⟩ [.ref a] [.ref a] _ _ hr e0 (hbind s₁ (.ref a)) (.cons rfl .nil) (hsp H hO hS)) fun r s' h => ?_
    cases r with
    | error e => exact (hCX H e s' h).elim
    | ok fl =>
      cases fl with
      | next => exact False.elim h
      | brk => exact False.elim h
      | cont => exact False.elim h
      | ret u =>
        obtain ⟨v,H',os,bare,un,hok',r',q⟩ := h
        have q' : v = .bl true := q
        subst q'
        obtain rfl : u = Value.bool true := r'
        refine ⟨rfl,OldK.of_keep fun b o e => ?_,os,bare⟩
        cases q : H b with
        | none => exact un.keep b o e q (by intro z; exact absurd (show b ∈ ([] : List Addr) from z) (by simp)) (by simp)
        | some u =>
          rcases hO b with z | ⟨ob,xs,z⟩
          · rw [q] at z; cases z
          · have z2 := un.frzs b ob _ z
            obtain ⟨e1,_⟩ := hok b _ z
            obtain ⟨e2,_⟩ := hok' b _ z2
            rw [e] at e1; cases e1
            exact e2
  cases hk : K.lookup a with
  | some o =>
    -- the script is one of the module's own objects
    have e := KX a o hk
    rw [ha] at e
    cases e
    refine core (fun _ => none) (fun _ => .inl rfl) (.inr ⟨_,vs.toArray,_,hk,rfl,rfl,rfl,by rw [List.size_toArray,lenV]; exact hl,by simpa using rv⟩) (fun b u z => by have z' : (none : Option HO) = some u := z; cases z') (fun b z => absurd rfl z) fun z => absurd rfl z
  | none =>
    refine core (fun b => if b = a then some (.frz { cls := .type "list",data := .seq vs.toArray } (.lst (ns.map V.int))) else none) (fun b => ?_) (.inl (.inr ⟨{ cls := .type "list",data := .seq vs.toArray },if_pos rfl⟩)) (fun b u z => ?_) (fun b z => ?_) fun _ => hk
    · by_cases hb : b = a
      · exact .inr ⟨_,_,if_pos hb⟩
      · exact .inl (if_neg hb)
    · by_cases hb : b = a
      · have z' := (if_pos hb).symm.trans z
        cases z'
        subst hb
        exact ⟨ha,by rw [List.length_map]; exact hl,vs,_,rv,ha⟩
      · have z' := (if_neg hb).symm.trans z
        cases z'
    · by_cases hb : b = a
      · exact hb
      · exact absurd (if_neg hb) z
end L2

namespace L2
open PySem PySem.Spec PyProof.Rows

abbrev KOf {K : PySem.W.Frag} {h : Heap} (_ : K.In h) : PySem.W.Frag := K

theorem walk_of {l : PySem.W.OpenLaw} {n k : Nat} {q : Program} {loose : List Str} {XP : (Str → Option Value) → Heap → Prop} {YP : World → Heap → Prop} {d : DefRec} {K : Params → PySem.W.Frag} {CX : World → CXT} {sp : World → Sp} {x : Str}
    (hn : l.most = some n) (hn2 : n ≤ sizeLine) (hdf : d.params.defaults = []) (hr : Room k callerA)
    (hY : ∀ (w : World) (h : Heap),YP w h → (K w.params).In h)
    (F : ∀ (w : World) (mg : Str → Option Value) (fa : Addr) (h : Heap),(K w.params).In h → h.Ns mainGlobals mg → mg d.name = some (.ref fa) →
      ∃ fd : FuncData,(∀ (s : Shared) (u : Value),BindsTo s fd ⟨[u],[]⟩ [(x,u)]) ∧
        ∀ base : Heap,(K w.params).In base → base.Ns mainGlobals mg → FnOk l.prog w (K w.params) mg base (CX w) k fa fd [x] (sp w))
    (hsp : ∀ (w : World) (H : Hp) (a : Addr) (ns : List Int),ns.length ≤ n → Only H → SqL (K w.params) H a (ns.map V.int) → sp w [.ref a] H (fun v _ => v = .bl true) fun _ _ _ => False)
    (hCX : ∀ (w : World) (H : Hp) (s : Shared) (e : Value) (s' : Shared),CX w [] H s (fun _ _ _ => False) e s' → False) :
    PySem.W.WalkO q loose XP YP l.row.toRowW d [] (fun f vs => PySem.call f vs) := by
  refine Att.attach_call hn hdf fun w s₀ s₁ mg mb fa o pm cd doc a vs ns G Y ho hd hcd hmg hobj hints hlen hg => ?_
  have KX := hY w _ Y
  obtain ⟨fd,hb,hF⟩ := F w mg fa _ KX G.T.g hmg
  exact law_call KX G.T.g G.T.b G.T.builtins G.T.nolimit hg hobj hints (Nat.le_trans hlen hn2) hr hF hb (fun H hO hS => hsp w H a ns hlen hO hS) fun H e s' => hCX w H s₁ e s'
end L2

/- THE LAST THEOREM (shape; LID,My.* are yours):
   My.Adr: a structure of the addresses that your layer names (classes,functions); My.Txt K t: a structure (Prop) of the equations over K;
   My.txt_mk : {K} {implicit addresses ..} (e1 : nsIn K mainGlobals "law" = some (some (.ref f))) (e2 : K.lookup f = some ⟨oc,od,.func (fnOf "law" "law" params body scope dV kV doc pm an cdv ct),sl⟩) (e3 : codeIn K cdv "law" = true) .. : ∃ t,My.Txt K t

set_option maxRecDepth 100000 in
set_option maxHeartbeats 0 in
theorem PySem.Challenge.cw_LID_holds : PySem.Challenge.rw_LID.Holds := by
  w_on; o_law; k_head; (case hw => w_witness2)
  k_fill
  refine L2.walk_of (l := PySem.Challenge.rw_LID) (n := 63) (k := 40) (x := "script") (CX := fun w => ..) (sp := fun _ => My.sp_law) rfl (by decide) rfl ⟨rfl,by decide,by decide⟩ (fun w h Y => PySem.W.kIn_of Y) ?F ?S ?C
  case F =>
    intro w mg fa h KX G hmg
    have T : ∃ t,My.Txt (L2.KOf KX) t := by
      dsimp only [L2.KOf]                          -- K must stand as «<heap const> w.params» for k_is
      refine' My.txt_mk ?e1 ?e2 ?e3 ..
      (case e1 => PySem.W.k_is)                    -- in the order: a name -> its address -> its object -> its parts
      (case e2 => PySem.W.k_is)
      ..
    obtain ⟨t,T⟩ := T
    have e0 := hmg.symm.trans (PySem.W.mg_of KX G T.law)
    cases e0                                       -- fa is the law's own address
    exact ⟨_,fun s u => .of_eq rfl,fun base kb nb => My.law_fn T kb nb⟩     -- if «.of_eq rfl» comes too early: refine' ⟨_,?b,fun base kb nb => My.law_fn T kb nb⟩; exact fun s u => .of_eq rfl
  case S => exact fun w H a ns hl hO hS => ..
  case C => exact ..
(the tactic k_is has no namespace: write k_is) -/

namespace L2
open PySem PySem.Spec PyProof.Rows

def inClass (s : Stmt) (j : Nat) : Stmt := match s with
  | .ClassDef _ _ _ body _ _ _ _ _ _ _ => body.getD j (.Pass ⟨0,0,0,0⟩)
  | _ => .Pass ⟨0,0,0,0⟩
def defArgs (s : Stmt) : Arguments := match s with
  | .FunctionDef _ a _ _ _ _ _ _ _ _ => a
  | _ => { posonlyargs := [],args := [],vararg := none,kwonlyargs := [],kw_defaults := [],kwarg := none,defaults := [] }
def defBody (s : Stmt) : List Stmt := match s with
  | .FunctionDef _ _ b _ _ _ _ _ _ _ => b
  | _ => []
def defScope (s : Stmt) : Scope := match s with
  | .FunctionDef _ _ _ _ _ _ sc _ _ _ => sc
  | _ => { kind := .function,names := [],isGenerator := false,isCoroutine := false }

abbrev CX0 : CXT := fun _ _ _ _ _ _ => False
abbrev E0 : XK := fun _ _ _ => False
theorem pass0 {X : Cx} : Passes CX0 X E0 := fun _ _ _ _ _ _ _ h => h.elim

structure Fun (K : PySem.W.Frag) (x qual : Str) (st : Stmt) (f : Addr) (fd : FuncData) : Prop where
  ex : ∃ (oc : Value) (od : Option Addr) (kV doc pm : Value) (an : Option Addr) (cdv ct : Value) (osl : Array (Option Value)),
    fd = PySem.W.fnOf x qual (defArgs st) (defBody st) (defScope st) .none kV doc pm an cdv ct ∧ K.lookup f = some ⟨oc,od,.func fd,osl⟩ ∧ PySem.W.codeIn K cdv qual = true
  kp : PySem.W.keepIn K (.ref f) = true
section
variable {P : Program} {w : World} {K : PySem.W.Frag} {mg : Str → Option Value} {base : Heap}
theorem Fun.ok {x qual : Str} {st : Stmt} {f : Addr} {fd : FuncData} {N ps : List Str} {k : Nat} {sp : Sp} (F : Fun K x qual st f fd) (S : FnScope N ps (defScope st)) (len : ∀ vs H Q E,sp vs H Q E → vs.length = ps.length)
    (hbody : ∀ (cdv : Value) (A : Around) (outer : List Env) (s : Shared) (H : Hp) (vs : List V) (Q : VK) (E : XK),Room k (A.deeper (envOfC qual (defScope st) s.heap.objs.size f cdv)) → sp vs H Q E →
      ∃ t,PSs (cxOf CX0 P w K mg base N qual (defScope st) f cdv A outer s H E).nox (defBody st) t ∧ t { nx := fun _ H' => Q .non H',rt := Q } (start N vs) H) : FnOk P w K mg base CX0 (k + 1) f fd ps sp := by
  obtain ⟨oc,od,kV,doc,pm,an,cdv,ct,osl,rfl,lk,hcd⟩ := F.ex
  refine fn_of lk hcd S len fun A outer s H vs Q E hr hsp => ?_
  obtain ⟨t,h,q⟩ := hbody cdv A outer s H vs Q E hr hsp
  exact ⟨t,h.nox,q⟩
theorem Fun.binds {x qual : Str} {st : Stmt} {f : Addr} {fd : FuncData} {ps : List Str} (F : Fun K x qual st f fd)
    (h : ∀ (kV doc pm : Value) (an : Option Addr) (cdv ct : Value) (us : List Value),us.length = ps.length → bindArgs (PySem.W.fnOf x qual (defArgs st) (defBody st) (defScope st) .none kV doc pm an cdv ct) ⟨us,[]⟩ = pure (ps.zip us)) : Binds K fd ps [] := by
  obtain ⟨oc,od,kV,doc,pm,an,cdv,ct,osl,rfl,lk,hcd⟩ := F.ex
  exact .all (h kV doc pm an cdv ct)
theorem fun_mk {x qual : Str} {st : Stmt} {f : Addr} {oc : Value} {od an : Option Addr} {osl : Array (Option Value)} {kV doc pm cdv ct : Value} (l : K.lookup f = some ⟨oc,od,.func (PySem.W.fnOf x qual (defArgs st) (defBody st) (defScope st) .none kV doc pm an cdv ct),osl⟩)
    (c : PySem.W.codeIn K cdv qual = true) (k : PySem.W.keepIn K (.ref f) = true) : Fun K x qual st f (PySem.W.fnOf x qual (defArgs st) (defBody st) (defScope st) .none kV doc pm an cdv ct) := ⟨⟨oc,od,kV,doc,pm,an,cdv,ct,osl,rfl,l,c⟩,k⟩
end
section
variable {X : Cx}
theorem pv (i : Nat) {x : Str} {pos : Pos} (hN : X.N[i]? = some x := by rfl) (hv : Vis X.env.scope x := by first | exact Or.inl rfl | exact Or.inr (Or.inl rfl) | exact Or.inr (Or.inr rfl)) (hd : (x == ("__debug__" : Str)) = false := by decide)
    (hcd : (x == ("__classdict__" : Str)) = false := by decide) : PE X (.Name x pos) (tVar i) := pe_var hN hv hd hcd
end

theorem iteF {A B : Prop} (h : B) : if false = true then A else B := by
  rw [if_neg Bool.false_ne_true]
  exact h
theorem iteT {A B : Prop} (h : A) : if true = true then A else B := by
  rw [if_pos rfl]
  exact h
theorem ite2 {c A B : Prop} [Decidable c] (h1 : c → A) (h2 : ¬ c → B) : if c then A else B := by
  by_cases h : c
  · rw [if_pos h]
    exact h1 h
  · rw [if_neg h]
    exact h2 h
def Same (H H' : Hp) : Prop := ∀ b o,H b = some o → H' b = some o
theorem Same.refl (H : Hp) : Same H H := fun _ _ h => h
theorem Same.trans {H H1 H2 : Hp} (a : Same H H1) (b : Same H1 H2) : Same H H2 := fun c o h => b c o (a c o h)
theorem Same.free {H H' : Hp} (e : Same H H') {l : Addr} (h : H' l = Option.none) : H l = Option.none := by
  cases q : H l with
  | none => rfl
  | some o =>
    rw [e l o q] at h
    cases h
theorem Same.seq {K : PySem.W.Frag} {H H' : Hp} {a : Addr} {xs : List V} (e : Same H H') (h : SqL K H a xs) : SqL K H' a xs := by
  rcases h with (h | ⟨o,h⟩) | h
  · exact .inl (.inl (e _ _ h))
  · exact .inl (.inr ⟨o,e _ _ h⟩)
  · exact .inr h

end L2

set_option maxHeartbeats 4000000
namespace L2
open PySem PySem.Spec PyProof.Rows

theorem ObjOk.there {P : Program} {w : World} {H : Hp} {h : Heap} {a : Addr} {o : HO} (x : ObjOk P w H h a o) : ∃ ob,h.get? a = some ob := by
  cases o with
  | lst xs => obtain ⟨_,_,_,_,e⟩ := x; exact ⟨_,e⟩
  | tup xs => obtain ⟨_,_,_,ob,e,_⟩ := x; exact ⟨ob,e⟩
  | dK kvs => obtain ⟨_,_,_,_,ob,_,_,e,_⟩ := x; exact ⟨_,e⟩
  | dT kvs => obtain ⟨_,_,_,_,ob,_,_,e,_⟩ := x; exact ⟨_,e⟩
  | set S n => obtain ⟨ob,_,_,_,e,_⟩ := x; exact ⟨_,e⟩
  | ins C dx fs => obtain ⟨_,_,_,e,_⟩ := x; exact ⟨_,e⟩
  | own y => exact x
  | xd fs => obtain ⟨_,⟨_,_,_,e,_⟩,_⟩ := x; exact ⟨_,e⟩
  | rng lo hi => obtain ⟨_,_,_,e⟩ := x; exact ⟨_,e⟩
  | frz ob u => obtain ⟨e,_⟩ := x; exact ⟨_,e⟩
  | tbl ps => exact ⟨_,(show h.get? a = some _ from x)⟩
  | met f y => exact ⟨_,(show h.get? a = some _ from x)⟩
  | ext φ => obtain ⟨_,e,_⟩ := x; exact e

structure FlyT (h0 : Heap) (H : Hp) (a T : Addr) (C : Value) (h : Heap) : Prop where
  na : h0.get? a = none
  fa : H a = none
  nT : h0.get? T = none
  fT : H T = none
  ob : ∃ oe vs a0 oT ts,h.get? a = some oe ∧ oe.cls = C ∧ oe.data = .fields vs ∧ vs[0]? = some a0 ∧ vs[1]? = some (.ref T) ∧ T ≠ a ∧ h.get? T = some oT ∧ oT.data = .fields ts ∧ ts[3]? = some .none
section
variable {X : Cx} {pins : List (Addr × Obj)} {σ : St} {H H' : Hp} {s s' : Shared}
theorem Inv.nopins (I : Inv X pins σ H s) : Inv X [] σ H s := I.pins_of fun p hp => nomatch hp
theorem Inv.new0 (I : Inv X pins σ H s) (hex : X.ex = []) {b : Addr} (n : s.heap.get? b = none) : X.s₀.heap.get? b = none := by
  cases q : X.s₀.heap.get? b with
  | none => rfl
  | some o =>
    obtain ⟨o',e⟩ := I.base.there b o q (by rw [hex]; simp)
    rw [n] at e; cases e
theorem Inv.newH (I : Inv X pins σ H s) {b : Addr} (n : s.heap.get? b = none) : H b = none := by
  cases q : H b with
  | none => rfl
  | some o =>
    obtain ⟨ob,e⟩ := (I.hok b o q).there
    rw [n] at e; cases e
structure Shift (X : Cx) (ts : List Addr) (h h' : Heap) : Prop where
  stays : (PySem.W.hideAll h (ts ++ frs X.stack)).StaysIn h'
  up : h.UpToSlots h'

theorem Shift.frame {ts : List Addr} {h' : Heap} (S : Shift X ts s.heap h') (I : Inv X pins σ H s) {b : Addr} (hb : b ∈ frs X.stack) {o : Obj} (e : s.heap.get? b = some o) : ∃ sl,h'.get? b = some { o with slots := sl } := by
  obtain ⟨_,o',e',nf⟩ := I.stack.mem hb
  rw [e] at e'; cases e'
  exact S.up b o e nf
theorem Shift.get {ts : List Addr} {h' : Heap} (S : Shift X ts s.heap h') {b : Addr} {o : Obj} (e : s.heap.get? b = some o) (h1 : b ∉ ts) (h2 : b ∉ frs X.stack) : h'.get? b = some o :=
  S.stays b o (PySem.W.hideAll_get _ e fun z => (List.mem_append.mp z).elim h1 h2)
theorem Shift.hok {ts : List Addr} {h' : Heap} (S : Shift X ts s.heap h') (I : Inv X pins σ H s) (hts : ∀ b ∈ ts,H b = none) : HOk X.prog X.w H h' := fun a o e => by
  refine (I.hok a o e).stay (fun b u hb q => S.get q (fun z => ?_) fun z => ?_) (fun _ q => q) fun _ _ q => q
  · have n := hts b z
    rcases hb with rfl | hb
    · rw [e] at n; cases n
    · rw [hb] at n; cases n
  · have n := I.stkFree b z
    rcases hb with rfl | hb
    · rw [e] at n; cases n
    · rw [hb] at n; cases n
theorem Shift.un {ts : List Addr} {h' : Heap} (S : Shift X ts s.heap h') (I : Inv X pins σ H s) (hts : ∀ b ∈ ts,X.s₀.heap.get? b = none) : Un X.fs X.ex X.H₀ H X.s₀.heap h' := by
  have nts : ∀ b o,X.s₀.heap.get? b = some o → b ∉ ts := fun b o e z => by rw [hts b z] at e; cases e
  have nL : ∀ b o,X.s₀.heap.get? b = some o → b ≠ X.env.locals := fun b o e => Nat.ne_of_lt (Nat.lt_of_lt_of_le (Heap.lt_size e) I.ok.above)
  have nst : ∀ b o,X.s₀.heap.get? b = some o → b ∉ X.fs → b ∉ frs X.stack := fun b o e hb z => (List.mem_cons.mp (I.stkSub b z)).elim (nL b o e) hb
  refine ⟨fun b o e n hb hx => S.get (I.base.keep b o e n hb hx) (nts b o e) (nst b o e hb),fun b o e n hb hx => ?_,fun b o e n hx => I.base.free b o e n hx,fun b o e hx => ?_,I.base.tups,I.base.frzs,I.base.tbls⟩
  · obtain ⟨sl,e1⟩ := I.base.slot b o e n hb hx
    obtain ⟨_,o',e',nf⟩ := I.funs.mem hb
    rw [e1] at e'; cases e'
    obtain ⟨sl2,e2⟩ := S.up b _ e1 nf
    exact ⟨sl2,e2⟩
  · obtain ⟨o',e1⟩ := I.base.there b o e hx
    by_cases z : b ∈ frs X.stack
    · obtain ⟨sl,e2⟩ := S.frame I z e1
      exact ⟨_,e2⟩
    · exact ⟨o',S.get e1 (nts b o e) z⟩
theorem Shift.inv {ts : List Addr} {h' : Heap} {tk : Nat} (S : Shift X ts s.heap h') (I : Inv X pins σ H s) (hts : ∀ b ∈ ts,X.s₀.heap.get? b = none ∧ H b = none ∧ ∀ p ∈ X.pn ++ pins,p.1 ≠ b) : Inv X pins σ H { s with heap := h',toks := tk } := by
  have cellK : ∀ c v,s.heap.IsCell c v → h'.IsCell c v := fun c v ⟨o,ho,hd⟩ => by
    obtain ⟨sl,e⟩ := S.up c o ho (fun vs q => by rw [hd] at q; cases q)
    exact ⟨_,e,hd⟩
  refine ⟨I.ok,I.os,I.bare,S.un I fun b z => (hts b z).1,?_,fun x c e => ?_,I.free,I.freeC,fun p hp => ?_,S.hok I fun b z => (hts b z).2.1,I.len⟩
  · obtain ⟨m,hn,hl⟩ := I.loc
    refine ⟨m,S.up.ns hn,fun i x v e1 e2 e3 => ?_⟩
    obtain ⟨u,r,l⟩ := hl i x v e1 e2 e3
    refine ⟨u,r,?_⟩
    rcases l with l | ⟨k,c,e,z⟩
    · exact .inl l
    · exact .inr ⟨k,c,e,cellK c _ z⟩
  · obtain ⟨v,z⟩ := I.cell x c e
    exact ⟨v,cellK c v z⟩
  · obtain ⟨e,n,ne,nf,d⟩ := I.pin p hp
    exact ⟨S.get e (fun z => (hts p.1 z).2.2 p hp rfl) fun z => (List.mem_cons.mp (I.stkSub p.1 z)).elim ne nf,n,ne,nf,d⟩
theorem Shift.fly {ts : List Addr} {h' : Heap} {a : Addr} {C a0 : Value} (I : Inv X pins σ H s) (hex : X.ex = []) (hts : ∀ b ∈ ts,X.s₀.heap.get? b = none ∧ H b = none) (ha : a ∈ ts)
    (hf : h'.FunFrames (PySem.W.hideAll s.heap (ts ++ frs X.stack)) X.stack) (tr : h'.TracedW (PySem.W.hideAll s.heap (ts ++ frs X.stack)) a C a0) :
    ∃ T,FlyT X.s₀.heap H a T C h' ∧ ∀ p : Addr × Obj,s.heap.get? p.1 = some p.2 → p.1 ∉ ts → p.1 ∉ frs X.stack → p.1 ≠ T := by
  obtain ⟨oe,vs,T,oT,tv,he,⟨hc,h0⟩,hd,h1,hnT,hTe,hT,hdT,h3⟩ := tr
  have key : X.s₀.heap.get? T = none ∧ H T = none := by
    by_cases z : T ∈ ts
    · exact hts T z
    · have nf : T ∉ frs X.stack := fun q => by
        obtain ⟨_,o,ho,nf⟩ := hf.mem q
        rw [hT] at ho; cases ho
        exact nf _ hdT
      have nn : s.heap.get? T = none := by
        cases q : s.heap.get? T with
        | none => rfl
        | some o =>
          rw [PySem.W.hideAll_get _ q fun y => (List.mem_append.mp y).elim z nf] at hnT
          cases hnT
      exact ⟨I.new0 hex nn,I.newH nn⟩
  refine ⟨T,⟨(hts a ha).1,(hts a ha).2,key.1,key.2,oe,vs,a0,oT,tv,he,hc,hd,h0,h1,hTe,hT,hdT,h3⟩,fun p e n1 n2 z => ?_⟩
  rw [z] at e n1 n2
  rw [PySem.W.hideAll_get _ e fun y => (List.mem_append.mp y).elim n1 n2] at hnT
  cases hnT
theorem fun_hide (I : Inv X pins σ H s) (ts : List Addr) : s.heap.FunFrames (PySem.W.hideAll s.heap (ts ++ frs X.stack)) X.stack :=
  PySem.W.funFrames_hide I.stack fun env he b hb => List.mem_append_right _ (List.mem_filterMap.mpr ⟨env,he,hb⟩)
theorem hide_stays (h : Heap) (l : List Addr) : (PySem.W.hideAll h l).StaysIn h := fun _ _ e => PySem.W.of_hideAll l e
end

section
variable {P : Program} {w : World} {K : PySem.W.Frag} {mg : Str → Option Value} {base : Heap} {N : List Str} {qual : Str} {scope : Scope} {f : Addr} {cd : Value} {A : Around} {outer : List Env} {s : Shared} {H : Hp} {E : XK}
end
abbrev bmVE : List Value := [.type "ValueError",.type "Exception",.type "BaseException",.type "object"]
abbrev newVE : String := "ValueError.__new__"
end L2
namespace PySem.W
open PySem PySem.Calls PyProof.Rows Builtin Builtin.ObjectAttr Builtin.Getset_descriptor
structure ExcK (K : Frag) (C : Addr) : Prop where
  ex : excIn K C [.type "ValueError",.type "Exception",.type "BaseException",.type "object"] "ValueError.__new__" = true
  ga : findIn K (.ref C) "__getattribute__" = some (some (.builtin "BaseException.__getattribute__"))
  no : findIn K (.ref C) "__getattr__" = some none
  cl : findIn K (.ref C) "__class__" = some (some (.builtin "object.__class__"))
  ob : mroIn K C (.type "object") = some true
  be : mroIn K C (.type "BaseException") = some true
structure ClsK (K : Frag) : Prop where
  gt : specialIn K (.builtin "object.__class__") "__get__" = some (some (.builtin "getset_descriptor.__get__"))
  tk : takesIn K (.builtin "object.__class__") = some true
section
variable {prog : Program} {w : World} {A : Around} {E : Value → Shared → Prop} {s : Shared} {K : Frag} {x C D : Addr} {ox : Obj}
end
end PySem.W

namespace L2
open PySem PySem.Spec PyProof.Rows
theorem call_isinst {X : Cx} : CallR X (.builtin "isinstance") (fun xs H Q => ∃ x c t b,xs = [x,c] ∧ TyOf X.K H x t ∧ (∀ u,RelV c u → PySem.W.kitOne X.K t u = some b) ∧ Q (.bl b) H) := by
  intro pins s σ H xs us Q I r h
  obtain ⟨x,c,t,b,rfl,ty,k,q⟩ := h
  obtain ⟨u,w',rfl,r1,r2⟩ := vals2 r
  exact isinst_ok I r1 ty (k _ r2) fun tk => ⟨.bl b,H,I.tok tk,rfl,q⟩
abbrev Cx.inH (X : Cx) (a : Addr) : Cx := { X with A := X.A.mark (some (.ref a)),calm := false,xe := fun _ _ => False }
abbrev Cx.pinned (X : Cx) (pn : List (Addr × Obj)) : Cx := { X with pn := pn }
section
variable {X : Cx} {pins : List (Addr × Obj)} {σ : St} {H : Hp} {s : Shared}
theorem Inv.inH (I : Inv X pins σ H s) (a : Addr) : Inv (X.inH a) pins σ H s :=
  ⟨⟨I.ok.mod,I.ok.kind,I.ok.glob,I.ok.blt,I.ok.above,I.ok.inj,I.ok.has,I.ok.cab,(fun h => nomatch h),I.ok.frames,I.ok.stk,I.ok.exf,I.ok.bs,I.ok.bsz,I.ok.noex,I.ok.exfs,I.ok.funs,I.ok.frf⟩,I.os,I.bare,I.base,I.loc,I.cell,I.free,I.freeC,I.pin,I.hok,I.len⟩
theorem Inv.ofH {a : Addr} (ok : X.Ok) (I : Inv (X.inH a) pins σ H s) : Inv X pins σ H s := ⟨ok,I.os,I.bare,I.base,I.loc,I.cell,I.free,I.freeC,I.pin,I.hok,I.len⟩
theorem Inv.toPn (I : Inv X pins σ H s) : Inv (X.pinned (X.pn ++ pins)) [] σ H s :=
  ⟨⟨I.ok.mod,I.ok.kind,I.ok.glob,I.ok.blt,I.ok.above,I.ok.inj,I.ok.has,I.ok.cab,I.ok.hd,I.ok.frames,I.ok.stk,I.ok.exf,I.ok.bs,I.ok.bsz,I.ok.noex,I.ok.exfs,I.ok.funs,I.ok.frf⟩,I.os,I.bare,I.base,I.loc,I.cell,I.free,I.freeC,fun p hp => I.pin p (by simpa using hp),I.hok,I.len⟩
theorem Inv.ofPn (ok : X.Ok) (I : Inv (X.pinned (X.pn ++ pins)) [] σ H s) : Inv X pins σ H s :=
  ⟨ok,I.os,I.bare,I.base,I.loc,I.cell,I.free,I.freeC,fun p hp => I.pin p (by simpa using hp),I.hok,I.len⟩
theorem Inv.track {a : Addr} {o : HO} (I : Inv X pins σ H s) (hn : H a = none) (h0 : X.s₀.heap.get? a = none) (hL : a ≠ X.env.locals) (hc : ∀ x c,X.env.cells.lookup x = some c → c ≠ a) (hp : ∀ p ∈ X.pn ++ pins,p.1 ≠ a)
    (new : ObjOk X.prog X.w (upd H a o) s.heap a o) : Inv X pins σ (upd H a o) s := by
  have ne : ∀ b u,H b = some u → b ≠ a := fun b u e => ne_of_none e hn
  refine ⟨I.ok,I.os,I.bare,⟨I.base.keep,I.base.slot,fun b ob e n hx => ?_,I.base.there,fun b xs e => ?_,fun b ob u e => ?_,fun b ps e => ?_⟩,I.loc,I.cell,?_,fun x c e => ?_,fun p hp' => ?_,fun b u e => ?_,I.len⟩
  · rw [upd_ne (fun z => by rw [z,h0] at e; cases e)]
    exact I.base.free b ob e n hx
  · have q := I.base.tups b xs e
    rw [upd_ne (ne b _ q)]; exact q
  · have q := I.base.frzs b ob u e
    rw [upd_ne (ne b _ q)]; exact q
  · obtain ⟨m,q⟩ := I.base.tbls b ps e
    exact ⟨m,by rw [upd_ne (ne b _ q)]; exact q⟩
  · rw [upd_ne (Ne.symm hL)]; exact I.free
  · rw [upd_ne (hc x c e)]; exact I.freeC x c e
  · obtain ⟨e,n,r⟩ := I.pin p hp'
    exact ⟨e,by rw [upd_ne (hp p hp')]; exact n,r⟩
  · by_cases hb : b = a
    · subst hb; rw [upd_same] at e; cases e; exact new
    · rw [upd_ne hb] at e
      exact (I.hok b u e).stay (fun _ _ _ q => q) (fun c q => by rw [upd_ne (ne c _ q)]; exact q) fun c xs q => by rw [upd_ne (ne c _ q)]; exact q
theorem Inv.forget (I : Inv X pins σ H s) : Inv X pins (List.replicate X.N.length none) H s := I.weak (by rw [List.length_replicate]; exact I.len.symm) fun i v e => by
  rw [List.getElem?_replicate] at e
  split at e <;> cases e
end
end L2

namespace L2
open PySem PySem.Spec PyProof.Rows
end L2
namespace L2
open PySem PySem.Spec PyProof.Rows
def WTurn (Pv : St → Hp → Prop) (mu : St → Hp → Nat) (m : Nat) (tb : TS) (D : Ends) (σ : St) (H1 : Hp) : Prop :=
  ∃ N : St → Hp → Prop,(∀ σ' H',N σ' H' → ∃ m',m' < m ∧ m' = mu σ' H' ∧ Pv σ' H') ∧ tb { D with nx := N,ct := N,bk := D.nx } σ H1
theorem WTurn.of {Pv : St → Hp → Prop} {mu : St → Hp → Nat} {m : Nat} {tb : TS} {D : Ends} {σ : St} {H1 : Hp}
    (h : tb { D with nx := fun σ' H' => Pv σ' H' ∧ mu σ' H' < m,ct := fun σ' H' => Pv σ' H' ∧ mu σ' H' < m,bk := D.nx } σ H1) : WTurn Pv mu m tb D σ H1 :=
  ⟨_,fun σ' H' ⟨p,l⟩ => ⟨_,l,rfl,p⟩,h⟩
theorem while_w {c : TT} {tb : TS} {D : Ends} {σ : St} {H : Hp} (Pv : St → Hp → Prop) (mu : St → Hp → Nat) (h0 : Pv σ H)
    (hs : ∀ m σ H,Pv σ H → m = mu σ H → c σ H fun b H1 => if b = true then WTurn Pv mu m tb D σ H1 else D.nx σ H1) : tWhile c tb D σ H := by
  refine ⟨fun m σ H => m = mu σ H ∧ Pv σ H,⟨_,rfl,h0⟩,?_⟩
  rintro m σ H ⟨e,p⟩
  exact hs m σ H p e
theorem ifT {c A B : Prop} [Decidable c] (h : c) (k : A) : if decide c = true then A else B := by
  rw [if_pos (decide_eq_true h)]
  exact k
theorem ifF {c A B : Prop} [Decidable c] (h : ¬ c) (k : B) : if decide c = true then A else B := by
  rw [if_neg (fun z => h (of_decide_eq_true z))]
  exact k
theorem blT {Q : VK} {H : Hp} {c : Prop} [Decidable c] (h : c) (k : Q (.bl true) H) : Q (.bl (decide c)) H := by
  rw [decide_eq_true h]
  exact k
abbrev TF := Str → St → Hp → (Str → Hp → Prop) → Prop
def PF (X : Cx) (es : List Expr) (t : TF) : Prop := ∀ (pins : List (Addr × Obj)) (s : Shared) (σ : St) (H : Hp) (out : Str) (Q : VK),Inv X pins σ H s → t out σ H (fun z H1 => z.length ≤ sizeLine ∧ Q (.str z) H1) →
  wpAny (model X.prog X.w) X.A (joinParts out (evalEach es X.env)) (EP X pins σ Q) X.xe s
theorem pf_nil {X : Cx} : PF X [] (fun out _ H Q => Q out H) := fun pins s σ H out Q I h =>
  joinParts_nil (show EP X pins σ Q _ _ from ⟨.str out,H,I.tok _,⟨_,rfl⟩,h.2⟩) h.1
theorem pf_cons {X : Cx} {e : Expr} {es : List Expr} {te : TE} {tr : TF} (he : PE X e te) (hr : PF X es tr) :
    PF X (e :: es) (fun out σ H Q => te σ H fun v H1 => ∃ y,v = .str y ∧ (out ++ y).length ≤ sizeLine ∧ tr (out ++ y) σ H1 Q) := fun pins s σ H out Q I h => by
  show wpAny _ _ (joinParts out (eval e X.env :: evalEach es X.env)) _ _ _
  refine joinParts_cons (wpAny_mono (he pins s σ H _ I h) (fun u s1 q => ?_) fun _ _ z => z)
  obtain ⟨v,H1,I1,r,y,rfl,hz,q⟩ := q
  obtain ⟨t,rfl⟩ := r
  exact ⟨hz,hr pins s1 σ H1 _ Q I1 q⟩
theorem pe_fstr {X : Cx} {e1 e2 : Expr} {es : List Expr} {pos : Pos} {t : TF} (h : PF X (e1 :: e2 :: es) t) : PE X (.JoinedStr (e1 :: e2 :: es) pos) (fun σ H Q => t Str.empty σ H fun z H1 => z.length ≤ sizeLine ∧ Q (.str z) H1) :=
  fun pins s σ H Q I hw => JoinedStr_many (h pins s σ H Str.empty Q I hw)
end L2
namespace L2
open PySem PySem.Spec PyProof.Rows
theorem cellOf_some {env : Env} {x : Str} {c : Addr} (h : env.cells.lookup x = some c) : cellOf env x = pure c := by
  unfold cellOf
  rw [h]
theorem closure_go {env : Env} : ∀ (names : List (Str × NameKind)) (cs : List (Str × Addr)),(∀ x,(x,NameKind.free) ∈ names → ∃ c,env.cells.lookup x = some c) →
    (∀ x c,cs.lookup x = some c → env.cells.lookup x = some c) →
    ∃ cl : List (Str × Addr),(forIn names cs fun (y : Str × NameKind) (r : List (Str × Addr)) => if (y.2 == .free) = true then (do let c ← cellOf env y.1; pure (ForInStep.yield ((y.1,c) :: r)) : Sem _) else pure (ForInStep.yield r)) = pure cl ∧
      (∀ x c,cl.lookup x = some c → env.cells.lookup x = some c) ∧ (∀ x,((x,NameKind.free) ∈ names ∨ ∃ c,cs.lookup x = some c) → ∃ c,cl.lookup x = some c)
  | [],cs,_,h2 => ⟨cs,rfl,h2,fun x hx => hx.elim (fun z => nomatch z) id⟩
  | (y,k) :: names,cs,h1,h2 => by
    by_cases hk : k = .free
    · subst hk
      obtain ⟨c,hc⟩ := h1 y (List.mem_cons_self ..)
      obtain ⟨cl,e,a,b⟩ := closure_go names ((y,c) :: cs) (fun x hx => h1 x (List.mem_cons_of_mem _ hx)) (fun x c' hx => by
        rw [List.lookup_cons] at hx
        split at hx
        · rename_i hb
          have hb' : x = y := by simpa using hb
          cases hx
          rw [hb']
          exact hc
        · exact h2 x c' hx)
      refine ⟨cl,?_,a,fun x hx => b x ?_⟩
      · rw [List.forIn_cons]
        simp only [beq_self_eq_true,if_true,cellOf_some hc]
        exact e
      · rcases hx with hx | ⟨c',hx⟩
        · rcases List.mem_cons.mp hx with z | z
          · cases z
            exact .inr ⟨c,by simp⟩
          · exact .inl z
        · by_cases hb : (x == y) = true
          · exact .inr ⟨c,by rw [List.lookup_cons,hb]⟩
          · exact .inr ⟨c',by rw [List.lookup_cons,Bool.not_eq_true _ |>.mp hb]; exact hx⟩
    · obtain ⟨cl,e,a,b⟩ := closure_go names cs (fun x hx => h1 x (List.mem_cons_of_mem _ hx)) h2
      have hb : (k == NameKind.free) = false := by simpa using hk
      refine ⟨cl,?_,a,fun x hx => b x ?_⟩
      · rw [List.forIn_cons]
        simp only [hb,Bool.false_eq_true,if_false]
        exact e
      · rcases hx with hx | hx
        · rcases List.mem_cons.mp hx with z | z
          · cases z
            exact absurd rfl hk
          · exact .inl z
        · exact .inr hx
theorem closure_of {scope : Scope} {env : Env} (h : ∀ x,(x,NameKind.free) ∈ scope.names → ∃ c,env.cells.lookup x = some c) :
    ∃ cl,closureFor scope env = pure cl ∧ (∀ x c,cl.lookup x = some c → env.cells.lookup x = some c) ∧ ∀ x,(x,NameKind.free) ∈ scope.names → ∃ c,cl.lookup x = some c := by
  obtain ⟨cl,e,a,b⟩ := closure_go scope.names [] h (fun x c hx => nomatch hx)
  refine ⟨cl,?_,a,fun x hx => b x (.inl hx)⟩
  refine Eq.trans (b := (forIn scope.names [] fun (y : Str × NameKind) (r : List (Str × Addr)) => if (y.2 == .free) = true then (do let c ← cellOf env y.1; pure (ForInStep.yield ((y.1,c) :: r)) : Sem _) else pure (ForInStep.yield r)) >>= fun r => pure r) rfl ?_
  rw [e]
  rfl
section
variable {prog : Program} {w : World} {A : Around} {R : Result → Shared → Prop} {s : Shared}
theorem compLoop_any {elt target iter : Expr} {ifs : List Expr} {scope : Scope} {pos : Pos} {it acc : Value} {env : Env} (I : Nat → Shared → Prop)
    (turn : ∀ n s,I n s → wpAny (model prog w) A (pyNext it) (fun r s1 => match r with
      | none => R (.ok .next) s1
      | some v => wpAny (model prog w) A (letOwnedTupleGo target it v) (fun _ s1' => wpAny (model prog w) A (assign target env v) (fun _ s2 =>
          wpAny (model prog w) A (forIn ifs true fun c r => if r = true then do let ok ← isTrue c env (eval c env); pure (ForInStep.yield ok) else pure (ForInStep.yield r)) (fun ok s3 =>
            if ok = true then wpAny (model prog w) A (eval elt env) (fun x s4 =>
              wpAny (model prog w) A (call (.builtin "list.append") [acc,x]) (fun _ s5 => ∃ m,m < n ∧ I m s5) (fun _ _ => False) s4) (fun _ _ => False) s3
            else ∃ m,m < n ∧ I m s3) (fun _ _ => False) s2) (fun _ _ => False) s1') (fun _ _ => False) s1) (fun _ _ => False) s)
    (n : Nat) (h : I n s) : codeAny (model prog w) A (.compLoop (.ListComp elt [⟨target,iter,ifs,0⟩] scope pos) 0 it acc env) R s := by
  refine codeAny_loop rfl I (fun n s hI => ?_) n h
  show wpAny _ A ((compTurn (.ListComp elt [⟨target,iter,ifs,0⟩] scope pos) 0 it acc env).onRaise (fun x => do noteFrame x env; theTreesLotGoes x)) _ _ s
  refine wpAny_noted ?_
  rw [compTurn_list]
  refine wpAny_bind (wpAny_standAt (wpAny_bind (wpAny_mono (turn n s hI) (fun r s1 h1 => ?_) fun _ _ h' => h'.elim)))
  cases r with
  | none => exact wpAny_pure h1
  | some v =>
    refine wpAny_bind (wpAny_mono h1 (fun _ s1' h1' => ?_) fun _ _ h' => h'.elim)
    refine wpAny_bind (wpAny_mono h1' (fun _ s2 h2 => wpAny_bind (wpAny_mono h2 (fun ok s3 h3 => ?_) fun _ _ h' => h'.elim)) fun _ _ h' => h'.elim)
    cases ok with
    | false => exact wpAny_pure ⟨rfl,h3⟩
    | true =>
      exact wpAny_bind (wpAny_bind (wpAny_mono h3 (fun x s4 h4 => wpAny_bind (wpAny_mono h4 (fun _ s5 h5 => wpAny_pure (wpAny_pure ⟨rfl,h5⟩)) fun _ _ h' => h'.elim)) fun _ _ h' => h'.elim))
end
def cxC (X : Cx) (s : Shared) (H : Hp) (scope : Scope) (cl : List (Str × Addr)) (C : Addr) (N : List Str) (fp : List Addr) : Cx where
  prog := X.prog
  w := X.w
  K := X.K
  mg := X.mg
  base := X.base
  A := X.A
  N := N
  s₀ := s
  H₀ := H
  env := compEnvC scope cl C X.env
  outer := X.stack
  stack := X.stack
  ex := fp
  fn := fun x => scope.names.lookup x == some NameKind.cell
  calm := X.calm
  pn := []
  xe := fun _ _ => False
def seen (σ : St) (src : List (Option Nat)) : St := src.map fun o => match o with | some j => (σ[j]?).join | none => none
structure CompScope (X : Cx) (scope : Scope) (N : List Str) (src : List (Option Nat)) : Prop where
  kind : scope.kind = .function
  cells : ∀ y ∈ scope.names,y.2 = .cell → scope.names.lookup y.1 = some .cell
  own : ∀ y ∈ scope.names,y.2 = .local → scope.names.lookup y.1 = some .local
  has : ∀ x,(x,NameKind.free) ∈ scope.names → X.env.kindOf x = some .cell ∨ X.env.kindOf x = some .free
  len : src.length = N.length
  src : ∀ (i j : Nat) (x : Str),src[i]? = some (some j) → N[i]? = some x → X.N[j]? = some x ∧ (x,NameKind.free) ∈ scope.names ∧ scope.names.lookup x = some .free
theorem lookup_relabel_free {env : Env} : ∀ {names : List (Str × NameKind)} {x : Str},names.lookup x = some .free →
    (names.map fun (n,k) => if (k == NameKind.free && env.scope.kind == .function && env.kindOf n == some .cell) then (n,NameKind.cell) else (n,k)).lookup x = some .cell ∨
    (names.map fun (n,k) => if (k == NameKind.free && env.scope.kind == .function && env.kindOf n == some .cell) then (n,NameKind.cell) else (n,k)).lookup x = some .free
  | [],_,h => by simp at h
  | (n,k) :: r,x,h => by
    have ih := @lookup_relabel_free env r x
    show List.lookup x ((if (k == NameKind.free && env.scope.kind == .function && env.kindOf n == some .cell) = true then (n,NameKind.cell) else (n,k)) :: _) = _ ∨ List.lookup x ((if (k == NameKind.free && env.scope.kind == .function && env.kindOf n == some .cell) = true then (n,NameKind.cell) else (n,k)) :: _) = _
    cases hx : x == n with
    | true =>
      simp only [List.lookup_cons,hx] at h
      cases h
      by_cases hc : (NameKind.free == NameKind.free && env.scope.kind == .function && env.kindOf n == some .cell) = true
      · rw [if_pos hc]; left; simp only [List.lookup_cons,hx]
      · rw [if_neg hc]; right; simp only [List.lookup_cons,hx]
    | false =>
      simp only [List.lookup_cons,hx] at h
      by_cases hc : (k == NameKind.free && env.scope.kind == .function && env.kindOf n == some .cell) = true
      · rw [if_pos hc]; simp only [List.lookup_cons,hx]; exact ih h
      · rw [if_neg hc]; simp only [List.lookup_cons,hx]; exact ih h
theorem relabel_cell {env : Env} : ∀ {names : List (Str × NameKind)} {x : Str},
    ((names.map fun (n,k) => if (k == NameKind.free && env.scope.kind == .function && env.kindOf n == some .cell) then (n,NameKind.cell) else (n,k)).lookup x = some .cell ∨
    (names.map fun (n,k) => if (k == NameKind.free && env.scope.kind == .function && env.kindOf n == some .cell) then (n,NameKind.cell) else (n,k)).lookup x = some .free) → (x,NameKind.free) ∈ names ∨ (x,NameKind.cell) ∈ names
  | [],_,h => by simp at h
  | (n,k) :: r,x,h => by
    have ih := @relabel_cell env r x
    change List.lookup x ((if (k == NameKind.free && env.scope.kind == .function && env.kindOf n == some .cell) = true then (n,NameKind.cell) else (n,k)) :: _) = _ ∨ List.lookup x ((if (k == NameKind.free && env.scope.kind == .function && env.kindOf n == some .cell) = true then (n,NameKind.cell) else (n,k)) :: _) = _ at h
    cases hx : x == n with
    | true =>
      have e : x = n := by simpa using hx
      by_cases hc : (k == NameKind.free && env.scope.kind == .function && env.kindOf n == some .cell) = true
      · have hk : k = .free := by
          simp only [Bool.and_eq_true,beq_iff_eq] at hc
          exact hc.1.1
        rw [e,hk]; exact .inl (List.mem_cons_self ..)
      · rw [if_neg hc] at h
        simp only [List.lookup_cons,hx,Option.some.injEq] at h
        rcases h with h | h
        · rw [e,h]; exact .inr (List.mem_cons_self ..)
        · rw [e,h]; exact .inl (List.mem_cons_self ..)
    | false =>
      by_cases hc : (k == NameKind.free && env.scope.kind == .function && env.kindOf n == some .cell) = true
      · rw [if_pos hc] at h; simp only [List.lookup_cons,hx] at h; exact (ih h).imp (List.mem_cons_of_mem _) (List.mem_cons_of_mem _)
      · rw [if_neg hc] at h; simp only [List.lookup_cons,hx] at h; exact (ih h).imp (List.mem_cons_of_mem _) (List.mem_cons_of_mem _)
def Weak (σ σ2 : St) : Prop := σ2.length = σ.length ∧ ∀ (i : Nat) (v : V),σ[i]? = some (some v) → σ2[i]? = some (some v)
theorem Weak.refl (σ : St) : Weak σ σ := ⟨rfl,fun _ _ h => h⟩
theorem Weak.set {σ : St} {i : Nat} {o : Option V} (h : ∀ v,σ[i]? ≠ some (some v)) : Weak σ (σ.set i o) := ⟨by simp,fun j v e => by
  have : i ≠ j := fun z => h v (z ▸ e)
  rw [List.getElem?_set_ne this]
  exact e⟩
theorem Weak.trans {a b c : St} (h : Weak a b) (h' : Weak b c) : Weak a c := ⟨h'.1.trans h.1,fun i v e => h'.2 i v (h.2 i v e)⟩
def PIf (X : Cx) (ifs : List Expr) (t : TT) : Prop := ∀ (pins : List (Addr × Obj)) (s : Shared) (σ : St) (H : Hp) (Q : Bool → Hp → Prop),Inv X pins σ H s → t σ H Q →
  wpAny (model X.prog X.w) X.A (forIn ifs true fun c r => if r = true then do let ok ← isTrue c X.env (eval c X.env); pure (ForInStep.yield ok) else pure (ForInStep.yield r)) (TP X pins σ Q) X.xe s
def tYes : TT := fun _ H Q => Q true H
theorem pif_nil {X : Cx} : PIf X [] tYes := fun _ _ _ H _ I h => wpAny_tests_nil ⟨H,I,h⟩
theorem pif_one {X : Cx} {c : Expr} {t : TT} (h : PT X c t) : PIf X [c] t := fun pins s σ H Q I q => wpAny_tests_one (h pins s σ H Q I q)
def tComp (src : List (Option Nat)) (wi : TI) (g : TG) (tc : TT) (te : TE) : TE := fun σ H Q => wi σ H fun J H1 => ∃ W : Nat → Nat → List V → Hp → Prop,(∃ m,W 0 m [] H1) ∧ ∀ i m ys H2,W i m ys H2 →
  (J.stop i H2 ∧ ys.length ≤ sizeLine ∧ ∀ p,H2 p = none → Q (.ref p) (upd H2 p (.lst ys))) ∨
  (J.go i H2 ∧ ∀ x H3,J.yld i H2 x H3 → g x (seen σ src) H3 fun σ2 H4 => Weak (seen σ src) σ2 ∧ tc σ2 H4 fun b H5 =>
    if b = true then te σ2 H5 fun y H6 => ys.length < sizeLine ∧ ∃ m',m' < m ∧ W (i + 1) m' (ys ++ [y]) H6 else ∃ m',m' < m ∧ W (i + 1) m' ys H5)
theorem cellsFrom_app : ∀ (names : List (Str × NameKind)) (n : Nat) (acc : List (Str × Addr)),cellsFrom n names acc = cellsFrom n names [] ++ acc
  | [],_,acc => rfl
  | (x,k) :: r,n,acc => by
    unfold cellsFrom
    split
    · rw [cellsFrom_app r (n + 1) ((x,n) :: acc),cellsFrom_app r (n + 1) [(x,n)],List.append_assoc]
      rfl
    · exact cellsFrom_app r n acc
theorem cellsFrom_mem : ∀ (names : List (Str × NameKind)) (n : Nat) (acc : List (Str × Addr)) (x : Str) (c : Addr),(x,c) ∈ cellsFrom n names acc → (x,c) ∈ acc ∨ (x,NameKind.cell) ∈ names
  | [],_,_,_,_,h => .inl h
  | (y,k) :: r,n,acc,x,c,h => by
    unfold cellsFrom at h
    split at h
    · rename_i hk
      have hk' : k = .cell := by simpa using hk
      rcases cellsFrom_mem r _ _ x c h with z | z
      · rcases List.mem_cons.mp z with z | z
        · cases z
          exact .inr (hk' ▸ List.mem_cons_self ..)
        · exact .inl z
      · exact .inr (List.mem_cons_of_mem _ z)
    · rcases cellsFrom_mem r _ _ x c h with z | z
      · exact .inl z
      · exact .inr (List.mem_cons_of_mem _ z)
theorem new_around {M : Model} {A : Around} {E : Value → Shared → Prop} {s : Shared} {scope : Scope} {globals : Addr} {cl : List (Str × Addr)} {qual : Str} {env : Env} {Q : Env → Shared → Prop}
    (h : ∀ h',h'.Ns s.heap.objs.size (fun _ => none) → (∀ b o,s.heap.get? b = some o → h'.get? b = some o) → CellsOk h' (s.heap.objs.size + 1) (cellsFrom (s.heap.objs.size + 1) scope.names []) →
      Q { scope,locals := s.heap.objs.size,globals,cells := cellsFrom (s.heap.objs.size + 1) scope.names [] ++ cl,qual,func := none,code := env.code,frame := env.frame,builtins := env.builtins } { s with heap := h' }) :
    wpAny M A (newFunctionEnv scope globals cl [] qual none .none (some env)) Q E s := by
  simp only [newFunctionEnv,Option.isSome_some,if_true]
  refine wpAny_bind (wpAny_alloc ?_)
  refine wpAny_bind (wpAny_layCells _ (fun name kind cells => by cases hkc : kind == NameKind.cell <;> simp [hkc]) _ _ _ _ ?_)
  have ok := cellsFrom_ok scope.names (s.heap.push { cls := .type "dict",data := .dict #[] }) (s.heap.objs.size + 1) [] ⟨fun _ _ hm => (nomatch hm),List.Pairwise.nil⟩ (by rw [Heap.size_push]; exact Nat.le_refl _)
  rw [Heap.size_push] at ok
  rw [show ({ s with heap := s.heap.push { cls := .type "dict",data := .dict #[] } } : Shared).heap.objs.size = s.heap.objs.size + 1 from Heap.size_push ..,cellsFrom_app]
  rw [List.forIn_nil]
  exact wpAny_bind (wpAny_pure (wpAny_pure (h _ ((Heap.Ns.new s.heap (.type "dict")).keeps (pushCells_keeps _ _)) (fun b o e => pushCells_keeps _ _ b o (Heap.get?_push_of_some _ e)) ok)))
theorem comp_core {X : Cx} {elt tg iter : Expr} {ifs : List Expr} {scope : Scope} {pos pos2 : Pos} {N : List Str} {src : List (Option Nat)} {wi : TI} {g : TG} {tc : TT} {te : TE} {use : Option (Value → Sem Unit)} {Post : Value → Shared → Prop} {pins : List (Addr × Obj)} {s : Shared} {σ : St} {H : Hp} {Q : VK}
    (hc : X.calm = true) (S : CompScope X scope N src) (hi : PI X tg iter wi)
    (hg : ∀ s H cl C fp,PG (cxC X s H scope cl C N fp) tg g) (hf : ∀ s H cl C fp,PIf (cxC X s H scope cl C N fp) ifs tc) (he : ∀ s H cl C fp,PE (cxC X s H scope cl C N fp) elt te)
    (hs : ∀ x,foldedSetIterable iter X.env x = pure x) (I : Inv X pins σ H s) (h : tComp src wi g tc te σ H Q)
    (fin : ∀ (C a : Addr) (H1 : Hp) (s' : Shared),(∀ h',Heap.SameBut C s'.heap h' → Inv X pins σ H1 { s' with heap := h' }) → FpOk X pins H1 C → (∃ m,s'.heap.Ns C m) → Q (.ref a) H1 → compPost (model X.prog X.w) X.A X.xe use Post (.ref a) C (.ok .next) s') :
    wpAny (model X.prog X.w) X.A (comprehension (.ListComp elt [⟨tg,iter,ifs,0⟩] scope pos) scope X.env pos2 (newList []) false (eval iter X.env) use) Post X.xe s := by
  obtain ⟨cl,hcl,cl1,cl2⟩ := closure_of (scope := scope) (env := X.env) (fun x hx => I.ok.has x (S.has x hx))
  refine wpAny_comprehension_free (use := use) rfl hs hcl S.kind S.own (thn (hi pins s σ H _ I h) fun v s1 h1 => thn h1 fun itv s2 h2 => ?_)
  obtain ⟨it,fp,tn,J,H2,rfl,I2,T,st2,f2,W,⟨m0,w0⟩,turn⟩ := h2
  refine wpAny_newObj_type (new_around fun h3 hns hsb cok => ?_)
  dsimp only at hns hsb cok ⊢
  generalize hHd : s2.heap.push { cls := .type "list",dict := none,data := .seq ([] : List Value).toArray } = Hd at hns hsb cok ⊢
  have hCs : Hd.objs.size = s2.heap.objs.size + 1 := by rw [← hHd,Heap.size_push]
  have hDC : s2.heap.objs.size ≠ Hd.objs.size := by rw [hCs]; exact Nat.ne_of_lt (Nat.lt_succ_self _)
  have below : ∀ b,b < s2.heap.objs.size → b ≠ Hd.objs.size ∧ b ≠ s2.heap.objs.size := fun b hb => ⟨by rw [hCs]; exact Nat.ne_of_lt (Nat.lt_succ_of_lt hb),Nat.ne_of_lt hb⟩
  have old : ∀ b o,s2.heap.get? b = some o → h3.get? b = some o := fun b o e => hsb b o (hHd ▸ Heap.get?_push_of_some _ e)
  have hacc : h3.get? s2.heap.objs.size = some { cls := .type "list",dict := none,data := .seq ([] : List Value).toArray } := hsb _ _ (hHd ▸ Heap.get?_push_size _ rfl)
  have fpObj := T.obj 0 _ st2
  have fpLt : ∀ b ∈ fp,b < s2.heap.objs.size := fun b hb => by
    obtain ⟨o,e,_⟩ := fpObj b hb
    exact Heap.lt_size e
  generalize hown : cellsFrom (Hd.objs.size + 1) scope.names [] = own at cok ⊢
  have ownC : ∀ x c,(x,c) ∈ own → scope.names.lookup x = some .cell := fun x c hm => by
    rw [← hown] at hm
    rcases cellsFrom_mem _ _ _ _ _ hm with z | z
    · exact nomatch z
    · exact S.cells _ z rfl
  have two : ∀ x c,(own ++ cl).lookup x = some c → (cl.lookup x = some c ∧ c < s2.heap.objs.size) ∨ ((x,c) ∈ own ∧ h3.IsCell c none ∧ Hd.objs.size < c) := fun x c e => by
    rw [List.lookup_append] at e
    cases ho : own.lookup x with
    | none =>
      rw [ho,Option.none_or] at e
      obtain ⟨v,q⟩ := I2.cell x c (cl1 x c e)
      exact .inl ⟨e,q.lt⟩
    | some c' =>
      rw [ho,Option.some_or] at e
      cases e
      have hm := mem_of_lookup ho
      exact .inr ⟨hm,(cok.empty x c hm).1,(cok.empty x c hm).2⟩
  have cellNe : ∀ x c,(own ++ cl).lookup x = some c → c ≠ s2.heap.objs.size ∧ ∀ b ∈ fp,c ≠ b := fun x c e => by
    rcases two x c e with ⟨e,lt⟩ | ⟨_,_,lt⟩
    · exact ⟨Nat.ne_of_lt lt,fun b hb => (f2 b hb).2.2.2.2.1 x c (cl1 x c e)⟩
    · rw [hCs] at lt
      exact ⟨Nat.ne_of_gt (Nat.lt_trans (Nat.lt_succ_self _) lt),fun b hb => Nat.ne_of_gt (Nat.lt_trans (fpLt b hb) (Nat.lt_trans (Nat.lt_succ_self _) lt))⟩
  have fresh : ∀ a,s2.heap.objs.size ≤ a → s2.heap.get? a = none := fun a ha => by
    cases e : s2.heap.get? a with
    | none => rfl
    | some o' => exact absurd (Heap.lt_size e) (Nat.not_lt.mpr ha)
  -- the context
  have okY : (cxC X s2 H2 scope (own ++ cl) Hd.objs.size N fp).Ok := by
    refine ⟨I2.ok.mod,S.kind,I2.ok.glob,I2.ok.blt,?_,?_,?_,?_,fun hcc => I2.ok.hd hcc,I2.ok.frames,.inl rfl,fun b hb => ⟨(below b (fpLt b hb)).1,fun x c e => (cellNe x c e).2 b hb⟩,
      I2.bs,Nat.le_trans I2.ok.bsz I2.sz,fun b o e hb => ?_,fun b hb z => (List.mem_cons.mp (I2.stkSub b z)).elim (f2 b hb).2.1 (f2 b hb).2.2.1,I2.stack,I2.stkFree⟩
    · show s2.heap.objs.size ≤ Hd.objs.size
      rw [hCs]; exact Nat.le_succ _
    · intro x y c e1 e2
      rcases two x c e1 with ⟨e1,l1⟩ | ⟨m1,_,l1⟩ <;> rcases two y c e2 with ⟨e2,l2⟩ | ⟨m2,_,l2⟩
      · exact I2.ok.inj x y c (cl1 x c e1) (cl1 y c e2)
      · rw [hCs] at l2; exact absurd (Nat.lt_trans l1 (Nat.lt_trans (Nat.lt_succ_self _) l2)) (Nat.lt_irrefl _)
      · rw [hCs] at l1; exact absurd (Nat.lt_trans l2 (Nat.lt_trans (Nat.lt_succ_self _) l1)) (Nat.lt_irrefl _)
      · exact name_of_addr cok.apart m1 m2
    · intro x hx
      show ∃ c,(own ++ cl).lookup x = some c
      rw [List.lookup_append]
      cases ho : own.lookup x with
      | some c => exact ⟨c,rfl⟩
      | none =>
        rw [Option.none_or]
        rcases relabel_cell hx with z | z
        · exact cl2 x z
        · have := PySem.W.cellsFrom_some scope.names (Hd.objs.size + 1) [] (.inl (S.cells _ z rfl))
          rw [hown,ho] at this
          cases this
    · intro x c hf e
      have hf' : scope.names.lookup x = some .cell := by simpa [cxC] using hf
      have := PySem.W.cellsFrom_some scope.names (Hd.objs.size + 1) [] (.inl hf')
      rw [hown] at this
      obtain ⟨c',ho⟩ := Option.isSome_iff_exists.mp this
      have e' : (own ++ cl).lookup x = some c := e
      rw [List.lookup_append,ho,Option.some_or] at e'
      cases e'
      have := (cok.empty x c (mem_of_lookup ho)).2
      show s2.heap.objs.size ≤ c
      rw [hCs] at this
      omega
    · rcases (f2 b hb).2.2.2.1 with z | z
      · exact I2.ok.noex b o e z
      · exact absurd (Nat.lt_of_lt_of_le (Heap.lt_size e) (Nat.le_trans I2.ok.bsz z)) (Nat.lt_irrefl _)
  have IY : Inv (cxC X s2 H2 scope (own ++ cl) Hd.objs.size N fp) [] (seen σ src) H2 { s2 with heap := h3 } := by
    refine ⟨okY,rfl,I2.bare,Un.kept old,⟨_,hns,fun i x v e1 e2 _ => ?_⟩,fun x c e => ?_,I2.hok.fresh (by show s2.heap.objs.size ≤ Hd.objs.size; rw [hCs]; exact Nat.le_succ _),?_,fun p hp => (nomatch hp),I2.hok.kept old,?_⟩
    · unfold seen at e2
      rw [List.getElem?_map] at e2
      cases hsr : src[i]? with
      | none => rw [hsr] at e2; cases e2
      | some oj =>
        rw [hsr] at e2
        cases oj with
        | none => cases e2
        | some j =>
          obtain ⟨hN,hfr,hlk⟩ := S.src i j x hsr e1
          have e3 : σ[j]? = some (some v) := by
            have : (σ[j]?).join = some v := Option.some.inj e2
            cases hj : σ[j]? with
            | none => rw [hj] at this; cases this
            | some o => rw [hj] at this; cases this; rfl
          have hk := S.has x hfr
          have vis : Vis X.env.scope x := by
            rcases hk with z | z
            · exact .inr (.inl z)
            · exact .inr (.inr z)
          obtain ⟨m,hnm,hl⟩ := I2.loc
          obtain ⟨u,r,l⟩ := hl j x v hN e3 vis
          refine ⟨u,r,.inr ⟨lookup_relabel_free hlk,?_⟩⟩
          rcases l with ⟨l1,_⟩ | ⟨_,c,ec,ic⟩
          · rcases hk with z | z <;> (rw [l1] at z; cases z)
          · obtain ⟨c',ec'⟩ := cl2 x hfr
            have := cl1 x c' ec'
            rw [ec] at this
            cases this
            obtain ⟨o,ho,hd⟩ := ic
            have hno : own.lookup x = none := by
              cases ho : own.lookup x with
              | none => rfl
              | some c2 =>
                have := ownC x c2 (mem_of_lookup ho)
                rw [hlk] at this
                cases this
            exact ⟨c,by show (own ++ cl).lookup x = some c; rw [List.lookup_append,hno,Option.none_or]; exact ec',o,old _ _ ho,hd⟩
    · rcases two x c e with ⟨e,_⟩ | ⟨_,q,_⟩
      · obtain ⟨v,o,ho,hd⟩ := I2.cell x c (cl1 x c e)
        exact ⟨v,o,old _ _ ho,hd⟩
      · exact ⟨none,q⟩
    · intro x c e
      rcases two x c e with ⟨e,_⟩ | ⟨_,_,lt⟩
      · exact I2.freeC x c (cl1 x c e)
      · exact I2.hok.fresh (by rw [hCs] at lt; omega)
    · show (seen σ src).length = N.length
      unfold seen
      rw [List.length_map,S.len]
  have dFs : s2.heap.objs.size ∉ frs X.stack := fun z => by
    obtain ⟨_,o,ho,_⟩ := I2.stack.mem z
    exact absurd (Heap.lt_size ho) (Nat.lt_irrefl _)
  have cFs : Hd.objs.size ∉ frs X.stack := fun z => by
    obtain ⟨_,o,ho,_⟩ := I2.stack.mem z
    have z2 := Heap.lt_size ho
    rw [hCs] at z2
    exact absurd z2 (Nat.not_lt.mpr (Nat.le_succ _))
  have stat : ∀ {H' : Hp} {pn : List (Addr × Obj)},(∀ b ∈ fp,H' b = none) → (∀ p ∈ pn,p.1 = s2.heap.objs.size) → ∀ b ∈ fp,FpOk (cxC X s2 H2 scope (own ++ cl) Hd.objs.size N fp) pn H' b := fun hn hp b hb =>
    ⟨hn b hb,(below b (fpLt b hb)).1,okY.exfs b hb,.inl hb,fun x c e => (cellNe x c e).2 b hb,fun p q z => (below b (fpLt b hb)).2 (z ▸ hp p q)⟩
  have loop : ∀ sA : Shared,sA = { s2 with heap := h3 } →
      codeAny (model X.prog X.w) X.A (.compLoop (.ListComp elt [⟨tg,iter,ifs,0⟩] scope pos) 0 (.ref it) (.ref s2.heap.objs.size) (compEnvC scope (own ++ cl) Hd.objs.size X.env))
        (compPost (model X.prog X.w) X.A X.xe use Post (.ref s2.heap.objs.size) Hd.objs.size) sA := by
    rintro sA rfl
    refine compLoop_any (fun n s' => ∃ (i : Nat) (ys : List V) (its : List Value) (k : Nat) (σ3 : St) (H3 : Hp),Inv (cxC X s2 H2 scope (own ++ cl) Hd.objs.size N fp) [] σ3 H3 s' ∧ Weak (seen σ src) σ3 ∧ tn i s'.heap ∧ (∀ b ∈ fp,H3 b = none) ∧ W i n ys H3 ∧
        s'.heap.get? s2.heap.objs.size = some { cls := .type "list",data := .seq its.toArray k } ∧ Vals ys its ∧ H3 s2.heap.objs.size = none) ?_ m0
      ⟨0,[],[],0,_,H2,IY,Weak.refl _,T.keep 0 _ _ st2 (fun b hb o e => old b o e),fun b hb => (f2 b hb).1,w0,hacc,.nil,I2.fresh⟩
    rintro n s3 ⟨i,ys,its,k,σ3,H3,I3,wk,st3,fr3,w3,hD,rv,nD⟩
    have I4 : Inv (cxC X s2 H2 scope (own ++ cl) Hd.objs.size N fp) [] (seen σ src) H3 s3 := I3.weak wk.1.symm wk.2
    have I5 : Inv (cxC X s2 H2 scope (own ++ cl) Hd.objs.size N fp) [(s2.heap.objs.size,{ cls := .type "list",data := .seq its.toArray k })] (seen σ src) H3 s3 := I4.pins_of fun p hp => by
      cases List.mem_singleton.mp hp
      exact ⟨hD,nD,hDC,dFs,fun v z => nomatch z⟩
    have one : ∀ p ∈ [((s2.heap.objs.size,{ cls := .type "list",data := .seq its.toArray k }) : Addr × Obj)],p.1 = s2.heap.objs.size := fun p hp => by
      cases List.mem_singleton.mp hp
      rfl
    rcases turn i n ys H3 w3 with ⟨stop,hlen,q⟩ | ⟨go,step⟩
    · refine thn (T.done (cxC X s2 H2 scope (own ++ cl) Hd.objs.size N fp) rfl rfl rfl hc i _ s3 _ H3 _ I5 (stat fr3 one) st3 stop) fun r s4 ⟨hr,I6⟩ => ?_
      subst hr
      have hD4 := (I6.pin _ (List.mem_append_right _ (List.mem_singleton.mpr rfl))).1
      obtain ⟨m,hn4,_⟩ := I6.loc
      refine fin Hd.objs.size s2.heap.objs.size (upd H3 s2.heap.objs.size (.lst ys)) s4 (fun h' hsb' => ?_) (I2.fpOk (by rw [hCs]; exact Nat.le_succ _) (by rw [upd_ne (Ne.symm hDC)]; exact I6.free)) ⟨m,hn4⟩ (q _ nD)
      have kp : ∀ b o,b ≠ Hd.objs.size → s4.heap.get? b = some o → h'.get? b = some o := fun b o hb e => (hsb'.2 b hb).trans e
      have neC : ∀ b o,s2.heap.get? b = some o → b ≠ Hd.objs.size := fun b o e => (below b (Heap.lt_size e)).1
      have un : Un (frs X.stack) fp H2 H3 s2.heap h' := by
        have u0 : Un (frs X.stack) fp H2 H3 s2.heap s4.heap := I6.base
        refine ⟨fun b o e n' hb hx => kp b o (neC b o e) (u0.keep b o e n' hb hx),fun b o e n' hb hx => ?_,u0.free,fun b o e hx => ?_,u0.tups,u0.frzs,u0.tbls⟩
        · obtain ⟨sl,e1⟩ := u0.slot b o e n' hb hx
          exact ⟨sl,kp b _ (neC b o e) e1⟩
        · obtain ⟨o',e1⟩ := u0.there b o e hx
          exact ⟨o',kp b o' (neC b o e) e1⟩
      have nC : H3 Hd.objs.size = none := I6.free
      have hok : HOk X.prog X.w H3 h' := fun a o e => (I6.hok a o e).stay (fun b u hb q' => kp b u (fun z => by
        rcases hb with rfl | hb
        · rw [z,nC] at e; cases e
        · rw [z,nC] at hb; cases hb) q') (fun _ q' => q') fun _ _ q' => q'
      have I7 : Inv X pins σ H3 { s4 with heap := h' } := I2.call' (s' := { s4 with heap := h' }) I6.os un hok I6.bare (fun b hb => ⟨(f2 b hb).2.2.2.1,(f2 b hb).2.1,(f2 b hb).2.2.2.2.1,(f2 b hb).2.2.2.2.2⟩)
      have e0 : X.s₀.heap.get? s2.heap.objs.size = none := by
        cases e : X.s₀.heap.get? s2.heap.objs.size with
        | none => rfl
        | some o => exact absurd (Nat.lt_of_lt_of_le (Heap.lt_size e) I2.sz) (Nat.lt_irrefl _)
      have I8 : Inv X pins σ (upd H3 s2.heap.objs.size (.lst ys)) { s4 with heap := h' } := I7.track nD e0 (fun z => Nat.lt_irrefl _ (z ▸ I2.lt)) (fun x c e z => by
        obtain ⟨v,q'⟩ := I2.cell x c e
        exact Nat.lt_irrefl _ (z ▸ q'.lt)) (fun p hp z => Nat.lt_irrefl _ (z ▸ Heap.lt_size (I2.pin p hp).1)) ⟨hlen,its,k,rv,kp _ _ hDC hD4⟩
      exact I8
    · refine thn (T.item (cxC X s2 H2 scope (own ++ cl) Hd.objs.size N fp) rfl rfl rfl hc i _ s3 _ H3 _ I5 (stat fr3 one) st3 go) fun r s4 ⟨u,hr,h4⟩ => ?_
      subst hr
      refine thn h4 fun _ s5 ⟨x,H5,I6,r5,y5,st5,fr5⟩ => ?_
      have I6' := I6.pinned (stat fr5 one) (T.obj _ _ st5)
      refine thn (hg _ _ _ _ _ _ s5 _ H5 x u _ I6' r5 (step x H5 y5)) fun _ s6 ⟨σ6,H6,I7,wk6,q6⟩ => ?_
      refine thn (hf _ _ _ _ _ _ s6 σ6 H6 _ I7 q6) fun ok s7 ⟨H7,I8,q7⟩ => ?_
      have back : ∀ {σ' : St} {H' : Hp} {s' : Shared},Inv (cxC X s2 H2 scope (own ++ cl) Hd.objs.size N fp) ([(s2.heap.objs.size,{ cls := .type "list",data := .seq its.toArray k })] ++ pinsAt fp s5.heap) σ' H' s' →
          tn (i + 1) s'.heap ∧ (∀ b ∈ fp,H' b = none) ∧ s'.heap.get? s2.heap.objs.size = some { cls := .type "list",data := .seq its.toArray k } ∧ H' s2.heap.objs.size = none := fun {σ' H' s'} J => by
        have jD := J.pin (s2.heap.objs.size,{ cls := .type "list",data := .seq its.toArray k }) (by simp)
        refine ⟨T.keep _ _ _ st5 fun b hb o e => (J.pin (b,o) (List.mem_append_right _ (List.mem_append_right _ (mem_pinsAt hb e)))).1,fun b hb => ?_,jD.1,jD.2.1⟩
        obtain ⟨o,e,d⟩ := T.obj _ _ st5 b hb
        exact (J.pin (b,o) (List.mem_append_right _ (List.mem_append_right _ (mem_pinsAt hb e)))).2.1
      cases ok with
      | false =>
        rw [if_neg Bool.false_ne_true] at q7
        rw [if_neg Bool.false_ne_true]
        obtain ⟨m',hm,w'⟩ := q7
        obtain ⟨b1,b2,b3,b4⟩ := back I8
        exact ⟨m',hm,i + 1,ys,its,k,σ6,H7,I8.nopins,wk6,b1,b2,w',b3,rv,b4⟩
      | true =>
        rw [if_pos rfl] at q7
        rw [if_pos rfl]
        refine thn (he _ _ _ _ _ _ s7 σ6 H7 _ I8 q7) fun u2 s8 ⟨y,H8,I9,r9,hlt,m',hm,w'⟩ => ?_
        obtain ⟨b1,b2,b3,b4⟩ := back I9
        have hl := rv.length
        refine call_meets F.slot_list_append ⟨_,b3,rfl⟩ F.entry_list_append (F.args_list_append_2 _ _) (PySem.list_append s2.heap.objs.size its.toArray k u2 (by rw [List.size_toArray]; omega)) ⟨b3,?_⟩
        have qu := PySem.IsL.update b3 (·.push u2)
        rw [show its.toArray.push u2 = (its ++ [u2]).toArray by simp] at qu
        refine ⟨m',hm,i + 1,ys ++ [y],its ++ [u2],_,σ6,H8,?_,wk6,?_,b2,w',qu,rv.append (.cons r9 .nil),b4⟩
        · exact I9.nopins.turned (it := s2.heap.objs.size) (fun b o hb e => (Heap.get?_update_other s8.heap (Obj.mapSeq _) (Ne.symm hb)).trans e) b4 hDC (.inr (Nat.le_refl _)) (fun x c e z => (cellNe x c e).1 z) (fun p hp => nomatch hp)
        · exact T.keep _ _ _ b1 fun b hb o e => (Heap.get?_update_other s8.heap (Obj.mapSeq _) ((below b (fpLt b hb)).2.symm)).trans e
  exact codeAny_compStart_list (loop _ rfl) (T.self _ 0 _ _ _ (T.keep 0 _ _ st2 (fun b hb o e => old b o e)) (loop _ rfl))
theorem pe_comp {X : Cx} {elt tg iter : Expr} {ifs : List Expr} {scope : Scope} {pos : Pos} {N : List Str} {src : List (Option Nat)} {wi : TI} {g : TG} {tc : TT} {te : TE} (hc : X.calm = true) (S : CompScope X scope N src) (hi : PI X tg iter wi)
    (hg : ∀ s H cl C fp,PG (cxC X s H scope cl C N fp) tg g) (hf : ∀ s H cl C fp,PIf (cxC X s H scope cl C N fp) ifs tc) (he : ∀ s H cl C fp,PE (cxC X s H scope cl C N fp) elt te)
    (hs : ∀ x,foldedSetIterable iter X.env x = pure x := by intro _; rfl) : PE X (.ListComp elt [⟨tg,iter,ifs,0⟩] scope pos) (tComp src wi g tc te) := by
  intro pins s σ H Q I h
  rw [eval_ListComp]
  refine comp_core (use := none) hc S hi hg hf he hs I h fun C a H1 s' key _ ⟨m,hn⟩ q => ⟨m,hn,fun h' sb => ⟨.ref a,H1,key h' sb,rfl,q⟩⟩
theorem ps_setComp {X : Cx} {elt tg iter : Expr} {ifs : List Expr} {scope : Scope} {pos spos pos' : Pos} {x : Str} {i : Nat} {N : List Str} {src : List (Option Nat)} {wi : TI} {g : TG} {tc : TT} {te : TE} (hc : X.calm = true) (S : CompScope X scope N src) (hi : PI X tg iter wi)
    (hg : ∀ s H cl C fp,PG (cxC X s H scope cl C N fp) tg g) (hf : ∀ s H cl C fp,PIf (cxC X s H scope cl C N fp) ifs tc) (he : ∀ s H cl C fp,PE (cxC X s H scope cl C N fp) elt te) (ht : PG X (.Name x pos') (gName i))
    (hsw : swapsWith (.ListComp elt [⟨tg,iter,ifs,0⟩] scope pos) (some (.Name x pos')) spos.line X.env = pure true := by rfl)
    (hs : ∀ x,foldedSetIterable iter X.env x = pure x := by intro _; rfl) : PS X (.Assign [.Name x pos'] (.ListComp elt [⟨tg,iter,ifs,0⟩] scope pos) spos) (tAsg (tComp src wi g tc te) (gName i)) := by
  intro pins s σ H D I h
  rw [exec_Assign_Name_used _ _ _ _ hsw]
  refine wpAny_bind (wpAny_standAt (wpAny_bind ?_))
  rw [arm_evalThenUse_ListComp]
  refine wpAny_bind ?_
  refine comp_core (use := some (assign (.Name x pos') X.env)) hc S hi hg hf he hs I h fun C a H1 s' key fp ⟨m,o,es,ep,ho,hd,hk⟩ q => ?_
  have I1 : Inv X pins σ H1 s' := key s'.heap (Heap.SameBut.refl _ _)
  have I2 := I1.pinned (fp := [C]) (fun b hb => by rw [List.mem_singleton.mp hb]; exact fp) (fun b hb => by rw [List.mem_singleton.mp hb]; exact ⟨o,ho,fun v z => by rw [hd] at z; cases z⟩)
  refine thn (ht _ s' σ H1 (.ref a) (.ref a) _ I2 rfl q) fun _ s5 ⟨σ5,H5,I5,q5⟩ => ?_
  have pC := I5.pin (C,o) (List.mem_append_right _ (List.mem_append_right _ (mem_pinsAt (List.mem_singleton.mpr rfl) ho)))
  obtain ⟨f0,f1,f2,f3,f4,f5⟩ := fp
  refine ⟨m,⟨o,es,ep,pC.1,hd,hk⟩,fun h' sb => ?_⟩
  exact wpAny_pure (wpAny_pure ⟨σ5,H5,I5.unpinned.turned (it := C) (t' := s5.toks) (fun b o' hb e => (sb.2 b hb).trans e) pC.2.1 f1 f3 f4 f5,q5⟩)
def compOkB (osc sc : Scope) (oN N : List Str) (src : List (Option Nat)) : Bool :=
  sc.names.all (fun y => decide (y.2 ≠ .cell) || decide (sc.names.lookup y.1 = some .cell)) && sc.names.all (fun y => decide (y.2 ≠ .local) || decide (sc.names.lookup y.1 = some .local)) &&
  sc.names.all (fun y => decide (y.2 ≠ .free) || decide (osc.names.lookup y.1 = some .cell) || decide (osc.names.lookup y.1 = some .free)) && decide (src.length = N.length) &&
  (List.range src.length).all (fun i => match src[i]?,N[i]? with | some (some j),some x => decide (oN[j]? = some x) && decide ((x,NameKind.free) ∈ sc.names) && decide (sc.names.lookup x = some .free) | _,_ => true)
theorem comp_scope {X : Cx} {scope : Scope} {N : List Str} {src : List (Option Nat)} (osc : Scope) (oN : List Str) (e1 : X.env.scope = osc) (e2 : X.N = oN) (c : compOkB osc scope oN N src = true) (k : scope.kind = .function) : CompScope X scope N src := by
  unfold compOkB at c
  simp only [Bool.and_eq_true,List.all_eq_true,decide_eq_true_eq,Bool.or_eq_true] at c
  obtain ⟨⟨⟨⟨c1,c2⟩,c3⟩,c4⟩,c5⟩ := c
  refine ⟨k,fun y hy e => (c1 y hy).resolve_left fun z => z e,fun y hy e => ?_,fun x hx => ?_,c4,fun i j x h1 h2 => ?_⟩
  · rcases c2 y hy with z | z
    · exact absurd e z
    · exact z
  · show X.env.scope.names.lookup x = _ ∨ X.env.scope.names.lookup x = _
    rw [e1]
    rcases c3 (x,.free) hx with (z | z) | z
    · exact absurd rfl z
    · exact .inl z
    · exact .inr z
  · have hi : i < src.length := (List.getElem?_eq_some_iff.mp h1).1
    have z := c5 i (List.mem_range.mpr hi)
    rw [h1,h2] at z
    simp only [Bool.and_eq_true,decide_eq_true_eq] at z
    rw [e2]
    exact ⟨z.1.1,z.1.2,z.2⟩
end L2
namespace L2
open PySem PySem.Spec PyProof.Rows
mutual
def IsD (K : PySem.W.Frag) (H : Hp) : PyData → V → Prop
  | .none,v => v = .non
  | .bool b,v => v = .bl b
  | .int i,v => v = .int i
  | .str x,v => v = .str x
  | .list ds,v => ∃ a xs,v = .ref a ∧ SqL K H a xs ∧ IsDs K H ds xs
  | .tuple ds,v => ∃ a xs,v = .ref a ∧ SqT K H a xs ∧ IsDs K H ds xs
  | .dict _,_ => False
def IsDs (K : PySem.W.Frag) (H : Hp) : List PyData → List V → Prop
  | [],xs => xs = []
  | d :: ds,xs => ∃ x r,xs = x :: r ∧ IsD K H d x ∧ IsDs K H ds r
end
theorem isTup_reads {h : Heap} {a : Addr} {its : Array Value} (t : IsTup h a its) : ∃ o n,h.get? a = some o ∧ o.cls = .type "tuple" ∧ o.data = .seq its n := by
  obtain ⟨o,ho,hc,n,hd⟩ := t
  exact ⟨o,n,ho,hc,hd⟩
section
variable {X : Cx} {pins : List (Addr × Obj)} {σ : St} {H : Hp} {s : Shared}
mutual
theorem IsD.reads (I : Inv X pins σ H s) : ∀ (d : PyData) {v : V} {u : Value},IsD X.K H d v → RelV v u → ∃ as,Reads s.heap u d as
  | .none,v,u,h,r => by
    simp only [IsD] at h; subst h
    cases (show u = .none from r); exact ⟨_,.none⟩
  | .bool b,v,u,h,r => by
    simp only [IsD] at h; subst h
    cases (show u = .bool b from r); exact ⟨_,.bool b⟩
  | .int i,v,u,h,r => by
    simp only [IsD] at h; subst h
    obtain ⟨t,rfl⟩ := r; exact ⟨_,.int i t⟩
  | .str x,v,u,h,r => by
    simp only [IsD] at h; subst h
    obtain ⟨t,rfl⟩ := r; exact ⟨_,.str x t⟩
  | .list ds,v,u,h,r => by
    simp only [IsD] at h
    obtain ⟨a,xs,rfl,hs,hd⟩ := h
    cases (show u = .ref a from r)
    obtain ⟨its,rv,p,_⟩ := I.list hs
    obtain ⟨o,ho,hc,n,hdd⟩ := p.isList
    obtain ⟨as,ra⟩ := IsDs.reads I ds hd rv
    exact ⟨_,.list ho hc hdd (by simpa using ra)⟩
  | .tuple ds,v,u,h,r => by
    simp only [IsD] at h
    obtain ⟨a,xs,rfl,hs,hd⟩ := h
    cases (show u = .ref a from r)
    obtain ⟨its,rv,p,_⟩ := I.tuple hs
    obtain ⟨o,n,ho,hc,hdd⟩ := isTup_reads p
    obtain ⟨as,ra⟩ := IsDs.reads I ds hd rv
    exact ⟨_,.tuple ho hc hdd (by simpa using ra)⟩
  | .dict _,v,u,h,r => by
    simp only [IsD] at h
theorem IsDs.reads (I : Inv X pins σ H s) : ∀ (ds : List PyData) {vs : List V} {us : List Value},IsDs X.K H ds vs → Vals vs us → ∃ as,ReadsAll s.heap us ds as
  | [],vs,us,h,r => by
    simp only [IsDs] at h; subst h
    cases r; exact ⟨_,.nil⟩
  | d :: ds,vs,us,h,r => by
    simp only [IsDs] at h
    obtain ⟨x,rr,rfl,hx,hr⟩ := h
    cases r with
    | cons r1 r2 =>
      obtain ⟨as,ra⟩ := IsD.reads I d hx r1
      obtain ⟨bs,rb⟩ := IsDs.reads I ds hr r2
      exact ⟨_,.cons ra rb⟩
end
end
mutual
theorem IsD.imp {K : PySem.W.Frag} {H H' : Hp} (sl : ∀ a xs,SqL K H a xs → SqL K H' a xs) (st : ∀ a xs,SqT K H a xs → SqT K H' a xs) : ∀ (d : PyData) {v : V},IsD K H d v → IsD K H' d v
  | .none,v,h => by simp only [IsD] at h ⊢; exact h
  | .bool b,v,h => by simp only [IsD] at h ⊢; exact h
  | .int i,v,h => by simp only [IsD] at h ⊢; exact h
  | .str x,v,h => by simp only [IsD] at h ⊢; exact h
  | .list ds,v,h => by
    simp only [IsD] at h ⊢
    obtain ⟨a,xs,e,hs,hd⟩ := h
    exact ⟨a,xs,e,sl a xs hs,IsDs.imp sl st ds hd⟩
  | .tuple ds,v,h => by
    simp only [IsD] at h ⊢
    obtain ⟨a,xs,e,hs,hd⟩ := h
    exact ⟨a,xs,e,st a xs hs,IsDs.imp sl st ds hd⟩
  | .dict _,v,h => by simp only [IsD] at h
theorem IsDs.imp {K : PySem.W.Frag} {H H' : Hp} (sl : ∀ a xs,SqL K H a xs → SqL K H' a xs) (st : ∀ a xs,SqT K H a xs → SqT K H' a xs) : ∀ (ds : List PyData) {vs : List V},IsDs K H ds vs → IsDs K H' ds vs
  | [],vs,h => by simp only [IsDs] at h ⊢; exact h
  | d :: ds,vs,h => by
    simp only [IsDs] at h ⊢
    obtain ⟨x,r,e,hx,hr⟩ := h
    exact ⟨x,r,e,IsD.imp sl st d hx,IsDs.imp sl st ds hr⟩
end
def rEqD (K : PySem.W.Frag) (neg : Bool) : R2 := fun x y H Q => ∃ da db,IsD K H da x ∧ IsD K H db y ∧ PySem.SeqAt.shaped da = true ∧ PySem.SeqAt.shaped db = true ∧ Q (.bl (if neg then !PyData.eqv da db else PyData.eqv da db)) H
theorem op_eqD {X : Cx} (hu : X.A.units + 64 < cLine) : OpR X (compareOp .Eq) (rEqD X.K false) := by
  intro pins s σ H x y v u Q I rx ry h
  obtain ⟨da,db,ha,hb,sa,sb,q⟩ := h
  obtain ⟨as,ra⟩ := IsD.reads I da ha rx
  obtain ⟨bs,rb⟩ := IsD.reads I db hb ry
  exact PySem.SeqAt.compareEq_shaped ra rb sa sb hu ⟨.bl _,H,I,rfl,q⟩
theorem op_neD {X : Cx} (hu : X.A.units + 64 < cLine) : OpR X (compareOp .NotEq) (rEqD X.K true) := by
  intro pins s σ H x y v u Q I rx ry h
  obtain ⟨da,db,ha,hb,sa,sb,q⟩ := h
  obtain ⟨as,ra⟩ := IsD.reads I da ha rx
  obtain ⟨bs,rb⟩ := IsD.reads I db hb ry
  exact PySem.SeqAt.compareNe_shaped ra rb sa sb hu ⟨.bl _,H,I,rfl,q⟩
theorem bools_of : ∀ {bs : List Bool} {us : List Value},Vals (bs.map V.bl) us → LSm.BoolsAre us bs
  | [],_,.nil => .nil
  | b :: bs,_,.cons h t => by
    cases (show _ = Value.bool b from h)
    exact .cons b (bools_of t)
theorem call_all {X : Cx} (hc : X.calm = true) : CallR X (.builtin "all") (fun xs H Q => ∃ (a : Addr) (bs : List Bool),xs = [.ref a] ∧ SqL X.K H a (bs.map V.bl) ∧ Q (.bl (bs.all id)) H) := by
  intro pins s σ H xs us Q I r h
  obtain ⟨a,bs,rfl,hS,q⟩ := h
  obtain ⟨u,rfl,ru⟩ := r.one
  cases (show u = Value.ref a from ru)
  obtain ⟨its,rv,p,_⟩ := I.list hS
  have hl := p.isList
  have hb := bools_of rv
  have hlt : a < s.heap.objs.size := by obtain ⟨_,e,_⟩ := hl; exact Heap.lt_size e
  refine call_all_walk (wpAny_pyIter_list hl ?_)
  refine ⟨s.heap.objs.size,[s.heap.objs.size,a],[s.heap.objs.size],its.toArray.size,_,_,fun i => (bs[i]?).getD true,rfl,Walks.list (A := X.A.in1) (I.ok.hd hc) _ a (Nat.ne_of_lt hlt) its.toArray,
    ⟨⟨_,Heap.get?_push_size _ rfl,rfl,rfl⟩,hl.push _⟩,fun i v s' Q' E' hP hQ => ?_,fun h' tk hk => ?_⟩
  · obtain ⟨b,e,rfl⟩ := hb.get i v (by simpa using hP)
    simp only [e,Option.getD_some] at hQ
    exact wpAny_truthy_bool hQ
  · have e : ((List.range its.toArray.size).all fun i => (bs[i]?).getD true) = bs.all id := by
      rw [List.size_toArray,hb.length]; exact LSm.range_all bs
    rw [e]
    exact ⟨.bl _,H,I.kept (LSm.kept_iter hk),rfl,q⟩
def Pm (P : Program) (w : World) (K : PySem.W.Frag) (mg : Str → Option Value) (base : Heap) (CX : CXT) (k : Nat) (x : Str) (ps : List Str) (sp : Sp) : Prop :=
  ∃ (f : Addr) (fd : FuncData),mg x = some (.ref f) ∧ PySem.W.keepIn K (.ref f) = true ∧ Binds K fd ps [] ∧ FnOk P w K mg base CX k f fd ps sp
theorem pe_callP {X : Cx} {CX : CXT} {k : Nat} {x : Str} {ps : List Str} {sp : Sp} {E : XK} {p pos : Pos} {e : Expr} {es : List Expr} {t : TA} (h : Pm X.prog X.w X.K X.mg X.base CX k x ps sp) (hr : Room k X.A) (hg : Gl X x) (hx : Passes CX X E) (ha : PA X (e :: es) t)
    (hdb : (x == ("__debug__" : Str)) = false := by decide) (he : starEach (e :: es) X.env = (false,eval e X.env) :: starEach es X.env := by rfl) (hpl : (backTo pos (starEach es X.env)).any (·.1) = false := by rfl) :
    PE X (.Call (.Name x p) (e :: es) [] pos) (tCall sp [] E t) := by
  obtain ⟨f,fd,hm,hk,hb,F⟩ := h
  exact pe_call F hr hg hm hk hb .nil hx ha hdb he hpl
end L2
namespace L2
open PySem PySem.Spec PyProof.Rows
set_option autoImplicit true
set_option relaxedAutoImplicit true
structure QE (X : Cx) (e : Expr) (t : TE) : Prop where
  h : PE X e t
structure QT (X : Cx) (e : Expr) (t : TT) : Prop where
  h : PT X e t
structure QW (X : Cx) (e : Expr) (t : TT) : Prop where
  h : PW X e t
structure QA (X : Cx) (e : List Expr) (t : TA) : Prop where
  h : PA X e t
structure QS (X : Cx) (e : Stmt) (t : TS) : Prop where
  h : PS X e t
structure QSs (X : Cx) (e : List Stmt) (t : TS) : Prop where
  h : PSs X e t
structure QGs (X : Cx) (e : List Expr) (t : TGs) : Prop where
  h : PGs X e t
structure QG (X : Cx) (e : Expr) (t : TG) : Prop where
  h : PG X e t
structure QF (X : Cx) (e : List Expr) (t : TF) : Prop where
  h : PF X e t
structure QIf (X : Cx) (e : List Expr) (t : TT) : Prop where
  h : PIf X e t
structure QO (X : Cx) (e : Option Expr) (t : TO) : Prop where
  h : PO X e t
structure QI (X : Cx) (tg iter : Expr) (t : TI) : Prop where
  h : PI X tg iter t
theorem QW.pt {X : Cx} {e : Expr} {t : TT} (k : QW X e t) : QT X e t := ⟨k.h.pt⟩
theorem QSs.nox {X : Cx} {e : List Stmt} {t : TS} (k : QSs X.nox e t) : QSs X e t := ⟨k.h.nox⟩
theorem qe_int {i j pos} : QE X (.Constant (.int i) j pos) (tC (.int i)) := ⟨pe_int ⟩
theorem qe_bl {b j pos} : QE X (.Constant (.bool b) j pos) (tC (.bl b)) := ⟨pe_bl ⟩
theorem qe_non {j pos} : QE X (.Constant .none j pos) (tC .non) := ⟨pe_non ⟩
theorem qe_str {x j pos} : QE X (.Constant (.str x) j pos) (tC (.str x)) := ⟨pe_str ⟩
theorem qe_glob {x : Str} {v : V} {u : Value} {pos : Pos} (hg : Gl X x) (hm : X.mg x = some u) (r : RelV v u) (hd : (x == ("__debug__" : Str)) = false := by decide) : QE X (.Name x pos) (tC v) := ⟨pe_glob (hg) (hm) (r) (hd)⟩
theorem qe_bltn {x : Str} {v : V} {u : Value} {pos : Pos} (hg : Gl X x) (hm : X.mg x = none) (hv : bootBuiltins x = some u) (r : RelV v u) (hn : x ≠ "__name__" := by decide) (hd : (x == ("__debug__" : Str)) = false := by decide) : QE X (.Name x pos) (tC v) := ⟨pe_bltn (hg) (hm) (hv) (r) (hn) (hd)⟩
theorem qt_cmp {op : CmpOp} {t : TE} (h : PC X op a b t) (h1 : behindInMarks op b = false := by first | exact nobehind _ (by decide) (by decide) | rfl) : QT X (.Compare a [op] [b] pos) (tB t) := ⟨pt_cmp (h) (h1)⟩
theorem qt_val {e : Expr} {t : TE} (h : QE X e t) (he : ∀ whole,isTrue e X.env whole = (do let v ← whole; standAt e.pos; holding [v] (truthy v)) := by intro _; rfl) : QT X e (tB t) := ⟨pt_val h.h (he)⟩
theorem qw_and1 (ha : QT X a tA) : QW X (.BoolOp .And [a] pos) tA := ⟨pw_and1 ha.h⟩
theorem qw_or1 (ha : QT X a tA) : QW X (.BoolOp .Or [a] pos) tA := ⟨pw_or1 ha.h⟩
theorem qw_and (ha : QT X a tA) (hb : QW X (.BoolOp .And (b :: restq) pos) tB') : QW X (.BoolOp .And (a :: b :: restq) pos) (tAnd tA tB') := ⟨pw_and ha.h hb.h⟩
theorem qw_or (ha : QT X a tA) (hb : QW X (.BoolOp .Or (b :: restq) pos) tB') : QW X (.BoolOp .Or (a :: b :: restq) pos) (tOr tA tB') := ⟨pw_or ha.h hb.h⟩
theorem qt_not (ha : QT X a tA) : QT X (.UnaryOp .Not a pos) (tNot tA) := ⟨pt_not ha.h⟩
theorem qe_one {op} {t : TE} (h : QE X a t) : QE X (.BoolOp op [a] pos) t := ⟨pe_one h.h⟩
theorem qe_and (ha : QE X a ta) (hb : QE X (.BoolOp .And (b :: restq) pos) tb) : QE X (.BoolOp .And (a :: b :: restq) pos) (tAndV ta tb) := ⟨pe_and ha.h hb.h⟩
theorem qe_not (ha : QE X a ta) : QE X (.UnaryOp .Not a pos) (tNotV ta) := ⟨pe_not ha.h⟩
theorem qss_nil  : QSs X [] tNext := ⟨pss_nil ⟩
theorem qss_cons (h1 : QS X stq t) (h2 : QSs X restq u) : QSs X (stq :: restq) (tSeq t u) := ⟨pss_cons h1.h h2.h⟩
theorem qss_one (h1 : QS X stq t) : QSs X [stq] t := ⟨pss_one h1.h⟩
theorem qs_expr (he : QE X e te) (hs : swapsWith e none pos.line X.env = pure false := by rfl) : QS X (.Expr e pos) (tDrop te) := ⟨ps_expr he.h (hs)⟩
theorem qs_ret (he : QE X e te) : QS X (.Return (some e) pos) (tRet te) := ⟨ps_ret he.h⟩
theorem qs_if {c : Expr} {a b : List Stmt} {tc : TT} (hc : QT X c tc) (ha : QSs X a t) (hb : QSs X b u) : QS X (.If c a b pos) (tIfS tc t u) := ⟨ps_if hc.h ha.h hb.h⟩
theorem qg_name {i : Nat} {x : Str} (hN : X.N.Nodup) (hiq : X.N[i]? = some x) (hx : Loc X.env.scope x) (hf : X.fn x = true ∨ X.env.scope.names.lookup x = some .local := by first | exact .inl rfl | exact .inr rfl | assumption) : QG X (.Name x pos) (gName i) := ⟨pg_name (hN) (hiq) (hx) (hf)⟩
theorem qgs_nil  : QGs X [] gNil := ⟨pgs_nil ⟩
theorem qgs_cons {e : Expr} {es : List Expr} {t : TG} {u : TGs} (h1 : QG X e t) (h2 : QGs X es u) (hs : (assignEach (e :: es) X.env).map (·.2) = assign e X.env :: (assignEach es X.env).map (·.2) := by rfl) : QGs X (e :: es) (gCons t u) := ⟨pgs_cons h1.h h2.h (hs)⟩
theorem qg_tup {es : List Expr} {k : Nat} {t : TGs} {n : Nat} (hc : X.calm = true) (h : QGs X es t) (hn : (assignEach es X.env).length = n := by rfl) (hst : (assignEach es X.env).findIdx? (·.1) = none := by rfl) : QG X (.Tuple es k pos) (gTup X.K n t) := ⟨pg_tup (hc) h.h (hn) (hst)⟩
theorem qg_sub {o i : Expr} {to ti : TE} {t : TSet} (ho : QE X o to) (hiq : QE X i ti) (hs : PSet X t) (ha : ∀ v,assign (.Subscript o i pos) X.env v = (do
      let ov ← holding [v] (eval o X.env)
      let iv ← holding [v,ov] (eval i X.env)
      standAt pos
      holding [v,ov,iv] (setItem ov iv v)
      release [v,ov,iv] []) := by intro _; rfl) : QG X (.Subscript o i pos) (gSub to ti t) := ⟨pg_sub ho.h hiq.h (hs) (ha)⟩
theorem qs_asg {tg e : Expr} {te : TE} {g : TG} (he : QE X e te) (hg : QG X tg g) (hs : swapsWithSole [tg] e pos.line X.env = pure false := by rfl) (hw : swappedStores [tg] e X.env = pure none := by rfl) (h1 : (assignEach [tg] X.env).map (·.2) = [assign tg X.env] := by rfl) : QS X (.Assign [tg] e pos) (tAsg te g) := ⟨ps_asg he.h hg.h (hs) (hw) (h1)⟩
theorem qs_set {i : Nat} {x : Str} {e : Expr} {te : TE} {pos' : Pos} (hN : X.N.Nodup) (hiq : X.N[i]? = some x) (hx : Loc X.env.scope x) (he : QE X e te) (hs : swapsWith e (some (.Name x pos')) pos.line X.env = pure false := by rfl) (hf : X.fn x = true ∨ X.env.scope.names.lookup x = some .local := by first | exact .inl rfl | exact .inr rfl | assumption) : QS X (.Assign [.Name x pos'] e pos) (tAsg te (gName i)) := ⟨ps_set (hN) (hiq) (hx) he.h (hs) (hf)⟩
theorem qs_aug {i : Nat} {x : Str} {e : Expr} {te : TE} {op : Operator} {ti : TIp} {pos' : Pos} (hN : X.N.Nodup) (hiq : X.N[i]? = some x) (hx : Loc X.env.scope x) (he : QE X e te) (ho : PIp X op ti) (hf : X.fn x = true ∨ X.env.scope.names.lookup x = some .local := by first | exact .inl rfl | exact .inr rfl | assumption) : QS X (.AugAssign (.Name x pos') op e pos) (tAug i te ti) := ⟨ps_aug (hN) (hiq) (hx) he.h (ho) (hf)⟩
theorem qs_augS {o i e : Expr} {to ti te : TE} {tget : V → V → Hp → VK → Prop} {tip : TIp} {tset : TSet} {op : Operator} {tpos : Pos} (ho : QE X o to) (hiq : QE X i ti) (hg : PGet X tget) (he : QE X e te) (hp : PIp X op tip) (hs : PSet X tset) (ha : ∀ ov iv new,augStore i ov iv new = (do holding [new,ov,iv] (setItem ov iv new); release [new,ov,iv] []; pure .next) := by intros; rfl) : QS X (.AugAssign (.Subscript o i tpos) op e pos) (tAugS to ti te tget tip tset) := ⟨ps_augS ho.h hiq.h (hg) he.h (hp) (hs) (ha)⟩
theorem qs_while {c : Expr} {body : List Stmt} {tc : TT} {tb : TS} (hp : PassesOwn (model X.prog X.w) X.A X.env X.xe) (hc : QT X c tc) (hb : QSs X body tb) : QS X (.While c body [] pos) (tWhile tc tb) := ⟨ps_while (hp) hc.h hb.h⟩
theorem qi_list {l : Expr} {tl : TE} (hl : QE X l tl) : QI X tg l (iList X.K tl) := ⟨pi_list hl.h⟩
theorem qi_tup {l : Expr} {tl : TE} (hl : QE X l tl) : QI X tg l (iTup X.K tl) := ⟨pi_tup hl.h⟩
theorem qi_range1 {a : Expr} {ta : TA} {p pos : Pos} (hg : Gl X "range") (hm : X.mg "range" = none) (ha : QA X [a] ta) (hs : starEach [a] X.env = [(false,eval a X.env)] := by rfl) : QI X tg (.Call (.Name "range" p) [a] [] pos) (iRng1 ta) := ⟨pi_range1 (hg) (hm) ha.h (hs)⟩
theorem qi_range2 {a b : Expr} {ta : TA} {p pos : Pos} (hg : Gl X "range") (hm : X.mg "range" = none) (ha : QA X [a,b] ta) (hs : starEach [a,b] X.env = [(false,eval a X.env),(false,eval b X.env)] := by rfl) (hs2 : starEach [b] X.env = [(false,eval b X.env)] := by rfl) : QI X tg (.Call (.Name "range" p) [a,b] [] pos) (iRng2 ta) := ⟨pi_range2 (hg) (hm) ha.h (hs) (hs2)⟩
theorem qs_for {iter : Expr} {body : List Stmt} {wi : TI} {g : TG} {tb : TS} {pos : Pos} (hp : PassesOwn (model X.prog X.w) X.A X.env X.xe) (hc : X.calm = true) (hiq : QI X tg iter wi) (hg : QG X tg g) (hb : QSs X body tb) (hs : ∀ x,foldedSetIterable iter X.env x = pure x := by intro _; rfl) : QS X (.For tg iter body [] pos) (tFor wi g tb) := ⟨ps_for (hp) (hc) hiq.h hg.h hb.h (hs)⟩
theorem qe_op {op : Operator} {r : R2} (ho : OpR X (binaryOp op) r) (ha : QE X a ta) (hb : QE X b tb) : QE X (.BinOp a op b pos) (tOp r ta tb) := ⟨pe_op (ho) ha.h hb.h⟩
theorem qe_un {op : UnaryOp} {r : V → Hp → VK → Prop} (ho : UnR X (unaryOp op) r) (ha : QE X a ta) : QE X (.UnaryOp op a pos) (tUn r ta) := ⟨pe_un (ho) ha.h⟩
theorem qe_cmpR {op : CmpOp} {r : R2} (ho : OpR X (compareOp op) r) (ha : QE X a ta) (hb : QE X b tb) (hm : behindInMarks op b = false) : QE X (.Compare a [op] [b] pos) (tOp r ta tb) := ⟨pe_cmpR (ho) ha.h hb.h (hm)⟩
theorem qt_cmpR {op : CmpOp} {r : R2} (ho : OpR X (compareOp op) r) (ha : QE X a ta) (hb : QE X b tb) (hm : behindInMarks op b = false) : QT X (.Compare a [op] [b] pos) (tTest (tOp r ta tb)) := ⟨pt_cmpR (ho) ha.h hb.h (hm)⟩
theorem qe_chain {op op' : CmpOp} {r r' : R2} (ho : OpR X (compareOp op) r) (ho' : OpR X (compareOp op') r') (ha : QE X a ta) (hb : QE X b tb) (hc : QE X c tc) (hm : lastMarks [op,op'] [b,c] = false := by with_unfolding_all rfl) : QE X (.Compare a [op,op'] [b,c] pos) (tChain r r' ta tb tc) := ⟨pe_chain (ho) (ho') ha.h hb.h hc.h (hm)⟩
theorem qe_fld (he : QE X e ta) (hb : attributeBase e f X.env (eval e X.env) = eval e X.env) : QE X (.Attribute e f pos) (tFld X.K ta f) := ⟨pe_fld he.h (hb)⟩
theorem qs_fld (ha : QE X o ta) (hv : QE X value tv) (hs : swapsWith value (some (.Attribute o f pos')) pos.line X.env = pure false) : QS X (.Assign [.Attribute o f pos'] value pos) (sFld X.K ta tv f) := ⟨ps_fld ha.h hv.h (hs)⟩
theorem qa_nil  : QA X [] tNil := ⟨pa_nil ⟩
theorem qe_tup {x1} (h : QA X es t) : QE X (.Tuple es x1 pos) (tTup t) := ⟨pe_tup h.h⟩
theorem qe_lst (h : QA X es t) : QE X (.List es pos) (tLst t) := ⟨pe_lst h.h⟩
theorem qe_call (F : FnOk X.prog X.w X.K X.mg X.base CX k f fd ps sp) (hr : Room k X.A) (hg : Gl X x) (hm : X.mg x = some (.ref f)) (hk : PySem.W.keepIn X.K (.ref f) = true) (hb : Binds X.K fd ps ds) (hd : Vals dvs ds) (hx : Passes CX X E) (ha : QA X (e :: es) t) (hdb : (x == ("__debug__" : Str)) = false := by decide) (he : starEach (e :: es) X.env = (false,eval e X.env) :: starEach es X.env := by rfl) (hpl : (backTo pos (starEach es X.env)).any (·.1) = false := by rfl) : QE X (.Call (.Name x p) (e :: es) [] pos) (tCall sp dvs E t) := ⟨pe_call (F) (hr) (hg) (hm) (hk) (hb) (hd) (hx) ha.h (hdb) (he) (hpl)⟩
theorem qe_callB (hc : CallR X (.builtin idq) r) (hg : Gl X x) (hm : X.mg x = none) (hv : bootBuiltins x = some (.builtin idq)) (ha : QA X (e :: es) t) (hn : x ≠ "__name__" := by decide) (hdb : (x == ("__debug__" : Str)) = false := by decide) (he : starEach (e :: es) X.env = (false,eval e X.env) :: starEach es X.env := by rfl) (hpl : (backTo pos (starEach es X.env)).any (·.1) = false := by rfl) : QE X (.Call (.Name x p) (e :: es) [] pos) (tCB r t) := ⟨pe_callB (hc) (hg) (hm) (hv) ha.h (hn) (hdb) (he) (hpl)⟩
theorem qe_callTy (hc : CallR X (.type T) r) (hg : Gl X x) (hm : X.mg x = none) (hv : bootBuiltins x = some (.type T)) (ha : QA X (e :: es) t) (hn : x ≠ "__name__" := by decide) (hdb : (x == ("__debug__" : Str)) = false := by decide) (he : starEach (e :: es) X.env = (false,eval e X.env) :: starEach es X.env := by rfl) (hpl : (backTo pos (starEach es X.env)).any (·.1) = false := by rfl) : QE X (.Call (.Name x p) (e :: es) [] pos) (tCB r t) := ⟨pe_callTy (hc) (hg) (hm) (hv) ha.h (hn) (hdb) (he) (hpl)⟩
theorem qo_none  : QO X none tNoPart := ⟨po_none ⟩
theorem qo_some (h : QE X e te) : QO X (some e) (tPart te) := ⟨po_some h.h⟩
theorem qe_slice {r : V → Option Int → Option Int → Hp → VK → Prop} (hr : SlR X r) (he : QE X e te) (hl : QO X loq tl) (hu : QO X hiq th) : QE X (.Subscript e (.Slice loq hiq none p2) pos) (tSl r te tl th) := ⟨pe_slice (hr) he.h hl.h hu.h⟩
theorem qe_ix {r : R2} (hr : IxR X r) (ha : QE X a ta) (hb : QE X b tb) (hs : PlainIx b) : QE X (.Subscript a b pos) (tOp r ta tb) := ⟨pe_ix (hr) ha.h hb.h (hs)⟩
theorem qe_bm0 (pa : PlainAttrs T) (slot : Slot T nameq idq) (hty : typeOf (.builtin idq) = pure (.type "method_descriptor")) (hm : MtR X idq r) (ho : QE X o to) (hbase : attributeBase o nameq X.env (eval o X.env) = eval o X.env := by rfl) (hline : (apos.endLine == cpos.line) = true := by rfl) : QE X (.Call (.Attribute o nameq apos) [] [] cpos) (tBM0 X.K T r to) := ⟨pe_bm0 (pa) (slot) (hty) (hm) ho.h (hbase) (hline)⟩
theorem qe_bm (pa : PlainAttrs T) (slot : Slot T nameq idq) (hty : typeOf (.builtin idq) = pure (.type "method_descriptor")) (hm : MtR X idq r) (ho : QE X o to) (ha : QA X (e :: es) t) (hbase : attributeBase o nameq X.env (eval o X.env) = eval o X.env := by rfl) (hfew : ((backTo cpos (starEach (e :: es) X.env)).all (fun x => !x.1) && (backToKw cpos (keywordEach [] X.env)).all (fun x => x.1.isSome)
      && decide ((e :: es).length + ([] : List Keyword).length + (if ([] : List Keyword).isEmpty then 0 else 1) < 30)) = true := by rfl) (hline : (apos.endLine == cpos.line) = true := by rfl) (hs : starEach (e :: es) X.env = (false,eval e X.env) :: starEach es X.env := by rfl) (hplain : (backTo cpos (starEach es X.env)).any (·.1) = false := by rfl) : QE X (.Call (.Attribute o nameq apos) (e :: es) [] cpos) (tBM X.K T r to t) := ⟨pe_bm (pa) (slot) (hty) (hm) ho.h ha.h (hbase) (hfew) (hline) (hs) (hplain)⟩
theorem qv (i : Nat) {x : Str} {pos : Pos} (hN : X.N[i]? = some x := by rfl) (hv : Vis X.env.scope x := by first | exact Or.inl rfl | exact Or.inr (Or.inl rfl) | exact Or.inr (Or.inr rfl)) (hd : (x == ("__debug__" : Str)) = false := by decide) (hcd : (x == ("__classdict__" : Str)) = false := by decide) : QE X (.Name x pos) (tVar i) := ⟨pv (i) (hN) (hv) (hd) (hcd)⟩
theorem qf_nil {X : Cx} : QF X [] (fun out _ H Q => Q out H) := ⟨pf_nil ⟩
theorem qf_cons {X : Cx} {e : Expr} {es : List Expr} {te : TE} {tr : TF} (he : QE X e te) (hr : QF X es tr) : QF X (e :: es) (fun out σ H Q => te σ H fun v H1 => ∃ y,v = .str y ∧ (out ++ y).length ≤ sizeLine ∧ tr (out ++ y) σ H1 Q) := ⟨pf_cons he.h hr.h⟩
theorem qe_fstr {X : Cx} {e1 e2 : Expr} {es : List Expr} {pos : Pos} {t : TF} (h : QF X (e1 :: e2 :: es) t) : QE X (.JoinedStr (e1 :: e2 :: es) pos) (fun σ H Q => t Str.empty σ H fun z H1 => z.length ≤ sizeLine ∧ Q (.str z) H1) := ⟨pe_fstr h.h⟩
theorem qif_nil {X : Cx} : QIf X [] tYes := ⟨pif_nil ⟩
theorem qif_one {X : Cx} {c : Expr} {t : TT} (h : QT X c t) : QIf X [c] t := ⟨pif_one h.h⟩
theorem qe_callP {X : Cx} {CX : CXT} {k : Nat} {x : Str} {ps : List Str} {sp : Sp} {E : XK} {p pos : Pos} {e : Expr} {es : List Expr} {t : TA} (h : Pm X.prog X.w X.K X.mg X.base CX k x ps sp) (hr : Room k X.A) (hg : Gl X x) (hx : Passes CX X E) (ha : QA X (e :: es) t) (hdb : (x == ("__debug__" : Str)) = false := by decide) (he : starEach (e :: es) X.env = (false,eval e X.env) :: starEach es X.env := by rfl) (hpl : (backTo pos (starEach es X.env)).any (·.1) = false := by rfl) : QE X (.Call (.Name x p) (e :: es) [] pos) (tCall sp [] E t) := ⟨pe_callP (h) (hr) (hg) (hx) ha.h (hdb) (he) (hpl)⟩
def notStar : Expr → Bool
  | .Starred .. => false
  | _ => true
theorem starEach_cons {e : Expr} {es : List Expr} {env : Env} (h : notStar e = true) : starEach (e :: es) env = (false,eval e env) :: starEach es env := by
  cases e <;> first | rfl | cases h
theorem qac {X : Cx} {e : Expr} {es : List Expr} {te : TE} {t : TA} (ha : QE X e te) (hr : QA X es t) (hs : notStar e = true := by rfl) : QA X (e :: es) (tCons te t) := ⟨pa_cons ha.h hr.h (starEach_cons hs)⟩
theorem qe_comp {X : Cx} {elt tg iter : Expr} {ifs : List Expr} {scope : Scope} {pos : Pos} {N : List Str} {src : List (Option Nat)} {wi : TI} {g : TG} {tc : TT} {te : TE} (hc : X.calm = true) (S : CompScope X scope N src) (hi : QI X tg iter wi)
    (hg : ∀ s H cl C fp,QG (cxC X s H scope cl C N fp) tg g) (hf : ∀ s H cl C fp,QIf (cxC X s H scope cl C N fp) ifs tc) (he : ∀ s H cl C fp,QE (cxC X s H scope cl C N fp) elt te)
    (hs : ∀ x,foldedSetIterable iter X.env x = pure x := by intro _; rfl) : QE X (.ListComp elt [⟨tg,iter,ifs,0⟩] scope pos) (tComp src wi g tc te) :=
  ⟨pe_comp hc S hi.h (fun s H cl C fp => (hg s H cl C fp).h) (fun s H cl C fp => (hf s H cl C fp).h) (fun s H cl C fp => (he s H cl C fp).h) hs⟩
theorem qs_setComp {X : Cx} {elt tg iter : Expr} {ifs : List Expr} {scope : Scope} {pos spos pos' : Pos} {x : Str} {i : Nat} {N : List Str} {src : List (Option Nat)} {wi : TI} {g : TG} {tc : TT} {te : TE} (hc : X.calm = true) (S : CompScope X scope N src) (hi : QI X tg iter wi)
    (hg : ∀ s H cl C fp,QG (cxC X s H scope cl C N fp) tg g) (hf : ∀ s H cl C fp,QIf (cxC X s H scope cl C N fp) ifs tc) (he : ∀ s H cl C fp,QE (cxC X s H scope cl C N fp) elt te) (ht : QG X (.Name x pos') (gName i))
    (hsw : swapsWith (.ListComp elt [⟨tg,iter,ifs,0⟩] scope pos) (some (.Name x pos')) spos.line X.env = pure true := by rfl)
    (hs : ∀ x,foldedSetIterable iter X.env x = pure x := by intro _; rfl) : QS X (.Assign [.Name x pos'] (.ListComp elt [⟨tg,iter,ifs,0⟩] scope pos) spos) (tAsg (tComp src wi g tc te) (gName i)) :=
  ⟨ps_setComp hc S hi.h (fun s H cl C fp => (hg s H cl C fp).h) (fun s H cl C fp => (hf s H cl C fp).h) (fun s H cl C fp => (he s H cl C fp).h) ht.h hsw hs⟩
theorem qss_never {X : Cx} {sts : List Stmt} : QSs X sts tNever := ⟨pss_never⟩
section
variable {P : Program} {w : World} {K : PySem.W.Frag} {mg : Str → Option Value} {base : Heap} {x qual : Str} {st : Stmt} {f : Addr} {fd : FuncData} {N ps : List Str} {k : Nat} {sp : Sp}
theorem Fun.okQ (F : Fun K x qual st f fd) (S : FnScope N ps (defScope st)) (len : ∀ vs H Q E,sp vs H Q E → vs.length = ps.length)
    (hbody : ∀ (cdv : Value) (A : Around) (outer : List Env) (s : Shared) (H : Hp) (vs : List V) (Q : VK) (E : XK),Room k (A.deeper (envOfC qual (defScope st) s.heap.objs.size f cdv)) → sp vs H Q E →
      ∃ t,QSs (cxOf CX0 P w K mg base N qual (defScope st) f cdv A outer s H E).nox (defBody st) t ∧ t { nx := fun _ H' => Q .non H',rt := Q } (start N vs) H) : FnOk P w K mg base CX0 (k + 1) f fd ps sp :=
  F.ok S len fun cdv A outer s H vs Q E hr h => let ⟨t,a,b⟩ := hbody cdv A outer s H vs Q E hr h; ⟨t,a.h,b⟩
end

end L2
namespace L2
open PySem PySem.Spec PyProof.Rows
section
variable {X : Cx} {tg : Expr}
end
theorem comp_rng {lo : Int} {n : Nat} {g : TG} {tc : TT} {te : TE} {σ' : St} {H : Hp} {G : Addr → Hp → List V → Prop} (Pv : Nat → List V → Hp → Prop) (h0 : Pv 0 [] H)
    (hs : ∀ i ys H (N : List V → Hp → Prop),i < n → Pv i ys H → (∀ ys' H',Pv (i + 1) ys' H' → N ys' H') → g (.int (lo + i)) σ' H fun σ2 H4 => Weak σ' σ2 ∧ tc σ2 H4 fun b H5 => if b = true then te σ2 H5 fun y H6 => ys.length < sizeLine ∧ N (ys ++ [y]) H6 else N ys H5)
    (hd : ∀ ys H,Pv n ys H → ys.length ≤ sizeLine ∧ ∀ p,H p = none → G p H ys) :
    ∃ W : Nat → Nat → List V → Hp → Prop,(∃ m,W 0 m [] H) ∧ ∀ i m ys H2,W i m ys H2 →
      ((Itr lo n).stop i H2 ∧ ys.length ≤ sizeLine ∧ ∀ p,H2 p = none → G p H2 ys) ∨
      ((Itr lo n).go i H2 ∧ ∀ x H3,(Itr lo n).yld i H2 x H3 → g x σ' H3 fun σ2 H4 => Weak σ' σ2 ∧ tc σ2 H4 fun b H5 =>
        if b = true then te σ2 H5 fun y H6 => ys.length < sizeLine ∧ ∃ m',m' < m ∧ W (i + 1) m' (ys ++ [y]) H6 else ∃ m',m' < m ∧ W (i + 1) m' ys H5) := by
  refine ⟨fun i m ys H => m = n - i ∧ i ≤ n ∧ Pv i ys H,⟨n,rfl,Nat.zero_le _,h0⟩,?_⟩
  rintro i m ys H2 ⟨rfl,hi,p⟩
  by_cases hlt : i < n
  · refine .inr ⟨hlt,fun x H' y => ?_⟩
    obtain ⟨e,rfl⟩ := y
    subst e
    exact hs i ys _ (fun ys' H'' => ∃ m',m' < n - i ∧ m' = n - (i + 1) ∧ i + 1 ≤ n ∧ Pv (i + 1) ys' H'') hlt p (fun ys' H'' p' => ⟨_,by omega,rfl,hlt,p'⟩)
  · have e : i = n := by omega
    subst e
    exact .inl ⟨Nat.le_refl _,hd ys H2 p⟩
end L2
namespace EM
def IsPr (p : Nat) : Prop := 2 ≤ p ∧ ∀ d,d ∣ p → d = 1 ∨ d = p
theorem IsPr.dvd_pr {p q : Nat} (hp : IsPr p) (hq : IsPr q) (h : p ∣ q) : p = q := by
  rcases hq.2 p h with h | h
  · have := hp.1; omega
  · exact h
theorem pr_of_least {p n : Nat} (h2 : 2 ≤ p) (hd : p ∣ n) (hl : ∀ d,2 ≤ d → d < p → ¬ d ∣ n) (_ : 1 ≤ n) : IsPr p := by
  refine ⟨h2,fun d hdp => ?_⟩
  have hle := Nat.le_of_dvd (by omega) hdp
  rcases Nat.lt_or_ge d 2 with h | h
  · have : d ≠ 0 := fun z => by
      subst z
      have := Nat.eq_zero_of_zero_dvd hdp
      omega
    exact .inl (by omega)
  · rcases Nat.lt_or_ge d p with h' | h'
    · exact absurd (Nat.dvd_trans hdp hd) (hl d h h')
    · exact .inr (by omega)
theorem pr_of_end {p n : Nat} (hn : 2 ≤ n) (hl : ∀ d,2 ≤ d → d < p → ¬ d ∣ n) (hp : n < p * p) : IsPr n := by
  refine ⟨hn,fun d hd => ?_⟩
  have hle := Nat.le_of_dvd (by omega) hd
  obtain ⟨c,rfl⟩ := hd
  have d0 : d ≠ 0 := fun z => by subst z; simp at hn
  have c0 : c ≠ 0 := fun z => by subst z; simp at hn
  by_cases hd1 : d = 1
  · exact .inl hd1
  by_cases hc1 : c = 1
  · exact .inr (by rw [hc1,Nat.mul_one])
  exfalso
  have h1 : p ≤ d := Nat.le_of_not_lt fun z => hl d (by omega) z ⟨c,rfl⟩
  have h2 : p ≤ c := Nat.le_of_not_lt fun z => hl c (by omega) z ⟨d,Nat.mul_comm d c⟩
  have := Nat.mul_le_mul h1 h2
  omega
def prodL : List (Nat × Nat) → Nat
  | [] => 1
  | x :: r => x.1 ^ x.2 * prodL r
theorem prodL_append : ∀ (a b : List (Nat × Nat)),prodL (a ++ b) = prodL a * prodL b
  | [],b => by simp [prodL]
  | x :: r,b => by simp only [List.cons_append,prodL,prodL_append r b,Nat.mul_assoc]
structure Fac (n : Nat) (L : List (Nat × Nat)) : Prop where
  pr : ∀ x ∈ L,IsPr x.1 ∧ 1 ≤ x.2
  asc : L.Pairwise fun x y => x.1 < y.1
  prod : prodL L = n
structure FacTo (n p left : Nat) (L : List (Nat × Nat)) : Prop where
  pr : ∀ x ∈ L,IsPr x.1 ∧ 1 ≤ x.2 ∧ x.1 < p
  asc : L.Pairwise fun x y => x.1 < y.1
  prod : prodL L * left = n
  two : 2 ≤ p
  pos : 1 ≤ left
  no : ∀ d,2 ≤ d → d < p → ¬ d ∣ left
theorem FacTo.start {n : Nat} (h : 1 ≤ n) : FacTo n 2 n [] := ⟨nofun,.nil,by simp [prodL],by omega,h,fun d h1 h2 => by omega⟩
theorem asc_snoc {L : List (Nat × Nat)} {x : Nat × Nat} (h : L.Pairwise fun x y => x.1 < y.1) (hx : ∀ y ∈ L,y.1 < x.1) : (L ++ [x]).Pairwise fun x y => x.1 < y.1 :=
  List.pairwise_append.mpr ⟨h,List.pairwise_singleton _ _,fun a ha b hb => by rw [List.mem_singleton.mp hb]; exact hx a ha⟩
theorem FacTo.some {n p left left0 often : Nat} {L : List (Nat × Nat)} (F : FacTo n p left0 L) (e : left0 = left * p ^ often) (ho : 1 ≤ often) (hnd : ¬ p ∣ left) : FacTo n (p + 1) left (L ++ [(p,often)]) := by
  have hpos : 1 ≤ left := by
    rcases Nat.eq_zero_or_pos left with h | h
    · subst h; have := F.pos; simp at e; omega
    · exact h
  have hpd : p ∣ left0 := by
    rw [e]
    obtain ⟨k,rfl⟩ : ∃ k,often = k + 1 := ⟨often - 1,by omega⟩
    rw [Nat.pow_succ,← Nat.mul_assoc]
    exact Nat.dvd_mul_left _ _
  refine ⟨fun x hx => ?_,asc_snoc F.asc fun y hy => (F.pr y hy).2.2,?_,by have := F.two; omega,hpos,fun d h2 hlt hd => ?_⟩
  · rcases List.mem_append.mp hx with h | h
    · obtain ⟨a,b,c⟩ := F.pr x h
      exact ⟨a,b,by omega⟩
    · rw [List.mem_singleton.mp h]
      exact ⟨pr_of_least F.two hpd F.no F.pos,ho,by show p < p + 1; omega⟩
  · rw [prodL_append,← F.prod,e]
    show prodL L * (p ^ often * 1) * left = _
    rw [Nat.mul_one,Nat.mul_assoc,Nat.mul_comm (p ^ often) left]
  · rcases Nat.lt_or_ge d p with h | h
    · exact F.no d h2 h (e ▸ Nat.dvd_trans hd (Nat.dvd_mul_right _ _))
    · have : d = p := by omega
      subst this; exact hnd hd
theorem FacTo.none {n p left : Nat} {L : List (Nat × Nat)} (F : FacTo n p left L) (hnd : ¬ p ∣ left) : FacTo n (p + 1) left L :=
  ⟨fun x hx => let ⟨a,b,c⟩ := F.pr x hx; ⟨a,b,by omega⟩,F.asc,F.prod,by have := F.two; omega,F.pos,fun d h2 hlt hd => by
    rcases Nat.lt_or_ge d p with h | h
    · exact F.no d h2 h hd
    · have : d = p := by omega
      subst this; exact hnd hd⟩
theorem FacTo.last {n p left : Nat} {L : List (Nat × Nat)} (F : FacTo n p left L) (hp : left < p * p) (h1 : 1 < left) : Fac n (L ++ [(left,1)]) := by
  have hpl : p ≤ left := Nat.le_of_not_lt fun z => F.no left h1 z (Nat.dvd_refl _)
  refine ⟨fun x hx => ?_,asc_snoc F.asc fun y hy => Nat.lt_of_lt_of_le (F.pr y hy).2.2 hpl,?_⟩
  · rcases List.mem_append.mp hx with h | h
    · obtain ⟨a,b,_⟩ := F.pr x h
      exact ⟨a,b⟩
    · rw [List.mem_singleton.mp h]
      exact ⟨pr_of_end h1 F.no hp,Nat.le_refl 1⟩
  · rw [prodL_append,← F.prod]
    show prodL L * (left ^ 1 * 1) = _
    rw [Nat.pow_one,Nat.mul_one]
theorem FacTo.done {n p left : Nat} {L : List (Nat × Nat)} (F : FacTo n p left L) (h1 : ¬ 1 < left) : Fac n L := by
  refine ⟨fun x hx => let ⟨a,b,_⟩ := F.pr x hx; ⟨a,b⟩,F.asc,?_⟩
  have := F.pos
  have e : left = 1 := by omega
  rw [← F.prod,e,Nat.mul_one]
theorem prodL_pos : ∀ {L : List (Nat × Nat)},(∀ x ∈ L,IsPr x.1 ∧ 1 ≤ x.2) → 1 ≤ prodL L
  | [],_ => Nat.le_refl 1
  | x :: r,h => by
    have h1 := (h x (List.mem_cons_self ..)).1.1
    have h2 := prodL_pos fun y hy => h y (List.mem_cons_of_mem _ hy)
    exact Nat.mul_pos (Nat.pow_pos (by omega)) h2
theorem mem_dvd : ∀ {L : List (Nat × Nat)} {x : Nat × Nat},x ∈ L → x.1 ^ x.2 ∣ prodL L
  | y :: r,x,h => by
    rcases List.mem_cons.mp h with h | h
    · subst h; exact Nat.dvd_mul_right _ _
    · exact Nat.dvd_trans (mem_dvd h) (Nat.dvd_mul_left _ _)
theorem len_le : ∀ {L : List (Nat × Nat)},(∀ x ∈ L,IsPr x.1 ∧ 1 ≤ x.2) → 2 ^ L.length ≤ prodL L
  | [],_ => Nat.le_refl 1
  | x :: r,h => by
    have h1 := (h x (List.mem_cons_self ..)).1.1
    have h3 := (h x (List.mem_cons_self ..)).2
    have h2 := len_le fun y hy => h y (List.mem_cons_of_mem _ hy)
    have h4 := Nat.le_self_pow (n := x.2) (by omega) x.1
    rw [List.length_cons,Nat.pow_succ,Nat.mul_comm]
    exact Nat.mul_le_mul (Nat.le_trans h1 h4) h2
theorem FacTo.short {n p left : Nat} {L : List (Nat × Nat)} (F : FacTo n p left L) (hn : n < 2 ^ 60) : L.length < 60 := by
  have h1 := len_le fun x hx => let ⟨a,b,_⟩ := F.pr x hx; ⟨a,b⟩
  have h2 : prodL L ≤ n := F.prod ▸ Nat.le_mul_of_pos_right _ F.pos
  refine Nat.lt_of_not_le fun z => ?_
  have := Nat.pow_le_pow_right (n := 2) (by decide) z
  omega
theorem FacTo.le {n p left : Nat} {L : List (Nat × Nat)} (F : FacTo n p left L) : left ≤ n := by
  have h2 := prodL_pos fun x hx => let ⟨a,b,_⟩ := F.pr x hx; ⟨a,b⟩
  exact F.prod ▸ Nat.le_mul_of_pos_left _ h2
theorem root_lt {p n : Nat} (h : p * p ≤ n) (hn : n < 2 ^ 60) : p < 2 ^ 30 := by
  refine Nat.lt_of_not_le fun z => ?_
  have := Nat.mul_le_mul z z
  omega
theorem two_le_self {p n : Nat} (h2 : 2 ≤ p) (h : p * p ≤ n) : 2 * p ≤ n := Nat.le_trans (Nat.mul_le_mul_right p h2) h
theorem Fac.of_pr {p : Nat} {L : List (Nat × Nat)} (F : Fac p L) (hp : IsPr p) : L = [(p,1)] := by
  have h2 := hp.1
  match L,F with
  | [],F =>
    have e := F.prod
    simp only [prodL] at e
    omega
  | x :: r,F =>
    obtain ⟨q1,q2⟩ := F.pr x (List.mem_cons_self ..)
    have hd := mem_dvd (List.mem_cons_self (a := x) (l := r))
    rw [F.prod] at hd
    have hx : x.1 ∣ p := by
      obtain ⟨k,hk⟩ : ∃ k,x.2 = k + 1 := ⟨x.2 - 1,by omega⟩
      rw [hk,Nat.pow_succ] at hd
      exact Nat.dvd_trans (Nat.dvd_mul_left _ _) hd
    have hxp : x.1 = p := q1.dvd_pr hp hx
    have hrp := prodL_pos fun y hy => F.pr y (List.mem_cons_of_mem _ hy)
    have e := F.prod
    simp only [prodL,hxp] at e
    have h1 : p ^ x.2 ≤ p := by
      have := Nat.le_mul_of_pos_right (p ^ x.2) hrp
      omega
    have hx2 : x.2 = 1 := by
      rcases Nat.lt_or_ge x.2 2 with z | z
      · omega
      · have h3 := Nat.pow_le_pow_right (n := p) (by omega) z
        have h4 := Nat.mul_le_mul_right p h2
        rw [Nat.pow_two] at h3
        omega
    rw [hx2,Nat.pow_one] at e
    have hr1 : prodL r = 1 := by
      have h5 : p * prodL r = p * 1 := by omega
      exact Nat.eq_of_mul_eq_mul_left (by omega) h5
    have hr : r = [] := by
      match r,F,hr1 with
      | [],_,_ => rfl
      | y :: r',F,hr1 =>
        have h6 := len_le fun z hz => F.pr z (List.mem_cons_of_mem _ hz)
        rw [hr1,List.length_cons,Nat.pow_succ] at h6
        have := Nat.pow_pos (n := r'.length) (show 0 < 2 by decide)
        omega
    rw [hr]
    have : x = (p,1) := by
      rw [← hxp,← hx2]
    rw [this]
theorem Fac.pr_of {p : Nat} (F : Fac p [(p,1)]) : IsPr p := (F.pr _ (List.mem_cons_self ..)).1
end EM
namespace EM
end EM
namespace E1
open PySem L2
inductive WholeIs (K : PySem.W.Frag) (H : Hp) : V → Bool → Prop where
  | int (i : Int) : WholeIs K H (.int i) true
  | bl (x : Bool) : WholeIs K H (.bl x) false
  | odd {v : V} {T : String} (ty : TyOf K H v (.type T)) (k : PySem.W.kitOne K (.type T) (.type "int") = some false) : WholeIs K H v false
section
variable (K : PySem.W.Frag)
theorem kit_int_int : PySem.W.kitOne K (.type "int") (.type "int") = some true := by kernel_rfl
theorem kit_int_bool : PySem.W.kitOne K (.type "int") (.type "bool") = some false := by kernel_rfl
theorem kit_bool_int : PySem.W.kitOne K (.type "bool") (.type "int") = some true := by kernel_rfl
theorem kit_bool_bool : PySem.W.kitOne K (.type "bool") (.type "bool") = some true := by kernel_rfl
end
theorem rel_ty {n : String} {K : PySem.W.Frag} {t : Value} {b : Bool} (h : PySem.W.kitOne K t (.type n) = some b) : ∀ u,RelV (.ty n) u → PySem.W.kitOne K t u = some b := fun u r => by
  cases (show u = Value.type n from r)
  exact h
def spWhole (K : PySem.W.Frag) : Sp := fun vs H Q _ => ∃ v b,vs = [v] ∧ WholeIs K H v b ∧ Q (.bl b) H
theorem same_new {q : Addr} {H : Hp} {o : HO} (n : H q = none) : Same H (upd H q o) := fun b u h => by rw [upd_ne (ne_of_none h n)]; exact h
theorem abs_nn (i : Int) : 0 ≤ (if i < 0 then -i else i) := by split <;> omega
theorem cut_ints {ns : List Int} {lo hi : Option Int} : ∀ x ∈ cutV (ns.map V.int) lo hi,∃ z,x = V.int z := fun x hx => by
  unfold cutV at hx
  obtain ⟨z,_,e⟩ := List.mem_map.mp (List.mem_of_mem_drop (List.mem_of_mem_take hx))
  exact ⟨z,e.symm⟩
def TupsAt (H : Hp) : List V → List (Nat × Nat) → Prop
  | [],[] => True
  | v :: vs,x :: xs => (∃ t,v = .ref t ∧ H t = some (.tup [.int (x.1 : Nat),.int (x.2 : Nat)])) ∧ TupsAt H vs xs
  | _,_ => False
theorem TupsAt.imp {H H' : Hp} (h : ∀ t xs,H t = some (.tup xs) → H' t = some (.tup xs)) : ∀ {ws : List V} {L : List (Nat × Nat)},TupsAt H ws L → TupsAt H' ws L
  | [],[],_ => trivial
  | v :: vs,x :: xs,⟨⟨t,e,q⟩,r⟩ => ⟨⟨t,e,h _ _ q⟩,r.imp h⟩
theorem TupsAt.same {H H' : Hp} (s : Same H H') {ws : List V} {L : List (Nat × Nat)} (h : TupsAt H ws L) : TupsAt H' ws L := h.imp fun t xs q => s _ _ q
theorem TupsAt.upd {H : Hp} {l : Addr} {o : HO} {ys : List V} (hl : H l = some (.lst ys)) {ws : List V} {L : List (Nat × Nat)} (h : TupsAt H ws L) : TupsAt (upd H l o) ws L :=
  h.imp fun t xs q => by rw [upd_ne (ne_of q hl (by intro z; cases z))]; exact q
theorem TupsAt.snoc {H : Hp} {t : Addr} {x : Nat × Nat} (e : H t = some (.tup [.int (x.1 : Nat),.int (x.2 : Nat)])) : ∀ {ws : List V} {L : List (Nat × Nat)},TupsAt H ws L → TupsAt H (ws ++ [.ref t]) (L ++ [x])
  | [],[],_ => ⟨⟨t,rfl,e⟩,trivial⟩
  | v :: vs,y :: ys,⟨a,r⟩ => ⟨a,r.snoc e⟩
theorem TupsAt.len {H : Hp} : ∀ {ws : List V} {L : List (Nat × Nat)},TupsAt H ws L → ws.length = L.length
  | [],[],_ => rfl
  | v :: vs,y :: ys,⟨_,r⟩ => by rw [List.length_cons,List.length_cons,r.len]
theorem same_upd {H H' : Hp} {l : Addr} {o : HO} (s : Same H H') (hl : H l = none) : Same H (upd H' l o) := fun b u e => by
  rw [upd_ne (ne_of_none e hl)]
  exact s _ _ e
def ptup (x : Nat × Nat) : PyData := .tuple [.int (x.1 : Nat),.int (x.2 : Nat)]
theorem tups_isD {K : PySem.W.Frag} {H : Hp} : ∀ {ws : List V} {L : List (Nat × Nat)},TupsAt H ws L → IsDs K H (L.map ptup) ws
  | [],[],_ => by simp only [List.map_nil,IsDs]
  | v :: vs,x :: xs,⟨⟨t,e,q⟩,r⟩ => by
    simp only [List.map_cons,IsDs]
    refine ⟨v,vs,rfl,?_,tups_isD r⟩
    simp only [ptup,IsD]
    exact ⟨t,_,e,SqT.of q,by simp [IsDs,IsD]⟩
theorem eqv_ptups : ∀ (L M : List (Nat × Nat)),PyData.eqvAll (L.map ptup) (M.map ptup) = decide (L = M)
  | [],[] => by simp [PyData.eqvAll]
  | [],m :: M => by simp [PyData.eqvAll]
  | x :: L,[] => by simp [PyData.eqvAll]
  | (a,b) :: L,(c,d) :: M => by
    have h1 : ((a : Int) == (c : Int)) = decide (a = c) := by
      rw [Bool.eq_iff_iff]; simp; omega
    have h2 : ((b : Int) == (d : Int)) = decide (b = d) := by
      rw [Bool.eq_iff_iff]; simp; omega
    simp only [List.map_cons,PyData.eqvAll,ptup,PyData.eqv,eqv_ptups L M,h1,h2,Bool.and_true]
    rw [Bool.eq_iff_iff]
    simp [and_assoc]
theorem lay_ptups : ∀ L : List (Nat × Nat),PyData.canLayAll0 (L.map ptup) = true
  | [] => by simp [PyData.canLayAll0]
  | x :: L => by simp [PyData.canLayAll0,ptup,PyData.canLay0,lay_ptups L]
theorem depth_ptups : ∀ L : List (Nat × Nat),PyData.depthAll (L.map ptup) ≤ 1
  | [] => by simp [PyData.depthAll]
  | x :: L => by
    have := depth_ptups L
    simp [PyData.depthAll,ptup,PyData.depth]
    omega
theorem shaped_ptups (L : List (Nat × Nat)) : PySem.SeqAt.shaped (.list (L.map ptup)) = true := by
  unfold PySem.SeqAt.shaped
  rw [Bool.and_eq_true]
  refine ⟨by simp only [PyData.canLay0]; exact lay_ptups L,decide_eq_true ?_⟩
  have := depth_ptups L
  simp only [PyData.depth]
  omega
def spIsPrime : Sp := fun vs H Q _ => ∃ i : Int,vs = [.int i] ∧ i < 2 ^ 60 ∧ ∀ (b : Bool) (H' : Hp),Same H H' → (b = true ↔ ∃ p : Nat,i = (p : Int) ∧ EM.IsPr p) → Q (.bl b) H'
theorem kit_tup_tup (K : PySem.W.Frag) : PySem.W.kitOne K (.type "tuple") (.type "tuple") = some true := by kernel_rfl

theorem fn_mk {K : PySem.W.Frag} {x : Str} {st : Stmt} {f : Addr} {oc : Value} {od an : Option Addr} {osl : Array (Option Value)} {kV doc pm cdv ct : Value}
    (a : PySem.W.nsIn K mainGlobals x = some (some (.ref f)))
    (l : K.lookup f = some ⟨oc,od,.func (PySem.W.fnOf x x (defArgs st) (defBody st) (defScope st) .none kV doc pm an cdv ct),osl⟩)
    (c : PySem.W.codeIn K cdv x = true) (k : PySem.W.keepIn K (.ref f) = true) :
    ∃ (f : Addr) (fd : FuncData),PySem.W.nsIn K mainGlobals x = some (some (.ref f)) ∧ Fun K x x st f fd := ⟨f,_,a,fun_mk l c k⟩
def spLaw (K : PySem.W.Frag) : Sp := fun vs H Q _ => ∃ (a : Addr) (ns : List Int),vs = [.ref a] ∧ SqL K H a (ns.map V.int) ∧ ns.length ≤ 63 ∧ ∀ H',Q (.bl true) H'
theorem walk {l : PySem.W.OpenLaw} {q : Program} {loose : List Str} {XP : (Str → Option Value) → Heap → Prop} {YP : World → Heap → Prop} {d : DefRec} {K : Params → PySem.W.Frag} {k : Nat} (hr : Room k PySem.callerA) (hn : l.most = some 63) (hdf : d.params.defaults = [])
    (hY : ∀ (w : World) (h : Heap),YP w h → (K w.params).In h)
    (F : ∀ (w : World) (mg : Str → Option Value) (fa : Addr) (h : Heap),(K w.params).In h → h.Ns mainGlobals mg → mg d.name = some (.ref fa) →
      ∃ fd : FuncData,(∀ (s : Shared) (u : Value),BindsTo s fd ⟨[u],[]⟩ [("_law_script",u)]) ∧ ∀ base : Heap,(K w.params).In base → base.Ns mainGlobals mg → FnOk l.prog w (K w.params) mg base CX0 k fa fd ["_law_script"] (spLaw (K w.params))) :
    PySem.W.WalkO q loose XP YP l.row.toRowW d [] (fun f vs => PySem.call f vs) :=
  L2.walk_of (n := 63) (k := k) (x := "_law_script") (CX := fun _ => CX0) (sp := fun w => spLaw (K w.params)) hn (by decide) hdf hr hY F (fun _ _ a ns hl _ hS => ⟨a,ns,rfl,hS,hl,fun _ => rfl⟩) fun _ _ _ _ _ z => z
abbrev At (K : PySem.W.Frag) (x : Str) (st : Stmt) : Prop := ∃ (f : Addr) (fd : FuncData),PySem.W.nsIn K mainGlobals x = some (some (.ref f)) ∧ Fun K x x st f fd

end E1
namespace L2
open PySem PySem.Spec PyProof.Rows
theorem ints_of_vals {ns : List Int} {us : List Value} (r : Vals (ns.map V.int) us) : IntsAre us ns := intsAre_of r
theorem vals_of_ints : ∀ {ns : List Int} {us : List Value},IntsAre us ns → Vals (ns.map V.int) us
  | _,_,.nil => .nil
  | _,_,.cons n tk t => .cons ⟨tk,rfl⟩ (vals_of_ints t)
def rMulL (K : PySem.W.Frag) : R2 := fun x y H Q => ∃ (a : Addr) (xs : List V) (n : Int),x = .ref a ∧ y = .int n ∧ SqL K H a xs ∧ n < 2 ^ 63 ∧ 0 ≤ n ∧ xs.length * n.toNat ≤ 65536 ∧ ∀ l,H l = none → Q (.ref l) (upd H l (.lst (List.replicate n.toNat xs).flatten))
theorem vals_flat {xs : List V} {us : List Value} (r : Vals xs us) : ∀ n,Vals (List.replicate n xs).flatten (List.replicate n us).flatten
  | 0 => .nil
  | n + 1 => by
    rw [List.replicate_succ,List.replicate_succ,List.flatten_cons,List.flatten_cons]
    exact r.append (vals_flat r n)
theorem op_mulL {X : Cx} : OpR X (binaryOp .Mult) (rMulL X.K) := by
  intro pins s σ H x y v u Q I rx ry h
  obtain ⟨a,xs,n,rfl,rfl,hx,hn,h0,hsz,q⟩ := h
  cases rx
  obtain ⟨tk,rfl⟩ := ry
  obtain ⟨its,r,pl,hz⟩ := I.list hx
  have hlen := r.length
  obtain ⟨⟨oc,od,odt,osl⟩,k,hl,e1,e2,e3⟩ := pl
  dsimp only at e1 e2 e3
  subst e1 e2 e3
  refine wpAny_binaryOp_repeat_ref (T := "list") (U := "int") (by decide) ⟨_,hl,rfl⟩ (fun s' => typeIs_int s' n tk) noFill_list_mul F.fills_int_mul F.slot_int_rmul repeat_list F.slot_int_index.lookup
    (call_meets F.slot_int_rmul (typeIs_int s n tk) F.entry_int_rmul (F.args_int_rmul_2 _ _) (lm_int_rmul_list_any n tk a its.toArray k _ _)
      ⟨hl,rfl,⟨_,hl,rfl⟩,call_meets F.slot_list_mul ⟨_,hl,rfl⟩ F.entry_list_mul (F.args_list_mul_2 _ _)
        (lm_list_mul_any a its.toArray k _ _ n tk (by simp [Builtin.List.listFitsIndex]; omega) (by rw [List.size_toArray,← hlen]; omega) (by rw [List.size_toArray,← hlen]; simp [Builtin.List.listTooLong,sizeLine]; omega))
        ⟨hl,?_⟩⟩)
  rw [listMul_foldl_if,List.toList_toArray]
  refine ⟨.ref s.heap.objs.size,_,I.laid (t' := s.toks) (o := .lst (List.replicate n.toNat xs).flatten) (fun b ob q => Heap.get?_push_of_some _ q) (Nat.le_refl _) ?_,rfl,q _ (I.hok.fresh (Nat.le_refl _))⟩
  refine ⟨?_,(List.replicate n.toNat its).flatten,0,vals_flat r _,Heap.get?_push_size _ rfl⟩
  rw [List.length_flatten,List.map_replicate,List.sum_replicate_nat,Nat.mul_comm]
  exact Nat.le_trans hsz (by decide)
theorem Inv.turnedL {X : Cx} {pins : List (Addr × Obj)} {σ : St} {H : Hp} {s : Shared} {h' : Heap} {t' : Nat} {wr : List Addr} (I : Inv X pins σ H s) (k : ∀ b o,b ∉ wr → s.heap.get? b = some o → h'.get? b = some o) (hf : ∀ b ∈ wr,FpOk X pins H b) : Inv X pins σ H { s with heap := h',toks := t' } := by
  have nit : ∀ b u,H b = some u → b ∉ wr := fun b u e z => by rw [(hf b z).1] at e; cases e
  refine I.step (g' := s.gens) (d' := s.drawn) (ch := wr) (fun b hb => ?_) (fun b o _ _ hc e _ => k b o hc e) (fun b o _ _ hc e _ => ⟨o.slots,k b o hc e⟩) (fun _ _ _ _ n => n) (fun b o hc e => ⟨o,k b o hc e⟩) (fun _ _ e => e) (fun _ _ _ e => e) (fun b ps e => ⟨#[],by rw [e]; simp⟩) (fun m hm => ?_) (fun b u e => ?_) I.bare
  · obtain ⟨_,f1,_,f3,f4,f5⟩ := hf b hb
    exact ⟨f3,f1,f4,f5⟩
  · obtain ⟨o,es,ep,ho,r⟩ := hm
    exact ⟨o,es,ep,k _ o (fun z => (hf _ z).2.1 rfl) ho,r⟩
  · refine (I.hok b u e).stay (fun c v hc q => k c v ?_ q) (fun _ q => q) fun _ _ q => q
    rcases hc with z | z
    · exact z ▸ nit b u e
    · exact nit c _ z
def Ite (K : PySem.W.Frag) (a : Addr) : It :=
  ⟨fun i H => ∃ xs x,SqL K H a xs ∧ xs[i]? = some x,fun i H v H' => ∃ T x,(∀ xs,SqL K H a xs → xs[i]? = some x) ∧ H T = none ∧ v = .ref T ∧ H' = upd H T (.tup [.int (i : Nat),x]),fun i H => ∃ xs,SqL K H a xs ∧ xs.length ≤ i⟩
theorem Inv.tracked {X : Cx} {pins : List (Addr × Obj)} {σ : St} {H : Hp} {s s' : Shared} {T : Addr} {o : HO} (I0 : Inv X pins σ H s) (I : Inv X pins σ H s') (hT : s.heap.objs.size ≤ T) (new : ObjOk X.prog X.w (upd H T o) s'.heap T o) : Inv X pins σ (upd H T o) s' := by
  obtain ⟨f0,f1,f2,f3,f4,f5⟩ := I0.fpOk (H' := H) hT (I0.hok.fresh hT)
  refine I.track f0 ?_ f1 f4 f5 new
  cases e : X.s₀.heap.get? T with
  | none => rfl
  | some ob => exact absurd (Nat.lt_of_lt_of_le (Heap.lt_size e) (Nat.le_trans I0.sz hT)) (Nat.lt_irrefl _)
theorem turn_enum {P : Program} {w : World} {K : PySem.W.Frag} {elts : List Expr} {k : Nat} {tp : Pos} (l e it : Addr) (hei : e ≠ it) : Turn P w K (.Tuple elts k tp) (Ite K l) [e,it] e (fun i h => (∃ old,IsEnum h e it ((i : Nat) : Int) old) ∧ h.IsListIter it l i) where
  mem := by simp
  obj := fun i h st b hb => by
    obtain ⟨⟨old,he⟩,o,ho,hc,hd⟩ := st
    simp only [List.mem_cons,List.not_mem_nil,or_false] at hb
    rcases hb with rfl | rfl
    · exact ⟨_,he,fun v z => by cases z⟩
    · exact ⟨o,ho,fun v z => by rw [hd] at z; cases z⟩
  keep := fun i h h' st kp => ⟨⟨_,kp e (by simp) _ st.1.choose_spec⟩,st.2.at fun o q => kp it (by simp) o q⟩
  item := by
    intro X hP hw hK hc i pins s σ H E I hf st hg
    subst hP hw hK
    obtain ⟨xs,x,hq,hx⟩ := hg
    obtain ⟨its,rv,p,hz⟩ := I.list hq
    obtain ⟨u,hu,ru⟩ := rv.get hx
    obtain ⟨⟨old,he⟩,hit⟩ := st
    have hlt : ∀ b ∈ [e,it],b ≠ s.heap.objs.size := fun b hb z => by
      simp only [List.mem_cons,List.not_mem_nil,or_false] at hb
      rcases hb with rfl | rfl
      · exact absurd (z ▸ Heap.lt_size he) (Nat.lt_irrefl _)
      · obtain ⟨_,ho,_⟩ := hit
        exact absurd (z ▸ Heap.lt_size ho) (Nat.lt_irrefl _)
    have fr : H s.heap.objs.size = none := I.hok.fresh (Nat.le_refl _)
    refine wpAny_pyNext_enum_item he hit p.isList (x := u) (by simpa using hu) hei fun h' ho hit' hT hsz hk => ?_
    have I1 : Inv X pins σ H { s with heap := h',toks := s.toks + 1 } := I.turnedL (wr := [e,it]) (fun b o hb q => hk b o (fun z => hb (by simp [z])) (fun z => hb (by simp [z])) q) hf
    have I2 : Inv X pins σ (upd H s.heap.objs.size (.tup [.int (i : Nat),x])) { s with heap := h',toks := s.toks + 1 } := I.tracked I1 (Nat.le_refl _) ⟨by show 2 ≤ sizeLine; decide,[.int i s.toks,u],.cons ⟨_,rfl⟩ (.cons ru .nil),⟨_,hT,rfl,_,rfl⟩⟩
    have hf2 : ∀ b ∈ [e,it],FpOk X pins (upd H s.heap.objs.size (.tup [.int (i : Nat),x])) b := fun b hb => by
      obtain ⟨f0,f1,f2,f3,f4,f5⟩ := hf b hb
      exact ⟨by rw [upd_ne (hlt b hb)]; exact f0,f1,f2,f3,f4,f5⟩
    refine ⟨_,rfl,wpAny_letOwnedTupleGo_enum ho fun h'' he' hs' => ?_⟩
    refine ⟨.ref s.heap.objs.size,_,I2.turnedL (wr := [e]) (t' := s.toks + 1) (fun b o hb q => (hs'.2 b (fun z => hb (by simp [z]))).trans q) (fun b hb => hf2 b (by rw [List.mem_singleton.mp hb]; simp)),rfl,⟨_,x,fun ys hy => by rw [I.list_inj hy hq]; exact hx,fr,rfl,rfl⟩,⟨⟨_,by simpa using he'⟩,hit'.at fun o q => (hs'.2 it hei.symm).trans q⟩,fun b hb => (hf2 b hb).1⟩
  done := by
    intro X hP hw hK hc i pins s σ H E I hf st hg
    subst hP hw hK
    obtain ⟨xs,hq,hx⟩ := hg
    obtain ⟨its,rv,p,hz⟩ := I.list hq
    have hl := rv.length
    obtain ⟨⟨old,he⟩,hit⟩ := st
    exact wpAny_pyNext_enum_end (I.ok.hd hc) he hit p.isList (by simp; omega) fun h' eb => ⟨rfl,I.turnedL (wr := [it]) (t' := s.toks) (fun b o hb q => eb b o (fun z => hb (by simp [z])) q) (fun b hb => hf b (by rw [List.mem_singleton.mp hb]; simp))⟩
  self := fun _ _ _ _ _ st h => wpAny_pyIter_enum st.1.choose_spec h
section
variable {X : Cx} {elts : List Expr} {k : Nat} {tp : Pos}
def iEnum (K : PySem.W.Frag) (ta : TA) : TI := fun σ H R => ta σ H fun vs H1 => ∃ a,vs = [.ref a] ∧ (∃ xs,SqL K H1 a xs) ∧ R (Ite K a) H1
theorem pi_enum {a : Expr} {ta : TA} {p pos : Pos} (hg : Gl X "enumerate") (hm : X.mg "enumerate" = none) (ha : PA X [a] ta) (hs : starEach [a] X.env = [(false,eval a X.env)] := by rfl) : PI X (.Tuple elts k tp) (.Call (.Name "enumerate" p) [a] [] pos) (iEnum X.K ta) := by
  intro pins s σ H R I h
  refine Call_ (ld_blt I hg hm (show bootBuiltins "enumerate" = some (.type "enumerate") by decide +kernel) (PyProof.Rows.callWith_type1 (thn (ha pos pins s σ H _ I h) fun us s1 ⟨vs,H1,I1,r1,q1⟩ => ?_) (by rw [hs]; rfl) (by rfl)))
  obtain ⟨a,e,⟨xs,hq⟩,q⟩ := q1
  subst e
  obtain ⟨u,rfl,rx⟩ := vals1 r1
  cases rx
  obtain ⟨its,rv,pl,hz⟩ := I1.list hq
  refine call_enumerate_list pl.isList fun h' he hit hsz kp => ?_
  have I2 : Inv X pins σ H1 { s1 with heap := h' } := I1.kept (t' := s1.toks) kp
  refine wpAny_pyIter_enum he ?_
  refine ⟨s1.heap.objs.size + 1,[s1.heap.objs.size + 1,s1.heap.objs.size],_,_,H1,rfl,I2,turn_enum a _ _ (Nat.succ_ne_self _),⟨⟨_,he⟩,hit⟩,fun b hb => ?_,q⟩
  simp only [List.mem_cons,List.not_mem_nil,or_false] at hb
  rcases hb with rfl | rfl
  · exact I1.fpOk (Nat.le_succ _) (I1.hok.fresh (Nat.le_succ _))
  · exact I1.fpOk (Nat.le_refl _) (I1.hok.fresh (Nat.le_refl _))
theorem qi_enum {a : Expr} {ta : TA} {p pos : Pos} (hg : Gl X "enumerate") (hm : X.mg "enumerate" = none) (ha : QA X [a] ta) (hs : starEach [a] X.env = [(false,eval a X.env)] := by rfl) : QI X (.Tuple elts k tp) (.Call (.Name "enumerate" p) [a] [] pos) (iEnum X.K ta) := ⟨pi_enum hg hm ha.h hs⟩
end
structure TxtB (mg : Str → Option Value) : Prop where
  isi : mg "isinstance" = none
  int : mg "int" = none
  bool : mg "bool" = none
  abs : mg "abs" = none
  len : mg "len" = none
  range : mg "range" = none
  tup : mg "tuple" = none
  lst : mg "list" = none
  sor : mg "sorted" = none
  all : mg "all" = none
  set : mg "set" = none
  zip : mg "zip" = none
  enu : mg "enumerate" = none
  any : mg "any" = none
  max : mg "max" = none
  min : mg "min" = none
  str : mg "str" = none
  sum : mg "sum" = none
def nats (L : List Nat) : List V := L.map fun p => V.int ((p : Nat) : Int)
theorem nats_snoc (L : List Nat) (j : Nat) : nats (L ++ [j]) = nats L ++ [V.int (j : Int)] := by unfold nats; rw [List.map_append]; rfl
theorem nats_len (L : List Nat) : (nats L).length = L.length := by unfold nats; rw [List.length_map]
def BlAt (H : Hp) : List V → List (List Nat) → Prop
  | [],[] => True
  | v :: vs,b :: bs => (∃ a,v = .ref a ∧ H a = some (.lst (nats b))) ∧ BlAt H vs bs
  | _,_ => False
def TpAt (H : Hp) : List V → List (List Nat) → Prop
  | [],[] => True
  | v :: vs,b :: bs => (∃ a,v = .ref a ∧ H a = some (.tup (nats b))) ∧ TpAt H vs bs
  | _,_ => False
theorem TpAt.len {H : Hp} : ∀ {vs : List V} {bs : List (List Nat)},TpAt H vs bs → vs.length = bs.length
  | [],[],_ => rfl
  | _ :: _,_ :: _,h => by rw [List.length_cons,List.length_cons,TpAt.len h.2]
theorem TpAt.same {H H' : Hp} (s : ∀ a xs,H a = some (.tup xs) → H' a = some (.tup xs)) : ∀ {vs : List V} {bs : List (List Nat)},TpAt H vs bs → TpAt H' vs bs
  | [],[],_ => trivial
  | v :: vs,b :: bs,⟨⟨a,e,q⟩,r⟩ => ⟨⟨a,e,s _ _ q⟩,r.same s⟩
theorem TpAt.snoc {H : Hp} {a : Addr} {b : List Nat} (e : H a = some (.tup (nats b))) : ∀ {vs : List V} {bs : List (List Nat)},TpAt H vs bs → TpAt H (vs ++ [.ref a]) (bs ++ [b])
  | [],[],_ => ⟨⟨a,rfl,e⟩,trivial⟩
  | _ :: _,_ :: _,h => ⟨h.1,h.2.snoc e⟩
theorem TpAt.get {H : Hp} : ∀ {vs : List V} {bs : List (List Nat)} {i : Nat} {v : V},TpAt H vs bs → vs[i]? = some v → ∃ a b,v = .ref a ∧ bs[i]? = some b ∧ H a = some (.tup (nats b))
  | v :: vs,b :: bs,0,_,h,e => by
    cases e
    obtain ⟨a,e,q⟩ := h.1
    exact ⟨a,b,e,rfl,q⟩
  | _ :: vs,_ :: bs,i + 1,v,h,e => TpAt.get (i := i) h.2 e
structure Blk (p : Nat) (b : List Nat) : Prop where
  nd : b.Nodup
  lt : ∀ x ∈ b,x < p
theorem nodup_le : ∀ (n : Nat) (b : List Nat),b.Nodup → (∀ x ∈ b,x < n) → b.length ≤ n
  | 0,[],_,_ => Nat.le_refl _
  | 0,x :: b,_,h => absurd (h x (List.mem_cons_self ..)) (Nat.not_lt_zero _)
  | n + 1,b,hn,hl => by
    have h1 := nodup_le n (b.filter (fun x => decide (x ≠ n))) (hn.filter _) (fun x hx => by
      have := List.mem_filter.mp hx
      have h2 := hl x this.1
      have h3 : x ≠ n := of_decide_eq_true this.2
      omega)
    by_cases hm : n ∈ b
    · have e : b.length = (b.filter (fun x => decide (x ≠ n))).length + 1 := by
        clear h1 hl
        induction b with
        | nil => cases hm
        | cons y b ih =>
          rw [List.nodup_cons] at hn
          by_cases hy : y = n
          · subst hy
            rw [List.filter_cons_of_neg (by simp)]
            have : b.filter (fun x => decide (x ≠ y)) = b := List.filter_eq_self.mpr fun x hx => decide_eq_true fun z => hn.1 (z ▸ hx)
            rw [this]; rfl
          · rw [List.filter_cons_of_pos (by simpa using hy)]
            have hm' : n ∈ b := (List.mem_cons.mp hm).resolve_left (fun z => hy z.symm)
            simp only [List.length_cons]
            rw [ih hn.2 hm']
      omega
    · have : b.filter (fun x => decide (x ≠ n)) = b := List.filter_eq_self.mpr fun x hx => decide_eq_true fun z => hm (z ▸ hx)
      rw [this] at h1
      omega
theorem Blk.len {p : Nat} {b : List Nat} (h : Blk p b) : b.length ≤ p := nodup_le p b h.nd h.lt
def iSeq (K : PySem.W.Frag) (tl : TE) : TI := fun σ H R => tl σ H fun x H1 => ∃ a,x = .ref a ∧ (((∃ xs,SqL K H1 a xs) ∧ R (Itl K a) H1) ∨ ((∃ xs,SqT K H1 a xs) ∧ R (Itt K a) H1))
theorem pi_seq {X : Cx} {tg l : Expr} {tl : TE} (hl : PE X l tl) : PI X tg l (iSeq X.K tl) := by
  intro pins s σ H R I h
  refine thn (hl pins s σ H _ I h) fun v s1 ⟨x,H1,I1,r1,q1⟩ => ?_
  obtain ⟨a,e,q⟩ := q1
  subst e
  cases r1
  have fp : ∀ b ∈ [s1.heap.objs.size],FpOk X pins H1 b := fun b hb => by
    have e : b = s1.heap.objs.size := by simpa using hb
    subst e
    exact I1.fpOk (Nat.le_refl _) (I1.hok.fresh (Nat.le_refl _))
  rcases q with ⟨⟨xs,hq⟩,q⟩ | ⟨⟨xs,hq⟩,q⟩
  · obtain ⟨its,rv,p,hz⟩ := I1.list hq
    exact wpAny_pyIter_list p.isList ⟨s1.heap.objs.size,[s1.heap.objs.size],_,_,H1,rfl,I1.kept (t' := s1.toks) fun b o e => Heap.get?_push_of_some _ e,turn_list a _,⟨_,Heap.get?_push_size _ rfl,rfl,rfl⟩,fp,q⟩
  · obtain ⟨its,rv,p,hz⟩ := I1.tuple hq
    exact wpAny_pyIter_tuple (show s1.heap.IsTuple a its.toArray from p) ⟨s1.heap.objs.size,[s1.heap.objs.size],_,_,H1,rfl,I1.kept (t' := s1.toks) fun b o e => Heap.get?_push_of_some _ e,turn_tuple a _,⟨_,Heap.get?_push_size _ rfl,rfl,rfl⟩,fp,q⟩
theorem qi_seq {X : Cx} {tg l : Expr} {tl : TE} (hl : QE X l tl) : QI X tg l (iSeq X.K tl) := ⟨pi_seq hl.h⟩
theorem TpAt.sm {H H' : Hp} (s : Same H H') {vs : List V} {bs : List (List Nat)} (h : TpAt H vs bs) : TpAt H' vs bs := h.same fun a xs q => s _ _ q
theorem nats_get {b : List Nat} {j : Nat} {x : V} (h : (nats b)[j]? = some x) : ∃ p : Nat,b[j]? = some p ∧ x = V.int ((p : Nat) : Int) := by
  unfold nats at h
  rw [List.getElem?_map] at h
  cases e : b[j]? with
  | none => rw [e] at h; cases h
  | some p => rw [e] at h; cases h; exact ⟨p,rfl,rfl⟩
theorem ints_isD' {K : PySem.W.Frag} {H : Hp} : ∀ L : List Nat,IsDs K H (L.map fun p => PyData.int ((p : Nat) : Int)) (nats L)
  | [] => by simp [nats,IsDs]
  | p :: L => by
    simp only [nats,List.map_cons,IsDs]
    exact ⟨_,_,rfl,by simp [IsD],ints_isD' L⟩
theorem lay_ints' : ∀ L : List Nat,PyData.canLayAll0 (L.map fun p => PyData.int ((p : Nat) : Int)) = true
  | [] => by simp [PyData.canLayAll0]
  | x :: L => by simp [PyData.canLayAll0,PyData.canLay0,lay_ints' L]
theorem depth_ints' : ∀ L : List Nat,PyData.depthAll (L.map fun p => PyData.int ((p : Nat) : Int)) ≤ 1
  | [] => by simp [PyData.depthAll]
  | x :: L => by
    have := depth_ints' L
    simp [PyData.depthAll,PyData.depth]
    omega
def dBlk (L : List Nat) : PyData := .list (L.map fun p => PyData.int ((p : Nat) : Int))
theorem shaped_blk (L : List Nat) : PySem.SeqAt.shaped (dBlk L) = true := by
  unfold PySem.SeqAt.shaped dBlk
  rw [Bool.and_eq_true]
  refine ⟨by simp only [PyData.canLay0]; exact lay_ints' L,decide_eq_true ?_⟩
  have := depth_ints' L
  simp only [PyData.depth]
  omega
theorem cut_from {xs : List V} {k : Nat} (hk : k ≤ xs.length) : cutV xs (some (k : Int)) none = xs.drop k := by
  unfold cutV
  have h1 : HT.sIx xs.length 0 (some (k : Int)) = k := by rw [HT.sIx_nat]; omega
  have h2 : HT.sIx xs.length xs.length none = xs.length := by simp [HT.sIx]
  rw [h1,h2,List.take_of_length_le (by rw [List.length_drop]; exact Nat.le_refl _)]
theorem cut_to {xs : List V} {k : Nat} (hk : k ≤ xs.length) : cutV xs none (some (k : Int)) = xs.take k := by
  unfold cutV
  have h1 : HT.sIx xs.length 0 none = 0 := by simp [HT.sIx]
  have h2 : HT.sIx xs.length xs.length (some (k : Int)) = k := by rw [HT.sIx_nat]; omega
  rw [h1,h2,List.drop_zero,Nat.sub_zero]
theorem seqVia {t rest : TS} {D : Ends} {σ : St} {H : Hp} (J : St → Hp → Prop) (hJ : ∀ σ' H',J σ' H' → rest D σ' H') (h : ∀ D' : Ends,(∀ σ' H',J σ' H' → D'.nx σ' H') → t D' σ H) : tSeq t rest D σ H := h { D with nx := rest D } hJ
theorem eqv_ints' : ∀ L : List Nat,PyData.eqvAll (L.map fun p => PyData.int ((p : Nat) : Int)) (L.map fun p => PyData.int ((p : Nat) : Int)) = true
  | [] => by simp [PyData.eqvAll]
  | x :: L => by simp [PyData.eqvAll,PyData.eqv,eqv_ints' L]
def dTup (L : List Nat) : PyData := .tuple (L.map fun p => PyData.int ((p : Nat) : Int))
theorem cut_le {xs : List V} {k : Nat} : cutV xs none (some (k : Int)) = xs.take k := by
  by_cases hk : k ≤ xs.length
  · exact cut_to hk
  · unfold cutV
    have h1 : HT.sIx xs.length 0 none = 0 := by simp [HT.sIx]
    have h2 : HT.sIx xs.length xs.length (some (k : Int)) = xs.length := by rw [HT.sIx_nat]; omega
    rw [h1,h2,List.drop_zero,Nat.sub_zero,List.take_length,List.take_of_length_le (by omega)]
def rGetN (K : PySem.W.Frag) : V → V → Hp → VK → Prop := fun x y H Q => ∃ (p : Addr) (xs : List V) (i : Int) (z : V),x = .ref p ∧ y = .int i ∧ SqL K H p xs ∧ 0 ≤ i ∧ atI xs i = some z ∧ Q z H
theorem get_listN {X : Cx} : PGet X (rGetN X.K) := by
  intro pins s σ H x y v u Q I rx ry h
  obtain ⟨p,xs,i,z,rfl,rfl,hq,h0,he,q⟩ := h
  cases rx
  obtain ⟨t,rfl⟩ := ry
  obtain ⟨its,r,pl,hz⟩ := I.list hq
  obtain ⟨j,h1,h2,h3,h4,h5⟩ := atI_get he
  obtain ⟨w,ew,rw'⟩ := r.get h2
  have hl := r.length
  have hn := line63
  have fin : EP X pins σ Q w s := ⟨z,H,I,rw',q⟩
  have hj : i.toNat = j := by
    rw [seqIndex_of h0 h5] at h1
    exact Option.some.inj h1
  exact wpAny_getItem_list pl.isList h0 (by omega) (by rw [hj]; simpa using ew) fin
end L2
namespace L2
open PySem PySem.Spec PyProof.Rows PySem.W
section
variable {n : Nat} (hn : 0 < n)
include hn
end
section
variable {prog : Program} {w : World} {A : Around} {E : Value → Shared → Prop} {s : Shared}
end
end L2
namespace PySem
open Sem (wp)
open Builtin
end PySem
namespace L2
open PySem PySem.Spec PyProof.Rows
end L2
namespace HT2
open PySem PySem.Spec PyProof.Rows HT
variable {prog : Program} {w : World} {A : Around} {E : Value → Shared → Prop} {s : Shared}
end HT2
namespace L2
open PySem PySem.Spec PyProof.Rows
end L2
namespace L2
open PySem PySem.Spec PyProof.Rows
section
variable {prog : Program} {w : World} {A : Around} {E : Value → Shared → Prop} {s : Shared}
theorem nextT_item {it t : Addr} {i : Nat} {its : Array Value} {x : Value} {Q : Value → Shared → Prop} (hi : s.heap.IsTupleIter it t i) (ht : s.heap.IsTuple t its) (hx : its[i]? = some x)
    (hQ : ∀ h',h'.IsTupleIter it t (i + 1) → Heap.SameBut it s.heap h' → Q x { s with heap := h' }) : wpAny (model prog w) A (Builtin.SmallTypes.nextOf (.ref it)) Q E s := by
  obtain ⟨oi,gi,ci,di⟩ := id hi
  obtain ⟨ot,gt,_,nt,dt⟩ := ht
  unfold Builtin.SmallTypes.nextOf
  refine wpAny_bind (wpAny_callSpecial?_slot (name := Str.ofString "__next__") hi.typeIs PySem.F.slot_tuple_iterator_next (wpAny_call_entry PySem.F.slot_tuple_iterator_next hi.typeIs PySem.F.entry_tuple_iterator_next ?_ (PySem.F.args_tuple_iterator_next_1 _)))
  show wpAny _ _ (field (.ref it) 0 >>= _) _ _ s; refine wpAny_bind (wpAny_field gi di (x := .ref t) rfl ?_)
  show wpAny _ _ (if (Value.ref t == Value.none) = true then _ else _) _ _ s; rw [if_neg (show ¬ ((Value.ref t == Value.none) = true) from Bool.false_ne_true)]
  show wpAny _ _ (field (.ref it) 1 >>= _) _ _ s; refine wpAny_bind (wpAny_field gi di (x := .int i 0) rfl ?_)
  show wpAny _ _ (seqItems? (.ref t) >>= _) _ _ s; refine wpAny_bind (wpAny_seqItems gt dt ?_)
  simp only [Int.toNat_natCast,hx]
  have hn : ∀ f,(s.heap.update it (Obj.mapFields f)).get? it = some (Obj.mapFields f oi) := fun f => Heap.get?_update_self _ gi (Obj.isFreed_of_fields (Obj.data_mapFields di _))
  refine wpAny_bind (wpAny_setField gi di (by simp) (wpAny_pure ⟨x,rfl,wpAny_pure (hQ _ ⟨_,hn _,(Obj.cls_mapFields ..).trans ci,?_⟩ (Heap.SameBut.update ..))⟩))
  rw [Obj.data_mapFields di]; simp [rawInt]
theorem nextT_end {it t : Addr} {i : Nat} {its : Array Value} {Q : Value → Shared → Prop} (hh : A.handled = none) (hi : s.heap.IsTupleIter it t i) (ht : s.heap.IsTuple t its) (hx : its[i]? = none)
    (hE : ∀ h' e,Heap.ExtBut it s.heap h' → (∃ o,h'.get? e = some o ∧ o.cls = .type "StopIteration") → E (.ref e) { s with heap := h' }) : wpAny (model prog w) A (Builtin.SmallTypes.nextOf (.ref it)) Q E s := by
  obtain ⟨oi,gi,ci,di⟩ := id hi
  obtain ⟨ot,gt,_,nt,dt⟩ := ht
  unfold Builtin.SmallTypes.nextOf
  refine wpAny_bind (wpAny_callSpecial?_slot (name := Str.ofString "__next__") hi.typeIs PySem.F.slot_tuple_iterator_next (wpAny_call_entry PySem.F.slot_tuple_iterator_next hi.typeIs PySem.F.entry_tuple_iterator_next ?_ (PySem.F.args_tuple_iterator_next_1 _)))
  show wpAny _ _ (field (.ref it) 0 >>= _) _ _ s; refine wpAny_bind (wpAny_field gi di (x := .ref t) rfl ?_)
  show wpAny _ _ (if (Value.ref t == Value.none) = true then _ else _) _ _ s; rw [if_neg (show ¬ ((Value.ref t == Value.none) = true) from Bool.false_ne_true)]
  show wpAny _ _ (field (.ref it) 1 >>= _) _ _ s; refine wpAny_bind (wpAny_field gi di (x := .int i 0) rfl ?_)
  show wpAny _ _ (seqItems? (.ref t) >>= _) _ _ s; refine wpAny_bind (wpAny_seqItems gt dt ?_)
  simp only [Int.toNat_natCast,hx]
  refine wpAny_bind (wpAny_rule (wpAny_bind (wpAny_setField gi di (by simp) ?_)))
  show wpAny _ _ (newExc (.type "StopIteration") [] >>= _) _ _ _; refine wpAny_bind ?_
  simp only [newExc,newTuple]; refine wpAny_bind (wpAny_newObj_type ?_ (by size_fits))
  refine wpAny_bind (m := firstArgMember _ _) (wpAny_of_eq (a := Value.none) (by first | rfl | (simp only [firstArgMember]; rfl)) (wpAny_newObj_type ?_ (by size_fits)))
  simp only [raiseNew]; refine wpAny_bind (wpAny_handled ?_)
  first | rw [show A.in1.handled = none from hh] | rw [hh]
  exact wpAny_bind (wpAny_pure (wpAny_throw (hE _ _ (((Heap.SameBut.update ..).extBut.push _).push _) ⟨_,Heap.get?_push_size _ rfl,rfl⟩)))
def Kp4 (z TO i1 i2 : Addr) (h h' : Heap) : Prop := ∀ c o,c ≠ z → c ≠ TO → c ≠ i1 → c ≠ i2 → h.get? c = some o → h'.get? c = some o
theorem zipT_end {z TI TO i1 i2 l1 l2 : Addr} {k1 : Nat} {xs : Array Value} {a b : Value} {Q : Option Value → Shared → Prop} (hh : A.handled = none) (D : ZipApart z TI TO i1 i2 l1 l2) (kz : IsZip s.heap z TI TO .none) (kI : IsPair s.heap TI (.ref i1) (.ref i2)) (kO : IsPair s.heap TO a b)
    (j1 : s.heap.IsTupleIter i1 l1 k1) (t1 : s.heap.IsTuple l1 xs) (hx : xs[k1]? = none) (hQ : ∀ h',Kp4 z TO i1 i2 s.heap h' → Q none { s with heap := h' }) : wpAny (model prog w) A (pyNext (.ref z)) Q E s := by
  have tz : s.TypeIs (.ref z) "zip" := ⟨_,kz,rfl⟩
  unfold pyNext
  refine wpAny_bind (wpAny_attempt (wpAny_callSpecial?_slot (name := Str.ofString "__next__") tz PySem.F.slot_zip_next (wpAny_call_entry PySem.F.slot_zip_next tz PySem.F.entry_zip_next ?_ (PySem.F.args_zip_next_1 _))))
  show wpAny _ _ (field (.ref z) 2 >>= _) _ _ _; refine wpAny_bind (wpAny_field kz rfl (x := .bool false) rfl ?_)
  show wpAny _ _ (field (.ref z) 3 >>= _) _ _ _; refine wpAny_bind (wpAny_field kz rfl (x := .ref TI) rfl (wpAny_bind (wpAny_seqItems kI rfl ?_)))
  show wpAny _ _ (Builtin.SmallTypes.ownedTupleIsFree (.ref z) >>= _) _ _ _; refine wpAny_bind ?_; unfold Builtin.SmallTypes.ownedTupleIsFree
  refine wpAny_bind (wpAny_field kz rfl (x := .none) rfl (wpAny_pure ?_)); simp only [if_true]
  refine wpAny_bind (wpAny_rule (wpAny_bind (wpAny_field kz rfl (x := .ref TO) rfl (wpAny_bind (wpAny_setField_rec kz (by simp) fun ha kza ba => wpAny_bind ?_)))))
  replace kza : IsZip ha z TI TO .ellipsis := kza
  simp only [List.zipIdx_cons,List.zipIdx_nil,List.forIn_cons,List.forIn_nil]
  refine wpAny_bind (wpAny_bind (wpAny_onRaise ?_)); show wpAny _ _ (Builtin.SmallTypes.nextOf (.ref i1) >>= _) _ _ _
  refine wpAny_bind (nextT_end hh (j1.extBut ba.extBut D.i1z) (t1.extBut ba.extBut D.l1z) hx fun hb e bb ⟨oe,ge,ce⟩ => ?_)
  have kzb : IsZip hb z TI TO .ellipsis := bb _ _ D.i1z.symm kza
  have ne : e ≠ z := fun q => by subst q; rw [kzb] at ge; cases ge; simp at ce
  refine wpAny_setField_rec kzb (by simp) fun hc _ bc => ?_
  refine wpAny_bind (wpAny_isInstance (T := "StopIteration") (b := true) ⟨oe,bc.extBut _ _ ne ge,ce⟩ isSubtype_stop ?_)
  exact wpAny_pure (hQ _ fun c o n1 _ n3 _ q => bc.extBut _ _ n1 (bb _ _ n3 (ba.extBut _ _ n1 q)))
end
abbrev zt1 (h : Heap) (l1 : Addr) : Heap := h.push { cls := .type "tuple_iterator",data := .fields #[.ref l1,.int 0 0] }
section
variable {prog : Program} {w : World} {A : Around} {E : Value → Shared → Prop} {s : Shared}
end
section
variable {X : Cx} {elts : List Expr} {k : Nat} {tp : Pos}
end
end L2
namespace L2
open PySem PySem.Spec PyProof.Rows
section
variable {X : Cx} {elts : List Expr} {k : Nat} {tp : Pos}
end
end L2
namespace L2
open PySem PySem.Spec PyProof.Rows
section
variable {prog : Program} {w : World} {A : Around} {E : Value → Shared → Prop} {s : Shared}
theorem tup_ne_it {h : Heap} {t it : Addr} {its : Array Value} {i : Nat} (p : h.IsTuple t its) (q : h.IsTupleIter it t i) : t ≠ it := fun z => by
  obtain ⟨o,ho,hc,_⟩ := q
  obtain ⟨o',ho',hc',_⟩ := p
  rw [z,ho] at ho'
  cases ho'
  rw [hc] at hc'
  exact absurd hc' (by decide)
theorem enum_ne_tup {h : Heap} {e it t : Addr} {its : Array Value} {i : Int} {old : Value} (q : IsEnum h e it i old) (p : h.IsTuple t its) : e ≠ t := fun z => by
  obtain ⟨o',ho',hc',_⟩ := p
  rw [← z,q] at ho'
  cases ho'
  exact absurd (show Value.type "enumerate" = Value.type "tuple" from hc') (by decide)
theorem drawsT (hh : A.handled = none) {it t : Addr} (hne : t ≠ it) (its : Array Value) : Draws prog w A it [it,t] its.size (fun i v => its[i]? = some v) (fun i h => h.IsTupleIter it t i ∧ h.IsTuple t its) where
  live := fun _ _ st => by
    obtain ⟨⟨o,ho,_⟩,_⟩ := st
    exact ⟨o,ho⟩
  frame := fun _ _ _ st hk => ⟨st.1.at fun o e => hk it (by simp) o e,st.2.at fun o e => hk t (by simp) o e⟩
  item := fun i s Q E hi st hQ => nextT_item st.1 st.2 (x := its[i]) (by simp [hi]) fun h' j sb => hQ _ h' s.toks (by simp [hi]) ⟨j,st.2.extBut sb.extBut hne⟩ sb
  done := fun s Q E st hE => nextT_end hh st.1 st.2 (by simp) hE
abbrev et1 (h : Heap) (t : Addr) : Heap := h.push { cls := .type "tuple_iterator",data := .fields #[.ref t,.int 0 0] }
abbrev et2 (h : Heap) (t : Addr) : Heap := (et1 h t).push { cls := .type "enumerate",data := .fields #[.none,.bool false,.ref h.objs.size,rawInt 0,.none,.none] }
theorem enumT_new (t : Addr) (its : Array Value) :
    Meets (Builtin.«enumerate.__new__» ⟨[.type "enumerate",.ref t],[]⟩) (fun _ R s => s.heap.IsTuple t its ∧ R (.ok (.ret (.ref (et1 s.heap t).objs.size))) { s with heap := et2 s.heap t }) :=
  .of_wp fun prog w A R s h => by
    obtain ⟨hp,g,d,tk,os⟩ := s; obtain ⟨g1,h⟩ := h
    have hsub := sub_enumerate
    have a1 : Heap.IsTuple (Shared.heap ⟨hp,g,d,tk,os⟩) t its := g1
    obtain ⟨⟨oc,od,odt,osl⟩,hl,hc,n,hd⟩ := id g1
    replace hc : oc = .type "tuple" := hc
    replace hd : odt = .seq its n := hd
    subst hc hd
    wp_walk using AutoSeq1.wpAny_loadPart' hl
    refine wpAny_stack_any fun st => wpAny_pure ?_
    split
    · rename_i c _ _ _ _ _
      cases (c == Value.type "enumerate")
      · wp_walk using AutoSeq1.wpAny_loadPart' hl,wpAny_pyIter_tuple a1
        exact ⟨_,rfl,h⟩
      · wp_walk using AutoSeq1.wpAny_loadPart' hl,wpAny_pyIter_tuple a1
        exact ⟨_,rfl,h⟩
    · wp_walk using AutoSeq1.wpAny_loadPart' hl,wpAny_pyIter_tuple a1
      exact ⟨_,rfl,h⟩
theorem call_enumT {t : Addr} {its : Array Value} {Q : Value → Shared → Prop} (g1 : s.heap.IsTuple t its)
    (h : ∀ h',IsEnum h' (s.heap.objs.size + 1) s.heap.objs.size 0 .none → h'.IsTupleIter s.heap.objs.size t 0 → (∀ c o,s.heap.get? c = some o → h'.get? c = some o) → Q (.ref (s.heap.objs.size + 1)) { s with heap := h' }) :
    wpAny (model prog w) A (call (.type "enumerate") [.ref t]) Q E s := by
  refine callType_new PySem.F.called_enumerate (by decide) (PySem.F.typeCall_enumerate_1 _) (PySem.F.newCall_enumerate_1 _) (fun obj => PySem.F.args_object_init_2 obj _) PySem.F.entry_enumerate_new (enumT_new t its) ⟨g1,?_⟩
  have n1 : (et1 s.heap t).objs.size = s.heap.objs.size + 1 := Heap.size_push ..
  have q2 : (et2 s.heap t).get? (et1 s.heap t).objs.size = some _ := Heap.get?_push_size _ rfl
  have q1 : (et2 s.heap t).get? s.heap.objs.size = some _ := Heap.get?_push_of_some _ (Heap.get?_push_size _ rfl)
  show _ ∧ _
  rw [n1] at q2
  rw [n1]
  exact ⟨⟨_,q2,rfl⟩,h _ q2 ⟨_,q1,rfl,rfl⟩ fun c o q => Heap.get?_push_of_some _ (Heap.get?_push_of_some _ q)⟩
end
def Itet (K : PySem.W.Frag) (a : Addr) : It :=
  ⟨fun i H => ∃ xs x,SqT K H a xs ∧ xs[i]? = some x,fun i H v H' => ∃ T x,(∀ xs,SqT K H a xs → xs[i]? = some x) ∧ H T = none ∧ v = .ref T ∧ H' = upd H T (.tup [.int (i : Nat),x]),fun i H => ∃ xs,SqT K H a xs ∧ xs.length = i⟩
theorem turn_enumT {P : Program} {w : World} {K : PySem.W.Frag} {elts : List Expr} {k : Nat} {tp : Pos} (l e it : Addr) (hei : e ≠ it) : Turn P w K (.Tuple elts k tp) (Itet K l) [e,it] e (fun i h => (∃ old,IsEnum h e it ((i : Nat) : Int) old) ∧ h.IsTupleIter it l i) where
  mem := by simp
  obj := fun i h st b hb => by
    obtain ⟨⟨old,he⟩,o,ho,hc,hd⟩ := st
    simp only [List.mem_cons,List.not_mem_nil,or_false] at hb
    rcases hb with rfl | rfl
    · exact ⟨_,he,fun v z => by cases z⟩
    · exact ⟨o,ho,fun v z => by rw [hd] at z; cases z⟩
  keep := fun i h h' st kp => ⟨⟨_,kp e (by simp) _ st.1.choose_spec⟩,st.2.at fun o q => kp it (by simp) o q⟩
  item := by
    intro X hP hw hK hc i pins s σ H E I hf st hg
    subst hP hw hK
    obtain ⟨xs,x,hq,hx⟩ := hg
    obtain ⟨its,rv,p,hz⟩ := I.tuple hq
    obtain ⟨u,hu,ru⟩ := rv.get hx
    obtain ⟨⟨old,he⟩,hit⟩ := st
    have hlt : ∀ b ∈ [e,it],b ≠ s.heap.objs.size := fun b hb z => by
      simp only [List.mem_cons,List.not_mem_nil,or_false] at hb
      rcases hb with rfl | rfl
      · exact absurd (z ▸ Heap.lt_size he) (Nat.lt_irrefl _)
      · obtain ⟨_,ho,_⟩ := hit
        exact absurd (z ▸ Heap.lt_size ho) (Nat.lt_irrefl _)
    have fr : H s.heap.objs.size = none := I.hok.fresh (Nat.le_refl _)
    have p' : s.heap.IsTuple l its.toArray := p
    have hlen := rv.length
    have hil := (List.getElem?_eq_some_iff.mp hx).1
    refine wpAny_pyNext_enum_itemD (drawsT (show X.A.in1.handled = none from I.ok.hd hc) (tup_ne_it p' hit) its.toArray) he ⟨hit,p'⟩ (by rw [List.size_toArray]; omega) hei (by
      simp only [List.mem_cons,List.not_mem_nil,or_false,not_or]
      exact ⟨hei,enum_ne_tup he p'⟩) fun y h' tk hy ho hit2 hT hsz hk => ?_
    have hit' := hit2.1
    have ey : y = u := by
      rw [List.getElem?_toArray,hu] at hy
      exact (Option.some.inj hy).symm
    subst ey
    have I1 : Inv X pins σ H { s with heap := h',toks := tk + 1 } := I.turnedL (wr := [e,it]) (fun b o hb q => hk b o (fun z => hb (by simp [z])) (fun z => hb (by simp [z])) q) hf
    have I2 : Inv X pins σ (upd H s.heap.objs.size (.tup [.int (i : Nat),x])) { s with heap := h',toks := tk + 1 } := I.tracked I1 (Nat.le_refl _) ⟨by show 2 ≤ sizeLine; decide,[.int i tk,y],.cons ⟨_,rfl⟩ (.cons ru .nil),⟨_,hT,rfl,_,rfl⟩⟩
    have hf2 : ∀ b ∈ [e,it],FpOk X pins (upd H s.heap.objs.size (.tup [.int (i : Nat),x])) b := fun b hb => by
      obtain ⟨f0,f1,f2,f3,f4,f5⟩ := hf b hb
      exact ⟨by rw [upd_ne (hlt b hb)]; exact f0,f1,f2,f3,f4,f5⟩
    refine ⟨_,rfl,wpAny_letOwnedTupleGo_enum ho fun h'' he' hs' => ?_⟩
    refine ⟨.ref s.heap.objs.size,_,I2.turnedL (wr := [e]) (t' := tk + 1) (fun b o hb q => (hs'.2 b (fun z => hb (by simp [z]))).trans q) (fun b hb => hf2 b (by rw [List.mem_singleton.mp hb]; simp)),rfl,⟨_,x,fun ys hy => by rw [I.tuple_inj hy hq]; exact hx,fr,rfl,rfl⟩,⟨⟨_,by simpa using he'⟩,hit'.at fun o q => (hs'.2 it hei.symm).trans q⟩,fun b hb => (hf2 b hb).1⟩
  done := by
    intro X hP hw hK hc i pins s σ H E I hf st hg
    subst hP hw hK
    obtain ⟨xs,hq,hx⟩ := hg
    obtain ⟨its,rv,p,hz⟩ := I.tuple hq
    have hl := rv.length
    obtain ⟨⟨old,he⟩,hit⟩ := st
    have p' : s.heap.IsTuple l its.toArray := p
    have hsz : its.toArray.size = i := by rw [List.size_toArray]; omega
    have D := drawsT (prog := X.prog) (w := X.w) (show X.A.in1.handled = none from I.ok.hd hc) (tup_ne_it p' hit) its.toArray
    rw [hsz] at D
    exact wpAny_pyNext_enum_endD D he ⟨hit,p'⟩ fun h' eb => ⟨rfl,I.turnedL (wr := [it]) (t' := s.toks) (fun b o hb q => eb b o (fun z => hb (by simp [z])) q) (fun b hb => hf b (by rw [List.mem_singleton.mp hb]; simp))⟩
  self := fun _ _ _ _ _ st h => wpAny_pyIter_enum st.1.choose_spec h
section
variable {X : Cx} {elts : List Expr} {k : Nat} {tp : Pos}
def iEnumT (K : PySem.W.Frag) (ta : TA) : TI := fun σ H R => ta σ H fun vs H1 => ∃ a,vs = [.ref a] ∧ (∃ xs,SqT K H1 a xs) ∧ R (Itet K a) H1
theorem pi_enumT {a : Expr} {ta : TA} {p pos : Pos} (hg : Gl X "enumerate") (hm : X.mg "enumerate" = none) (ha : PA X [a] ta) (hs : starEach [a] X.env = [(false,eval a X.env)] := by rfl) : PI X (.Tuple elts k tp) (.Call (.Name "enumerate" p) [a] [] pos) (iEnumT X.K ta) := by
  intro pins s σ H R I h
  refine Call_ (ld_blt I hg hm (show bootBuiltins "enumerate" = some (.type "enumerate") by decide +kernel) (PyProof.Rows.callWith_type1 (thn (ha pos pins s σ H _ I h) fun us s1 ⟨vs,H1,I1,r1,q1⟩ => ?_) (by rw [hs]; rfl) (by rfl)))
  obtain ⟨a,e,⟨xs,hq⟩,q⟩ := q1
  subst e
  obtain ⟨u,rfl,rx⟩ := vals1 r1
  cases rx
  obtain ⟨its,rv,pl,hz⟩ := I1.tuple hq
  refine call_enumT pl fun h' he hit kp => ?_
  have I2 : Inv X pins σ H1 { s1 with heap := h' } := I1.kept (t' := s1.toks) kp
  refine wpAny_pyIter_enum he ?_
  refine ⟨s1.heap.objs.size + 1,[s1.heap.objs.size + 1,s1.heap.objs.size],_,_,H1,rfl,I2,turn_enumT a _ _ (Nat.succ_ne_self _),⟨⟨_,he⟩,hit⟩,fun b hb => ?_,q⟩
  simp only [List.mem_cons,List.not_mem_nil,or_false] at hb
  rcases hb with rfl | rfl
  · exact I1.fpOk (Nat.le_succ _) (I1.hok.fresh (Nat.le_succ _))
  · exact I1.fpOk (Nat.le_refl _) (I1.hok.fresh (Nat.le_refl _))
theorem qi_enumT {a : Expr} {ta : TA} {p pos : Pos} (hg : Gl X "enumerate") (hm : X.mg "enumerate" = none) (ha : QA X [a] ta) (hs : starEach [a] X.env = [(false,eval a X.env)] := by rfl) : QI X (.Tuple elts k tp) (.Call (.Name "enumerate" p) [a] [] pos) (iEnumT X.K ta) := ⟨pi_enumT hg hm ha.h hs⟩
end
theorem for_enumT {K : PySem.W.Frag} {a : Addr} {xs : List V} {g : TG} {tb : TS} {D : Ends} {σ : St} {H : Hp} (Pv : Nat → St → Hp → Prop) (h0 : Pv 0 σ H) (hl : ∀ i σ H,i ≤ xs.length → Pv i σ H → SqT K H a xs)
    (hs : ∀ i x T σ H,xs[i]? = some x → Pv i σ H → H T = none → g (.ref T) σ (upd H T (.tup [.int (i : Nat),x])) fun σ2 H2 => tb { D with nx := Pv (i + 1),ct := Pv (i + 1),bk := D.nx } σ2 H2) (hd : ∀ σ H,Pv xs.length σ H → D.nx σ H) :
    ∃ W : Nat → Nat → St → Hp → Prop,(∃ m,W 0 m σ H) ∧ ∀ i m σ H,W i m σ H →
      ((Itet K a).stop i H ∧ D.nx σ H) ∨ ((Itet K a).go i H ∧ ∃ N : St → Hp → Prop,(∀ σ' H',N σ' H' → ∃ m',m' < m ∧ W (i + 1) m' σ' H') ∧ ∀ x H',(Itet K a).yld i H x H' → g x σ H' fun σ2 H2 => tb { D with nx := N,ct := N,bk := D.nx } σ2 H2) := by
  refine ⟨fun i m σ H => m = xs.length - i ∧ i ≤ xs.length ∧ Pv i σ H,⟨xs.length,by simp,Nat.zero_le _,h0⟩,?_⟩
  rintro i m σ H ⟨rfl,hi,p⟩
  have q := hl i σ H hi p
  by_cases hlt : i < xs.length
  · refine .inr ⟨⟨xs,xs[i],q,by simp [hlt]⟩,Pv (i + 1),fun σ' H' p' => ⟨xs.length - (i + 1),by omega,rfl,hlt,p'⟩,fun v H' y => ?_⟩
    obtain ⟨T,x,hx,hT,rfl,rfl⟩ := y
    exact hs i x T σ _ (hx xs q) p hT
  · have e : i = xs.length := by omega
    subst e
    exact .inl ⟨⟨xs,q,rfl⟩,hd σ H p⟩
end L2
namespace L2
open PySem PySem.Spec PyProof.Rows
section
variable {prog : Program} {w : World} {A : Around} {E : Value → Shared → Prop} {s : Shared}
end
end L2
namespace L2
open PySem PySem.Spec PyProof.Rows
abbrev et2K (h : Heap) (t : Addr) (k : Nat) : Heap := (et1 h t).push { cls := .type "enumerate",data := .fields #[.none,.bool false,.ref h.objs.size,rawInt ((k : Nat) : Int),.none,.none] }
theorem initKw {T newId : String} {self a : Value} {kw : List (Str × Value)} (hl : typeLookup (.type T) "__init__" = pure (some (.builtin "object.__init__"))) (hm : Bind.madeBy (.type T) = pure (some newId)) (hne : (some newId != some "object.__new__") = true) :
    Meets (Builtin.«object.__init__» ⟨[self,a],kw⟩) (fun _ R s => s.TypeIs self T ∧ R (.ok (.ret .none)) s) := .of_wp fun prog w A R s hs => by
  obtain ⟨hT,hq⟩ := hs
  repeat (any_goals (first | assumption | wp_step))
  exact ⟨_,rfl,hq⟩
theorem fits_small {k : Nat} (hk : k < 1000) : (!Builtin.SmallTypes.fitsIndex ((k : Nat) : Int)) = false := by
  simp [Builtin.SmallTypes.fitsIndex]
  omega
theorem enumK_new (t : Addr) (its : Array Value) (k : Nat) (kt : Tok) (hk : k < 1000) :
    Meets (Builtin.«enumerate.__new__» ⟨[.type "enumerate",.ref t],[("start",.int ((k : Nat) : Int) kt)]⟩) (fun _ R s => s.heap.IsTuple t its ∧ R (.ok (.ret (.ref (et1 s.heap t).objs.size))) { s with heap := et2K s.heap t k }) :=
  .of_wp fun prog w A R s h => by
    obtain ⟨hp,g,d,tk,os⟩ := s; obtain ⟨g1,h⟩ := h
    have hsub := sub_enumerate
    have a1 : Heap.IsTuple (Shared.heap ⟨hp,g,d,tk,os⟩) t its := g1
    obtain ⟨⟨oc,od,odt,osl⟩,hl,hc,n,hd⟩ := id g1
    replace hc : oc = .type "tuple" := hc
    replace hd : odt = .seq its n := hd
    subst hc hd
    have hfit := fits_small hk
    wp_walk using AutoSeq1.wpAny_loadPart' hl
    refine wpAny_stack_any fun st => wpAny_pure ?_
    split
    · rename_i c _ _ _ _ _
      cases (c == Value.type "enumerate")
      · simp only [Bool.false_eq_true,if_false]
        refine wpAny_bind ?_; refine wpAny_of_eq (a := (Value.ref t,some (Value.int ((k : Nat) : Int) kt))) ?_ ?_
        · kernel_rfl
        revert hfit
        generalize Builtin.SmallTypes.fitsIndex = fi
        intro hfi
        wp_walk using wpAny_pyIter_tuple a1
        exact ⟨_,rfl,h⟩
      · simp only [if_true]
        refine wpAny_bind ?_; refine wpAny_of_eq (a := (Value.ref t,some (Value.int ((k : Nat) : Int) kt))) ?_ ?_
        · kernel_rfl
        revert hfit
        generalize Builtin.SmallTypes.fitsIndex = fi
        intro hfi
        wp_walk using wpAny_pyIter_tuple a1
        exact ⟨_,rfl,h⟩
    · simp only [Bool.false_eq_true,if_false]
      refine wpAny_bind ?_; refine wpAny_of_eq (a := (Value.ref t,some (Value.int ((k : Nat) : Int) kt))) ?_ ?_
      · kernel_rfl
      revert hfit
      generalize Builtin.SmallTypes.fitsIndex = fi
      intro hfi
      wp_walk using wpAny_pyIter_tuple a1
      exact ⟨_,rfl,h⟩
section
variable {prog : Program} {w : World} {A : Around} {E : Value → Shared → Prop} {s : Shared}
theorem callKw {T newId : String} {Bn : Builtin} {a : Value} {kw : List (Str × Value)} {S : PySem.Spec} {Q : Value → Shared → Prop} (ft : TypeCalled T newId "object.__init__") (hne : (some newId != some "object.__new__") = true)
    (hct : checkTypeCall T ⟨[a],kw⟩ = pure ()) (hcn : checkBuiltinCall newId ⟨[.type T,a],kw⟩ = pure ()) (hok : ∀ obj,argsOk "object.__init__" ⟨[obj,a],kw⟩) (entryN : entryFor table newId = some Bn) (g : Meets (Bn ⟨[.type T,a],kw⟩) S)
    (h : S A.in1 (wants (fun obj s1 => s1.TypeIs obj T ∧ Q obj s1) E) s) : wpAny (model prog w) A (call (.type T) [a] kw) Q E s := by
  obtain ⟨c,tl,hmro⟩ := ft.mro
  have hmade := ft.made; have hsub := ft.sub; have h1 := ft.notType; have h2 := ft.canCreate
  refine wpAny_call (codeAny_of_tree ?_); show wpAny _ _ (callAny (.type T) _) _ _ _
  refine wpAny_pure ⟨Code.quiet_builtin _ (by decide +kernel),codeAny_builtin PySem.F.entry_type_call ?_⟩
  rw [Around.under_plain (weight_type_call_type T [a] kw) (units_type_call_type T [a] kw)]
  repeat (any_goals (first | assumption | wp_step))
  refine codeAny_mono (codeAny_call_builtin ft.plain entryN (wpAny_of_eq hcn (g prog w A.in1 _ s h))) fun r s1 hr => ?_
  cases r with
  | error e => exact hr
  | ok fl =>
    cases fl with
    | ret obj =>
      obtain ⟨hT,hq0⟩ := hr
      have hli := ft.init.lookup; have hbi := ft.init.bind obj
      repeat (any_goals (first | assumption | wp_step))
      refine codeAny_mono (codeAny_call_builtin ft.init.plain PySem.F.entry_object_init (ft.init.check _ _ _ _ _ _ _ _ hT (hok obj) (initKw ft.init.lookup ft.made hne prog w A.in1 (wants (fun r s2 => r = .none ∧ Q obj s2) E) s1 ⟨hT,rfl,hq0⟩))) fun r2 s2 hr2 => ?_
      cases r2 with
      | error e => exact hr2
      | ok fl2 =>
        cases fl2 with
        | ret r =>
          obtain ⟨rfl,hq⟩ := hr2
          repeat (any_goals (first | assumption | wp_step))
        | _ => exact hr2.elim
    | _ => exact hr.elim
end
theorem drawsK {prog : Program} {w : World} {A : Around} {it : Addr} {fp : List Addr} {n : Nat} {Pd : Nat → Value → Prop} {St : Nat → Heap → Prop} (k0 : Nat) (D : Draws prog w A it fp n Pd St) : Draws prog w A it fp (k0 + n) (fun i v => Pd (i - k0) v) (fun i h => k0 ≤ i ∧ St (i - k0) h) where
  live := fun i h st => D.live _ _ st.2
  frame := fun i h h' st hk => ⟨st.1,D.frame _ _ _ st.2 hk⟩
  item := fun i s Q E hi st hQ => D.item (i - k0) s Q E (by have := st.1; omega) st.2 fun x h' tk hp hst hs => hQ x h' tk hp ⟨Nat.le_trans st.1 (Nat.le_succ _),by rw [show i + 1 - k0 = i - k0 + 1 by have := st.1; omega]; exact hst⟩ hs
  done := fun s Q E st hE => D.done s Q E (by have h2 := st.2; rw [Nat.add_sub_cancel_left] at h2; exact h2) hE
section
variable {prog : Program} {w : World} {A : Around} {E : Value → Shared → Prop} {s : Shared}
theorem call_enumK {t : Addr} {its : Array Value} {k : Nat} {kt : Tok} {Q : Value → Shared → Prop} (hk : k < 1000) (g1 : s.heap.IsTuple t its)
    (h : ∀ h',IsEnum h' (s.heap.objs.size + 1) s.heap.objs.size ((k : Nat) : Int) .none → h'.IsTupleIter s.heap.objs.size t 0 → (∀ c o,s.heap.get? c = some o → h'.get? c = some o) → Q (.ref (s.heap.objs.size + 1)) { s with heap := h' }) :
    wpAny (model prog w) A (call (.type "enumerate") [.ref t] [("start",.int ((k : Nat) : Int) kt)]) Q E s := by
  refine callKw PySem.F.called_enumerate (by decide) (by kernel_rfl) (by kernel_rfl) (fun obj => by unfold argsOk; rw [signature?_of (id := "object.__init__") (n := ['_', '_', 't', 'i', 'n', 'i', '_', '_']) (o := ['t', 'c', 'e', 'j', 'b', 'o']) (by kernel_rfl) PySem.F.owner_object]; kernel_rfl) PySem.F.entry_enumerate_new (enumK_new t its k kt hk) ⟨g1,?_⟩
  have n1 : (et1 s.heap t).objs.size = s.heap.objs.size + 1 := Heap.size_push ..
  have q2 : (et2K s.heap t k).get? (et1 s.heap t).objs.size = some _ := Heap.get?_push_size _ rfl
  have q1 : (et2K s.heap t k).get? s.heap.objs.size = some _ := Heap.get?_push_of_some _ (Heap.get?_push_size _ rfl)
  show _ ∧ _
  rw [n1] at q2
  rw [n1]
  exact ⟨⟨_,q2,rfl⟩,h _ q2 ⟨_,q1,rfl,rfl⟩ fun c o q => Heap.get?_push_of_some _ (Heap.get?_push_of_some _ q)⟩
end
section
variable {M : Model} {A : Around} {E : Value → Shared → Prop} {s : Shared} {env : Env}
theorem callWithTK {pos : Pos} {T : String} {e : Expr} {rest : List Expr} {kws : List Keyword} {Q : Value → Shared → Prop}
    (h : wpAny M A (spliced (backTo pos (starEach (e :: rest) env))) (fun vs s1 => wpAny M A (evalAll ((backToKw pos (keywordEach kws env)).map (·.2))) (fun kvs s2 => wpAny M A (call (.type T) vs (((backToKw pos (keywordEach kws env)).filterMap (·.1)).zip kvs)) Q E s2) E s1) E s)
    (he : backTo pos (starEach (e :: rest) env) = (false,eval e env) :: backTo pos (starEach rest env)) (hplain : (backTo pos (starEach (e :: rest) env)).any (·.1) = false) (hall : (backToKw pos (keywordEach kws env)).all (·.1.isSome) = true) (hkw : (backToKw pos (keywordEach kws env)).any (·.1.isNone) = false) :
    wpAny M A (callWith pos (.type T) [] (backTo pos (starEach (e :: rest) env)) (backToKw pos (keywordEach kws env))) Q E s := by
  have h0 : wpAny M A (evalArgs (.type T) true (backTo pos (starEach (e :: rest) env)) (backToKw pos (keywordEach kws env))) (fun a s1 => wpAny M A (call (.type T) ([] ++ a.pos) a.kw) Q E s1) E s := by
    rw [he] at h ⊢
    exact evalArgs_kwB hall h
  unfold callWith
  refine wpAny_bind (wpAny_holding (wpAny_mono h0 (fun a s1 h1 => wpAny_bind (wpAny_standAt ?_)) fun _ _ x => x)); simp only [hplain,hkw,Bool.or_false]
  exact wpAny_bind (wpAny_pure (wpAny_bind (wpAny_mono h1 (fun r s2 hr => wpAny_bind (wpAny_holding (wpAny_point (wpAny_pure hr)))) fun _ _ x => x)))
end
def Itek (K : PySem.W.Frag) (a : Addr) (k0 : Nat) : It :=
  ⟨fun i H => ∃ xs x,SqT K H a xs ∧ xs[i]? = some x,fun i H v H' => ∃ T x,(∀ xs,SqT K H a xs → xs[i]? = some x) ∧ H T = none ∧ v = .ref T ∧ H' = upd H T (.tup [.int ((k0 + i : Nat) : Int),x]),fun i H => ∃ xs,SqT K H a xs ∧ xs.length = i⟩
theorem turn_enumK {k0 : Nat} {P : Program} {w : World} {K : PySem.W.Frag} {elts : List Expr} {k : Nat} {tp : Pos} (l e it : Addr) (hei : e ≠ it) : Turn P w K (.Tuple elts k tp) (Itek K l k0) [e,it] e (fun i h => (∃ old,IsEnum h e it ((k0 + i : Nat) : Int) old) ∧ h.IsTupleIter it l i) where
  mem := by simp
  obj := fun i h st b hb => by
    obtain ⟨⟨old,he⟩,o,ho,hc,hd⟩ := st
    simp only [List.mem_cons,List.not_mem_nil,or_false] at hb
    rcases hb with rfl | rfl
    · exact ⟨_,he,fun v z => by cases z⟩
    · exact ⟨o,ho,fun v z => by rw [hd] at z; cases z⟩
  keep := fun i h h' st kp => ⟨⟨_,kp e (by simp) _ st.1.choose_spec⟩,st.2.at fun o q => kp it (by simp) o q⟩
  item := by
    intro X hP hw hK hc i pins s σ H E I hf st hg
    subst hP hw hK
    obtain ⟨xs,x,hq,hx⟩ := hg
    obtain ⟨its,rv,p,hz⟩ := I.tuple hq
    obtain ⟨u,hu,ru⟩ := rv.get hx
    obtain ⟨⟨old,he⟩,hit⟩ := st
    have hlt : ∀ b ∈ [e,it],b ≠ s.heap.objs.size := fun b hb z => by
      simp only [List.mem_cons,List.not_mem_nil,or_false] at hb
      rcases hb with rfl | rfl
      · exact absurd (z ▸ Heap.lt_size he) (Nat.lt_irrefl _)
      · obtain ⟨_,ho,_⟩ := hit
        exact absurd (z ▸ Heap.lt_size ho) (Nat.lt_irrefl _)
    have fr : H s.heap.objs.size = none := I.hok.fresh (Nat.le_refl _)
    have p' : s.heap.IsTuple l its.toArray := p
    have hlen := rv.length
    have hil := (List.getElem?_eq_some_iff.mp hx).1
    refine wpAny_pyNext_enum_itemD (drawsK k0 (drawsT (show X.A.in1.handled = none from I.ok.hd hc) (tup_ne_it p' hit) its.toArray)) he ⟨Nat.le_add_right _ _,by rw [Nat.add_sub_cancel_left]; exact ⟨hit,p'⟩⟩ (by rw [List.size_toArray]; omega) hei (by
      simp only [List.mem_cons,List.not_mem_nil,or_false,not_or]
      exact ⟨hei,enum_ne_tup he p'⟩) fun y h' tk hy ho hit2 hT hsz hk => ?_
    have hit3 := hit2.2
    rw [show k0 + i + 1 - k0 = i + 1 by omega] at hit3
    have hit' := hit3.1
    rw [Nat.add_sub_cancel_left] at hy
    have ey : y = u := by
      rw [List.getElem?_toArray,hu] at hy
      exact (Option.some.inj hy).symm
    subst ey
    have I1 : Inv X pins σ H { s with heap := h',toks := tk + 1 } := I.turnedL (wr := [e,it]) (fun b o hb q => hk b o (fun z => hb (by simp [z])) (fun z => hb (by simp [z])) q) hf
    have I2 : Inv X pins σ (upd H s.heap.objs.size (.tup [.int ((k0 + i : Nat) : Int),x])) { s with heap := h',toks := tk + 1 } := I.tracked I1 (Nat.le_refl _) ⟨by show 2 ≤ sizeLine; decide,[.int ((k0 + i : Nat) : Int) tk,y],.cons ⟨_,rfl⟩ (.cons ru .nil),⟨_,hT,rfl,_,rfl⟩⟩
    have hf2 : ∀ b ∈ [e,it],FpOk X pins (upd H s.heap.objs.size (.tup [.int ((k0 + i : Nat) : Int),x])) b := fun b hb => by
      obtain ⟨f0,f1,f2,f3,f4,f5⟩ := hf b hb
      exact ⟨by rw [upd_ne (hlt b hb)]; exact f0,f1,f2,f3,f4,f5⟩
    refine ⟨_,rfl,wpAny_letOwnedTupleGo_enum ho fun h'' he' hs' => ?_⟩
    refine ⟨.ref s.heap.objs.size,_,I2.turnedL (wr := [e]) (t' := tk + 1) (fun b o hb q => (hs'.2 b (fun z => hb (by simp [z]))).trans q) (fun b hb => hf2 b (by rw [List.mem_singleton.mp hb]; simp)),rfl,⟨_,x,fun ys hy => by rw [I.tuple_inj hy hq]; exact hx,fr,rfl,rfl⟩,⟨⟨_,by rw [show ((k0 + (i + 1) : Nat) : Int) = ((k0 + i : Nat) : Int) + 1 by omega]; exact he'⟩,hit'.at fun o q => (hs'.2 it hei.symm).trans q⟩,fun b hb => (hf2 b hb).1⟩
  done := by
    intro X hP hw hK hc i pins s σ H E I hf st hg
    subst hP hw hK
    obtain ⟨xs,hq,hx⟩ := hg
    obtain ⟨its,rv,p,hz⟩ := I.tuple hq
    have hl := rv.length
    obtain ⟨⟨old,he⟩,hit⟩ := st
    have p' : s.heap.IsTuple l its.toArray := p
    have hsz : its.toArray.size = i := by rw [List.size_toArray]; omega
    have D := drawsT (prog := X.prog) (w := X.w) (show X.A.in1.handled = none from I.ok.hd hc) (tup_ne_it p' hit) its.toArray
    rw [hsz] at D
    exact wpAny_pyNext_enum_endD D he ⟨hit,p'⟩ fun h' eb => ⟨rfl,I.turnedL (wr := [it]) (t' := s.toks) (fun b o hb q => eb b o (fun z => hb (by simp [z])) q) (fun b hb => hf b (by rw [List.mem_singleton.mp hb]; simp))⟩
  self := fun _ _ _ _ _ st h => wpAny_pyIter_enum st.1.choose_spec h
section
variable {X : Cx} {elts : List Expr} {k : Nat} {tp : Pos}
def iEnumK (K : PySem.W.Frag) (ta tk : TA) : TI := fun σ H R => ta σ H fun vs H1 => tk σ H1 fun zs H2 => ∃ (a : Addr) (k0 : Nat),vs = [.ref a] ∧ zs = [.int ((k0 : Nat) : Int)] ∧ k0 < 1000 ∧ (∃ xs,SqT K H2 a xs) ∧ R (Itek K a k0) H2
theorem pi_enumK {a e : Expr} {ta tk : TA} {p pos kpos : Pos} (hg : Gl X "enumerate") (hm : X.mg "enumerate" = none) (ha : PA X [a] ta) (hkw : PK X [⟨some "start",e,kpos⟩] tk) (hs : starEach [a] X.env = [(false,eval a X.env)] := by rfl) : PI X (.Tuple elts k tp) (.Call (.Name "enumerate" p) [a] [⟨some "start",e,kpos⟩] pos) (iEnumK X.K ta tk) := by
  intro pins s σ H R I h
  refine wpAny_Call_Name_kw (ld_blt I hg hm (show bootBuiltins "enumerate" = some (.type "enumerate") by decide +kernel) (callWithTK (thn (ha pos pins s σ H _ I h) fun us s1 ⟨vs,H1,I1,r1,q1⟩ => thn (hkw pos pins s1 σ H1 _ I1 q1) fun ks s2 ⟨zs,H2,I2,r2,q2⟩ => ?_) (by rw [hs]; rfl) (by rw [hs]; rfl) (by rfl) (by rfl)))
  obtain ⟨b,k0,e1,e2,hk0,⟨xs,hq⟩,q⟩ := q2
  subst e1 e2
  obtain ⟨u,rfl,rx⟩ := vals1 r1
  cases rx
  obtain ⟨u2,rfl,rx2⟩ := vals1 r2
  obtain ⟨tk,rfl⟩ := rx2
  obtain ⟨its,rv,pl,hz⟩ := I2.tuple hq
  show wpAny _ _ (call (.type "enumerate") [.ref b] [("start",.int ((k0 : Nat) : Int) tk)]) _ _ _
  refine call_enumK hk0 pl fun h' he hit kp => ?_
  have I3 : Inv X pins σ H2 { s2 with heap := h' } := I2.kept (t' := s2.toks) kp
  refine wpAny_pyIter_enum he ⟨s2.heap.objs.size + 1,[s2.heap.objs.size + 1,s2.heap.objs.size],_,_,H2,rfl,I3,turn_enumK (k0 := k0) b _ _ (Nat.succ_ne_self _),⟨⟨_,he⟩,hit⟩,fun c hc => ?_,q⟩
  simp only [List.mem_cons,List.not_mem_nil,or_false] at hc
  rcases hc with rfl | rfl
  · exact I2.fpOk (Nat.le_succ _) (I2.hok.fresh (Nat.le_succ _))
  · exact I2.fpOk (Nat.le_refl _) (I2.hok.fresh (Nat.le_refl _))
theorem qi_enumK {a e : Expr} {ta te : TE} {p pos kpos : Pos} (hg : Gl X "enumerate") (hm : X.mg "enumerate" = none) (ha : QE X a ta) (hk : QE X e te) (hs : notStar a = true := by rfl) : QI X (.Tuple elts k tp) (.Call (.Name "enumerate" p) [a] [⟨some "start",e,kpos⟩] pos) (iEnumK X.K (tCons ta tNil) (tCons te tNil)) := ⟨pi_enumK hg hm (qac ha qa_nil hs).h (pk_cons hk.h pk_nil) (starEach_cons hs)⟩
end
theorem for_enumK {k0 : Nat} {K : PySem.W.Frag} {a : Addr} {xs : List V} {g : TG} {tb : TS} {D : Ends} {σ : St} {H : Hp} (Pv : Nat → St → Hp → Prop) (h0 : Pv 0 σ H) (hl : ∀ i σ H,i ≤ xs.length → Pv i σ H → SqT K H a xs)
    (hs : ∀ i x T σ H,xs[i]? = some x → Pv i σ H → H T = none → g (.ref T) σ (upd H T (.tup [.int ((k0 + i : Nat) : Int),x])) fun σ2 H2 => tb { D with nx := Pv (i + 1),ct := Pv (i + 1),bk := D.nx } σ2 H2) (hd : ∀ σ H,Pv xs.length σ H → D.nx σ H) :
    ∃ W : Nat → Nat → St → Hp → Prop,(∃ m,W 0 m σ H) ∧ ∀ i m σ H,W i m σ H →
      ((Itek K a k0).stop i H ∧ D.nx σ H) ∨ ((Itek K a k0).go i H ∧ ∃ N : St → Hp → Prop,(∀ σ' H',N σ' H' → ∃ m',m' < m ∧ W (i + 1) m' σ' H') ∧ ∀ x H',(Itek K a k0).yld i H x H' → g x σ H' fun σ2 H2 => tb { D with nx := N,ct := N,bk := D.nx } σ2 H2) := by
  refine ⟨fun i m σ H => m = xs.length - i ∧ i ≤ xs.length ∧ Pv i σ H,⟨xs.length,by simp,Nat.zero_le _,h0⟩,?_⟩
  rintro i m σ H ⟨rfl,hi,p⟩
  have q := hl i σ H hi p
  by_cases hlt : i < xs.length
  · refine .inr ⟨⟨xs,xs[i],q,by simp [hlt]⟩,Pv (i + 1),fun σ' H' p' => ⟨xs.length - (i + 1),by omega,rfl,hlt,p'⟩,fun v H' y => ?_⟩
    obtain ⟨T,x,hx,hT,rfl,rfl⟩ := y
    exact hs i x T σ _ (hx xs q) p hT
  · have e : i = xs.length := by omega
    subst e
    exact .inl ⟨⟨xs,q,rfl⟩,hd σ H p⟩
end L2
namespace L2
open PySem PySem.Spec PyProof.Rows
section
variable {κ : Type} [DecidableEq κ]
end


section
variable {P : Program} {w : World} {H : Hp} {h : Heap} {a : Addr}
end

section
variable {X : Cx} {pins : List (Addr × Obj)} {σ : St} {H : Hp} {s : Shared} {a : Addr} {y v : V} {u r : Value} {o : Option V} {A : Around} {E : Value → Shared → Prop}


end

section
variable {X : Cx} {pins : List (Addr × Obj)} {σ : St} {H : Hp} {s : Shared} {a : Addr} {kvs : List (Key × V)} {k : Key} {u : Value} {A : Around} {E : Value → Shared → Prop}
end


section
variable {X : Cx} {o i e value : Expr} {pos pos' tpos : Pos} {td ty tv : TE}
end
section
variable {X : Cx} {pos : Pos}
end
end L2
namespace L2
open PySem PySem.Spec PyProof.Rows
section
variable {X : Cx} {o i value : Expr} {pos pos' : Pos} {td ty tv : TE}
end
end L2
namespace L2
open PySem PySem.Spec PyProof.Rows
section
variable {X : Cx} {o e : Expr} {es : List Expr} {to : TE} {t : TA} {apos cpos : Pos}
end
end L2
namespace L2
open PySem PySem.Spec PyProof.Rows
theorem qe_fn {X : Cx} {x : Str} {f : Addr} {pos : Pos} (hg : Gl X x) (hm : X.mg x = some (.ref f)) (hd : (x == ("__debug__" : Str)) = false := by decide) : QE X (.Name x pos) (tC (.ref f)) := ⟨pe_glob hg hm rfl hd⟩
def tCallV (W : Addr → Sp → Prop) (E : XK) (tf : TE) (t : TA) : TE := fun σ H Q => tf σ H fun x H1 => ∃ f sp,x = .ref f ∧ W f sp ∧ t σ H1 fun vs H2 => sp vs H2 Q E
theorem pe_callV {X : Cx} {CX : CXT} {k : Nat} {W : Addr → Sp → Prop} {E : XK} {fe e : Expr} {es : List Expr} {tf : TE} {t : TA} {pos : Pos} (hf : PE X fe tf)
    (hW : ∀ f sp,W f sp → ∃ fd ps,PySem.W.keepIn X.K (.ref f) = true ∧ Binds X.K fd ps [] ∧ FnOk X.prog X.w X.K X.mg X.base CX k f fd ps sp) (hr : Room k X.A) (hx : Passes CX X E) (ha : PA X (e :: es) t)
    (hev : eval (.Call fe (e :: es) [] pos) X.env = (do callWith pos (← eval fe X.env) [] (backTo pos (starEach (e :: es) X.env)) (backToKw pos (keywordEach [] X.env))) := by rfl)
    (he : starEach (e :: es) X.env = (false,eval e X.env) :: starEach es X.env := by rfl) (hpl : (backTo pos (starEach es X.env)).any (·.1) = false := by rfl) :
    PE X (.Call fe (e :: es) [] pos) (tCallV W E tf t) := by
  intro pins s σ H Q I h
  rw [hev]
  refine wpAny_bind (thn (hf pins s σ H _ I h) fun v s1 ⟨x,H1,I1,r1,f,sp,e1,hw,q1⟩ => ?_)
  subst e1
  cases r1
  obtain ⟨fd,ps,hk,hb,F⟩ := hW f sp hw
  refine PySem.W.callWith_K (h₀ := X.base) I1.ok.mod.kin hk (thn (ha pos pins s1 σ H1 _ I1 q1) fun us s2 ⟨vs,H2,I2,r,q⟩ => ⟨I2.kIn,?_⟩) he hpl
  exact run_fn F hr hb .nil hx I2 r (by simpa using q)
theorem qe_callV {X : Cx} {CX : CXT} {k : Nat} {W : Addr → Sp → Prop} {E : XK} {fe e : Expr} {es : List Expr} {tf : TE} {t : TA} {pos : Pos} (hf : QE X fe tf)
    (hW : ∀ f sp,W f sp → ∃ fd ps,PySem.W.keepIn X.K (.ref f) = true ∧ Binds X.K fd ps [] ∧ FnOk X.prog X.w X.K X.mg X.base CX k f fd ps sp) (hr : Room k X.A) (hx : Passes CX X E) (ha : QA X (e :: es) t)
    (hev : eval (.Call fe (e :: es) [] pos) X.env = (do callWith pos (← eval fe X.env) [] (backTo pos (starEach (e :: es) X.env)) (backToKw pos (keywordEach [] X.env))) := by rfl)
    (he : starEach (e :: es) X.env = (false,eval e X.env) :: starEach es X.env := by rfl) (hpl : (backTo pos (starEach es X.env)).any (·.1) = false := by rfl) :
    QE X (.Call fe (e :: es) [] pos) (tCallV W E tf t) := ⟨pe_callV hf.h hW hr hx ha.h hev he hpl⟩
end L2
namespace L2
open PySem PySem.Spec PyProof.Rows
section
variable {prog : Program} {w : World} {A : Around} {E : Value → Shared → Prop} {s : Shared}
end
theorem rv_slot_next : Slot "reversed" "__next__" "reversed.__next__" := .of (owner := "reversed") (n := "__next__") (by rw [typeLookup_type,builtinLookup_eq_fast]; kernel_rfl) (by decide +kernel) (by decide +kernel) (by decide +kernel) (by first | exact .inl (by decide +kernel) | exact .inr (by decide +kernel)) (by rw [isSubtype_type]; kernel_rfl)
theorem rv_slot_iter : Slot "reversed" "__iter__" "reversed.__iter__" := .of (owner := "reversed") (n := "__iter__") (by rw [typeLookup_type,builtinLookup_eq_fast]; kernel_rfl) (by decide +kernel) (by decide +kernel) (by decide +kernel) (by first | exact .inl (by decide +kernel) | exact .inr (by decide +kernel)) (by rw [isSubtype_type]; kernel_rfl)
theorem rv_entry_next : entryFor table "reversed.__next__" = some Builtin.«reversed.__next__» := entryFor_of_tree (by kernel_rfl)
theorem rv_entry_iter : entryFor table "reversed.__iter__" = some Builtin.«dict_keyiterator.__iter__» := entryFor_alias (id' := "dict_keyiterator.__iter__") (by kernel_rfl) (by first | rfl | decide +kernel | (unfold String.splitOn; simp +decide [String.splitOnAux])) (by decide +kernel) (by kernel_rfl)
theorem rv_args_next (a : Value) : argsOk "reversed.__next__" ⟨[a],[]⟩ := by unfold argsOk; kernel_rfl
theorem rv_args_iter (a : Value) : argsOk "reversed.__iter__" ⟨[a],[]⟩ := by unfold argsOk; kernel_rfl
theorem rv_no_tuple : typeLookup (.type "tuple") "__reversed__" = pure none := by rw [typeLookup_type,builtinLookup_eq_fast]; kernel_rfl
theorem rv_sub_tuple : isSubtype (.type "tuple") (.type "dict") = pure false := by rw [isSubtype_type]; kernel_rfl
theorem rv_slot_init : Slot "reversed" "__init__" "object.__init__" := .of (owner := "object") (n := "__init__") (by rw [typeLookup_type,builtinLookup_eq_fast]; kernel_rfl) (by decide +kernel) (by decide +kernel) (by decide +kernel) (by first | exact .inl (by decide +kernel) | exact .inr (by decide +kernel)) (by rw [isSubtype_type]; kernel_rfl)
theorem rv_called : TypeCalled "reversed" "reversed.__new__" "object.__init__" := ⟨by decide +kernel,by decide +kernel,⟨_,_,PySem.F.mro_reversed⟩,PySem.F.made_reversed,by decide +kernel,by rw [isSubtype_type]; kernel_rfl,rv_slot_init⟩
def IsRvT (h : Heap) (it l : Addr) (i : Int) : Prop := ∃ o,h.get? it = some o ∧ o.cls = .type "reversed" ∧ o.data = .fields #[.ref l,rawInt i]
def rvObj (l : Addr) (i : Int) : Obj := { cls := .type "reversed",data := .fields #[.ref l,rawInt i] }
section
variable {prog : Program} {w : World} {A : Around} {E : Value → Shared → Prop} {s : Shared}
theorem IsRvT.ty {it l : Addr} {i : Int} (x : IsRvT s.heap it l i) : s.TypeIs (.ref it) "reversed" := let ⟨o,e,c,_⟩ := x; ⟨o,e,c⟩
theorem rv_new {l : Addr} {items : Array Value} {Q₁ : Value → Shared → Prop} (hl : IsTup s.heap l items) (hz : items.size ≤ sizeLine)
    (h : ∀ tk,Q₁ (.ref s.heap.objs.size) { s with heap := s.heap.push (rvObj l ((items.size : Int) - 1)),toks := tk }) :
    codeAny (model prog w) A (.call (.builtin "reversed.__new__") ⟨[.type "reversed",.ref l],[]⟩) (wants Q₁ E) s := by
  have hn := line63
  refine codeAny_of_tree ?_
  show wpAny _ A.in1 (do checkBuiltinCall "reversed.__new__" ⟨[.type "reversed",.ref l],[]⟩; again (.builtin "reversed.__new__" ⟨[.type "reversed",.ref l],[]⟩)) _ _ s
  refine wpAny_bind (wpAny_of_eq (PySem.F.newCall_reversed_1 _) (wpAny_pure ⟨plainId_quiet PySem.F.plain_reversed_new _,codeAny_builtin PySem.F.entry_reversed_new ?_⟩))
  rw [Around.under_plainId PySem.F.plain_reversed_new _]
  unfold Builtin.«reversed.__new__»
  refine wpAny_bind (wpAny_of_eq (PySem.newClass_reversed _) ?_)
  try dsimp only
  refine wpAny_bind (wpAny_of_eq (a := ()) (by first | rfl | kernel_rfl) (wpAny_bind (wpAny_of_eq (a := ()) (by first | rfl | kernel_rfl) ?_)))
  try dsimp only
  refine wpAny_bind (wpAny_specialOf hl.typeIs rv_no_tuple ?_)
  try dsimp only
  refine wpAny_bind ?_
  show wpAny _ _ (isInstance (.ref l) (.type "dict") >>= _) _ _ s
  refine wpAny_bind (wpAny_isInstance hl.typeIs rv_sub_tuple ?_)
  try dsimp only
  rw [if_neg (by decide)]
  refine wpAny_bind (wpAny_specialOf hl.typeIs PyProof.Rows.slot_tuple_getitem.lookup ?_)
  try dsimp only
  rw [if_pos (by decide +kernel)]
  refine wpAny_pure ?_
  try dsimp only
  rw [if_neg (by decide)]
  refine wpAny_bind (len_tuple hl (by omega) ?_)
  show wpAny _ _ (pure (some (items.size : Int)) >>= _) _ _ _
  refine wpAny_bind (wpAny_pure ?_)
  try dsimp only
  show wpAny _ _ (newObj (.type "reversed") (.fields #[.ref l,rawInt ((items.size : Int) - 1)]) >>= _) _ _ _
  refine wpAny_bind (wpAny_newObj_type ?_ (by size_fits))
  first
  | exact wpAny_pure (h _)
  | exact wpAny_bind (wpAny_pure (wpAny_pure (h _)))
theorem rv_call {l : Addr} {items : Array Value} {Q : Value → Shared → Prop} (hl : IsTup s.heap l items) (hz : items.size ≤ sizeLine)
    (h : ∀ tk,Q (.ref s.heap.objs.size) { s with heap := s.heap.push (rvObj l ((items.size : Int) - 1)),toks := tk }) : wpAny (model prog w) A (call (.type "reversed") [.ref l]) Q E s := by
  refine callType_codes (T := "reversed") (Bi := Builtin.«object.__init__») (Q₁ := fun r s₁ => r = .ref s.heap.objs.size ∧ ∃ tk,s₁ = { s with heap := s.heap.push (rvObj l ((items.size : Int) - 1)),toks := tk }) rv_called (PySem.F.typeCall_reversed_1 _) PySem.F.entry_object_init
    (rv_new hl hz fun tk => ⟨rfl,tk,rfl⟩) ?_
  rintro obj s₁ ⟨rfl,tk,rfl⟩
  have hT : ({ s with heap := s.heap.push (rvObj l ((items.size : Int) - 1)),toks := tk } : Shared).TypeIs (.ref s.heap.objs.size) "reversed" := ⟨_,Heap.get?_push_size _ rfl,rfl⟩
  exact ⟨hT,PySem.F.args_object_init_2 _ _,object_init_meets rv_called.init.lookup rv_called.made (by decide) prog w A.in1 _ _ ⟨hT,rfl,h tk⟩⟩
theorem rv_next {it l : Addr} {i : Nat} {items : Array Value} {x : Value} {Q : Option Value → Shared → Prop} (hit : IsRvT s.heap it l (i : Int)) (hl : IsTup s.heap l items) (hx : items[i]? = some x) (hz : items.size ≤ sizeLine)
    (hQ : ∀ h' tk,IsRvT h' it l ((i : Int) - 1) → Heap.SameBut it s.heap h' → Q (some x) { s with heap := h',toks := tk }) : wpAny (model prog w) A (pyNext (.ref it)) Q E s := by
  have hn := line63
  obtain ⟨o,ho,hc,hd⟩ := id hit
  have hi : i < items.size := (Array.getElem?_eq_some_iff.mp hx).1
  unfold pyNext
  refine wpAny_bind (wpAny_attempt (wpAny_callSpecial?_slot (name := Str.ofString "__next__") hit.ty rv_slot_next (wpAny_call_entry rv_slot_next hit.ty rv_entry_next ?_ (rv_args_next _))))
  unfold Builtin.«reversed.__next__»
  refine wpAny_bind (wpAny_of_eq (a := (Value.ref it,[])) rfl ?_)
  try dsimp only
  refine wpAny_bind (wpAny_field ho hd (x := .ref l) rfl (wpAny_bind (wpAny_field ho hd (x := rawInt (i : Int)) rfl ?_)))
  show wpAny _ _ (if (i : Int) < 0 then _ else _) _ _ s
  rw [if_neg (by omega)]
  refine wpAny_bind (wpAny_specialOf hl.typeIs PyProof.Rows.slot_tuple_getitem.lookup ?_)
  try dsimp only
  rw [if_neg (by decide)]
  refine wpAny_bind (wpAny_mkInt ?_)
  have hsq : seqIndex? (i : Int) items.size = some i := by
    unfold seqIndex?
    simp
    omega
  refine wpAny_bind (wpAny_attempt (PyProof.Rows.getItem_tuple (s := { s with toks := s.toks + 1 }) (k := (i : Int)) (j := i) hl (by omega) (by omega) hsq hx ?_))
  try dsimp only
  refine wpAny_bind (wpAny_field (s := { s with toks := s.toks + 1 }) ho hd (x := rawInt (i : Int)) rfl ?_)
  show wpAny _ _ (setField (.ref it) 1 (rawInt ((i : Int) - 1)) >>= _) _ _ _
  refine wpAny_bind (wpAny_setField (s := { s with toks := s.toks + 1 }) ho hd (by simp) ?_)
  have hend : Q (some x) { s with heap := s.heap.update it (Obj.mapFields fun vs => vs.setIfInBounds 1 (rawInt ((i : Int) - 1))),toks := s.toks + 1 } := hQ _ _ ⟨_,Heap.get?_update_self _ ho (Obj.isFreed_of_fields (Obj.data_mapFields hd _)),(Obj.cls_mapFields ..).trans hc,by rw [Obj.data_mapFields hd]; simp⟩ (Heap.SameBut.update ..)
  first
  | exact wpAny_pure ⟨x,rfl,wpAny_pure hend⟩
  | exact wpAny_bind (wpAny_pure (wpAny_pure ⟨x,rfl,wpAny_pure hend⟩))
theorem rv_end {it l : Addr} {Q : Option Value → Shared → Prop} (hh : A.handled = none) (hit : IsRvT s.heap it l (-1)) (hQ : ∀ h',Heap.ExtBut it s.heap h' → Q none { s with heap := h' }) : wpAny (model prog w) A (pyNext (.ref it)) Q E s := by
  obtain ⟨o,ho,hc,hd⟩ := id hit
  unfold pyNext
  refine wpAny_bind (wpAny_attempt (wpAny_callSpecial?_slot (name := Str.ofString "__next__") hit.ty rv_slot_next (wpAny_call_entry rv_slot_next hit.ty rv_entry_next ?_ (rv_args_next _))))
  unfold Builtin.«reversed.__next__»
  refine wpAny_bind (wpAny_of_eq (a := (Value.ref it,[])) rfl ?_)
  try dsimp only
  refine wpAny_bind (wpAny_field ho hd (x := .ref l) rfl (wpAny_bind (wpAny_field ho hd (x := rawInt (-1)) rfl ?_)))
  show wpAny _ _ (if (-1 : Int) < 0 then _ else _) _ _ s
  rw [if_pos (by decide)]
  refine wpAny_bind (wpAny_rule ?_)
  refine wpAny_bind ?_
  show wpAny _ _ (setField (.ref it) 1 (rawInt (-1)) >>= fun _ => setField (.ref it) 0 .none) _ _ s
  refine wpAny_bind (wpAny_setField ho hd (by simp) ?_)
  have ho2 : (s.heap.update it (Obj.mapFields fun vs => vs.setIfInBounds 1 (rawInt (-1)))).get? it = some (Obj.mapFields (fun vs => vs.setIfInBounds 1 (rawInt (-1))) o) := Heap.get?_update_self _ ho (Obj.isFreed_of_fields (Obj.data_mapFields hd _))
  refine wpAny_setField (s := { s with heap := s.heap.update it (Obj.mapFields fun vs => vs.setIfInBounds 1 (rawInt (-1))) }) ho2 (Obj.data_mapFields hd _) (by simp) ?_
  have hb : Heap.ExtBut it s.heap ((s.heap.update it (Obj.mapFields fun vs => vs.setIfInBounds 1 (rawInt (-1)))).update it (Obj.mapFields fun vs => vs.setIfInBounds 0 .none)) := fun b u hne e => by
    rw [(Heap.SameBut.update ..).2 b hne,(Heap.SameBut.update ..).2 b hne]
    exact e
  generalize (s.heap.update it (Obj.mapFields fun vs => vs.setIfInBounds 1 (rawInt (-1)))).update it (Obj.mapFields fun vs => vs.setIfInBounds 0 .none) = h2 at hb ⊢
  refine wpAny_bind ?_
  show wpAny _ _ (newExc (.type "StopIteration") [] >>= fun x => raiseNew x) _ _ _
  refine wpAny_bind ?_
  simp only [newExc,newTuple]
  refine wpAny_bind (wpAny_newObj_type (wpAny_bind (m := firstArgMember _ _) (wpAny_of_eq (a := Value.none) (by first | rfl | (simp only [firstArgMember]; rfl)) (wpAny_newObj_type ?_ (by size_fits)))) (by size_fits))
  simp only [raiseNew]
  refine wpAny_bind (wpAny_handled ?_)
  first | rw [show A.in1.handled = none from hh] | rw [hh]
  refine wpAny_bind (wpAny_pure (wpAny_throw ?out))
  case out => exact wpAny_bind (wpAny_isInstance (T := "StopIteration") (b := true) ⟨_,Heap.get?_push_size _ rfl,rfl⟩ isSubtype_stop (wpAny_pure (hQ _ ((hb.push _).push _))))
theorem rv_iter {it l : Addr} {i : Int} {Q : Value → Shared → Prop} (hit : IsRvT s.heap it l i) (h : Q (.ref it) s) : wpAny (model prog w) A (pyIter (.ref it)) Q E s := by
  refine wpAny_pyIter_slot hit.ty rv_slot_iter (wpAny_call_entry rv_slot_iter hit.ty rv_entry_iter ?_ (rv_args_iter _))
  show wpAny _ _ (ret (.ref it)) _ _ s
  exact wpAny_pure ⟨_,rfl, "reversed",_,hit.ty,rv_slot_next.lookup,h⟩
end
def ItRv (K : PySem.W.Frag) (a : Addr) (n : Nat) : It :=
  ⟨fun i H => (∃ xs x,SqT K H a xs ∧ xs.length = n ∧ xs.reverse[i]? = some x),fun i H v H' => H' = H ∧ ∀ xs,SqT K H a xs → xs.reverse[i]? = some v,fun i H => ∃ xs,SqT K H a xs ∧ xs.length = n ∧ i = n⟩
theorem turn_rev {P : Program} {w : World} {K : PySem.W.Frag} {tg : Expr} (a it : Addr) (n : Nat) : Turn P w K tg (ItRv K a n) [it] it (fun i h => IsRvT h it a ((n : Int) - 1 - (i : Int))) where
  mem := by simp
  obj := fun i h st b hb => by
    have e : b = it := by simpa using hb
    subst e
    obtain ⟨o,e,c,d⟩ := st
    exact ⟨o,e,fun v z => by rw [d] at z; cases z⟩
  keep := fun i h h' st k => let ⟨o,e,r⟩ := st; ⟨o,k it (by simp) o e,r⟩
  item := by
    intro X hP hw hK hc i pins s σ H E I hf st hg
    subst hP hw hK
    obtain ⟨xs,x,hq,hn,hx⟩ := hg
    obtain ⟨its,rv,p,hz⟩ := I.tuple hq
    have hlt : i < xs.length := by
      have := (List.getElem?_eq_some_iff.mp hx).1
      rwa [List.length_reverse] at this
    have hx' : xs[xs.length - 1 - i]? = some x := by rw [← hx,List.getElem?_reverse hlt]
    obtain ⟨u,hu,ru⟩ := rv.get hx'
    have hl := rv.length
    obtain ⟨f0,f1,f2,f3,f4,f5⟩ := hf it (by simp)
    have st2 : IsRvT s.heap it a ((xs.length - 1 - i : Nat) : Int) := by
      have e : ((xs.length - 1 - i : Nat) : Int) = (n : Int) - 1 - (i : Int) := by omega
      rw [e]
      exact st
    refine rv_next st2 p (x := u) (by simpa using hu) (by rw [List.size_toArray]; omega) fun h' tk st' sb => ?_
    have I1 : Inv X pins σ H { s with heap := h',toks := tk } := I.turned (t' := tk) (fun b o hb e => (sb.2 b hb).trans e) f0 f1 f3 f4 f5
    obtain ⟨o,e,c,d⟩ := id st'
    refine ⟨u,rfl,go_of (s := { s with heap := h',toks := tk }) e c d (by decide) ⟨x,H,I1,ru,⟨rfl,fun ys hy => by rw [I.tuple_inj hy hq]; exact hx⟩,?_,fun b hb => (hf b hb).1⟩⟩
    have e2 : ((xs.length - 1 - i : Nat) : Int) - 1 = (n : Int) - 1 - ((i + 1 : Nat) : Int) := by omega
    rw [e2] at st'
    exact st'
  done := by
    intro X hP hw hK hc i pins s σ H E I hf st hg
    subst hP hw hK
    obtain ⟨xs,hq,hn,hi⟩ := hg
    obtain ⟨f0,f1,f2,f3,f4,f5⟩ := hf it (by simp)
    have st2 : IsRvT s.heap it a (-1) := by
      have e : (-1 : Int) = (n : Int) - 1 - (i : Int) := by omega
      rw [e]
      exact st
    exact rv_end (I.ok.hd hc) st2 fun h' eb => ⟨rfl,I.turned (t' := s.toks) (fun b o hb e => eb b o hb e) f0 f1 f3 f4 f5⟩
  self := fun _ _ _ _ _ st h => rv_iter st h
def iRevT (K : PySem.W.Frag) (ta : TA) : TI := fun σ H R => ta σ H fun vs H1 => ∃ a xs,vs = [.ref a] ∧ SqT K H1 a xs ∧ R (ItRv K a xs.length) H1
theorem pi_revT {X : Cx} {tg a : Expr} {ta : TA} {p pos : Pos} (hg : Gl X "reversed") (hm : X.mg "reversed" = none) (ha : PA X [a] ta) (hs : starEach [a] X.env = [(false,eval a X.env)] := by rfl) : PI X tg (.Call (.Name "reversed" p) [a] [] pos) (iRevT X.K ta) := by
  intro pins s σ H R I h
  refine Call_ (ld_blt I hg hm (show bootBuiltins "reversed" = some (.type "reversed") by decide +kernel) (PyProof.Rows.callWith_type1 (thn (ha pos pins s σ H _ I h) fun us s1 ⟨vs,H1,I1,r1,q1⟩ => ?_) (by rw [hs]; rfl) (by rfl)))
  obtain ⟨a,xs,e,hq,q⟩ := q1
  subst e
  obtain ⟨u,rfl,rx⟩ := vals1 r1
  cases rx
  obtain ⟨its,rv,pl,hz⟩ := I1.tuple hq
  have hlen := rv.length
  refine rv_call pl (by rw [List.size_toArray]; omega) fun tk => ?_
  have I2 : Inv X pins σ H1 { s1 with heap := s1.heap.push (rvObj a ((its.toArray.size : Int) - 1)),toks := tk } := I1.kept (t' := tk) fun b o q => Heap.get?_push_of_some _ q
  have hrv : IsRvT (s1.heap.push (rvObj a ((its.toArray.size : Int) - 1))) s1.heap.objs.size a ((xs.length : Int) - 1 - ((0 : Nat) : Int)) := ⟨_,Heap.get?_push_size _ rfl,rfl,by show Data.fields #[.ref a,rawInt ((its.toArray.size : Int) - 1)] = _; rw [List.size_toArray,← hlen]; simp⟩
  refine rv_iter (s := { s1 with heap := s1.heap.push (rvObj a ((its.toArray.size : Int) - 1)),toks := tk }) hrv ?_
  refine ⟨s1.heap.objs.size,[s1.heap.objs.size],_,_,H1,rfl,I2,turn_rev a _ xs.length,hrv,fun b hb => ?_,q⟩
  rw [List.mem_singleton.mp hb]
  exact I1.fpOk (Nat.le_refl _) (I1.hok.fresh (Nat.le_refl _))
theorem qi_revT {X : Cx} {tg a : Expr} {ta : TA} {p pos : Pos} (hg : Gl X "reversed") (hm : X.mg "reversed" = none) (ha : QA X [a] ta) (hs : starEach [a] X.env = [(false,eval a X.env)] := by rfl) : QI X tg (.Call (.Name "reversed" p) [a] [] pos) (iRevT X.K ta) := ⟨pi_revT hg hm ha.h hs⟩
theorem for_rev {K : PySem.W.Frag} {a : Addr} {xs : List V} {g : TG} {tb : TS} {D : Ends} {σ : St} {H : Hp} (Pv : Nat → St → Hp → Prop) (h0 : Pv 0 σ H) (hl : ∀ i σ H,i ≤ xs.length → Pv i σ H → SqT K H a xs)
    (hs : ∀ i x σ H,xs.reverse[i]? = some x → Pv i σ H → g x σ H fun σ2 H2 => tb { D with nx := Pv (i + 1),ct := Pv (i + 1),bk := D.nx } σ2 H2) (hd : ∀ σ H,Pv xs.length σ H → D.nx σ H) :
    ∃ W : Nat → Nat → St → Hp → Prop,(∃ m,W 0 m σ H) ∧ ∀ i m σ H,W i m σ H →
      ((ItRv K a xs.length).stop i H ∧ D.nx σ H) ∨ ((ItRv K a xs.length).go i H ∧ ∃ N : St → Hp → Prop,(∀ σ' H',N σ' H' → ∃ m',m' < m ∧ W (i + 1) m' σ' H') ∧ ∀ x H',(ItRv K a xs.length).yld i H x H' → g x σ H' fun σ2 H2 => tb { D with nx := N,ct := N,bk := D.nx } σ2 H2) := by
  refine ⟨fun i m σ H => m = xs.length - i ∧ i ≤ xs.length ∧ Pv i σ H,⟨xs.length,by simp,Nat.zero_le _,h0⟩,?_⟩
  rintro i m σ H ⟨rfl,hi,p⟩
  have q := hl i σ H hi p
  by_cases hlt : i < xs.length
  · refine .inr ⟨⟨xs,xs.reverse[i]'(by rw [List.length_reverse]; exact hlt),q,rfl,List.getElem?_eq_getElem _⟩,Pv (i + 1),fun σ' H' p' => ⟨xs.length - (i + 1),by omega,rfl,hlt,p'⟩,fun v H' y => ?_⟩
    obtain ⟨rfl,hx⟩ := y
    exact hs i v σ _ (hx xs q) p
  · have e : i = xs.length := by omega
    subst e
    exact .inl ⟨⟨xs,q,rfl,rfl⟩,hd σ H p⟩
end L2
namespace L2
open PySem PySem.Spec PyProof.Rows
def Mp (P : Program) (w : World) (K : PySem.W.Frag) (mg : Str → Option Value) (base : Heap) (CX : CXT) (k : Nat) (C : Addr) (m : Str) (ps : List Str) (sp : Sp) : Prop :=
  ∃ (f : Addr) (fd : FuncData),Meth K C m f ∧ Binds K fd ps [] ∧ FnOk P w K mg base CX k f fd ps sp
section
variable {X : Cx} {CX : CXT} {k : Nat} {C : Addr} {m : Str} {ps : List Str} {sp : Sp} {E : XK} {pos apos : Pos} {e o : Expr} {es : List Expr} {ta : TE} {t : TA}
theorem qe_methP {pl : Sem Bool} (h : Mp X.prog X.w X.K X.mg X.base CX k C m ps sp) (c : Cls X.K C) (hr : Room k X.A) (he : QE X o ta) (hx : Passes CX X E) (ha : QA X (e :: es) t)
    (hst : starEach (e :: es) X.env = (false,eval e X.env) :: starEach es X.env := by rfl) (hpl : (backTo pos (starEach es X.env)).any (·.1) = false := by rfl)
    (ht : eval (.Call (.Attribute o m apos) (e :: es) [] pos) X.env = (do
      let ov ← eval o X.env; standAt apos.atName; let (f,first) ← holding [ov] (getMethod ov m pl)
      callWith pos f first (backTo pos (starEach (e :: es) X.env)) (backToKw pos (keywordEach [] X.env))) := by rfl) :
    QE X (.Call (.Attribute o m apos) (e :: es) [] pos) (tMeth C m sp [] E ta t) := by
  obtain ⟨f,fd,hm,hb,F⟩ := h
  exact ⟨pe_meth he.h c hm F hr hb .nil hx ha.h hst hpl ht⟩
theorem qe_methP0 {pl : Sem Bool} (h : Mp X.prog X.w X.K X.mg X.base CX k C m ps sp) (c : Cls X.K C) (hr : Room k X.A) (he : QE X o ta) (hx : Passes CX X E)
    (ht : eval (.Call (.Attribute o m apos) [] [] pos) X.env = (do
      let ov ← eval o X.env; standAt apos.atName; let (f,first) ← holding [ov] (getMethod ov m pl)
      callWith pos f first (backTo pos (starEach [] X.env)) (backToKw pos (keywordEach [] X.env))) := by rfl) :
    QE X (.Call (.Attribute o m apos) [] [] pos) (tMeth C m sp [] E ta tNil) := by
  obtain ⟨f,fd,hm,hb,F⟩ := h
  exact ⟨pe_meth0 he.h c hm F hr hb .nil hx ht⟩
def Mkp (P : Program) (w : World) (K : PySem.W.Frag) (mg : Str → Option Value) (base : Heap) (CX : CXT) (k : Nat) (x : Str) (C : Addr) (ps : List Str) (sp : Sp) : Prop :=
  ∃ (f : Addr) (fd : FuncData),mg x = some (.ref C) ∧ Mk K C f ∧ Binds K fd ps [] ∧ FnOk P w K mg base CX k f fd ps sp
theorem qe_makeP {x : Str} {p : Pos} (h : Mkp X.prog X.w X.K X.mg X.base CX k x C ps sp) (hr : Room (k + 1) X.A) (hg : Gl X x) (hx : Passes CX X E) (ha : QA X (e :: es) t) (hdb : (x == ("__debug__" : Str)) = false := by decide)
    (he : starEach (e :: es) X.env = (false,eval e X.env) :: starEach es X.env := by rfl) (hpl : (backTo pos (starEach es X.env)).any (·.1) = false := by rfl) : QE X (.Call (.Name x p) (e :: es) [] pos) (tMake C sp [] E t) := by
  obtain ⟨f,fd,hm,M,hb,F⟩ := h
  exact ⟨pe_make M F hr hg hm hb .nil hx ha.h hdb he hpl⟩
end
end L2
namespace L2
open PySem PySem.Spec PyProof.Rows
section
variable {prog : Program} {w : World} {A : Around} {E : Value → Shared → Prop} {s : Shared}
end
end L2
namespace L2
open PySem PySem.Spec PyProof.Rows
section
variable {prog : Program} {w : World} {A : Around} {E : Value → Shared → Prop} {s : Shared}
theorem zipTT_item {z TI TO i1 i2 l1 l2 : Addr} {k1 k2 : Nat} {xs ys : Array Value} {x y a b : Value} {Q : Option Value → Shared → Prop} (D : ZipApart z TI TO i1 i2 l1 l2) (kz : IsZip s.heap z TI TO .none) (kI : IsPair s.heap TI (.ref i1) (.ref i2)) (kO : IsPair s.heap TO a b)
    (j1 : s.heap.IsTupleIter i1 l1 k1) (j2 : s.heap.IsTupleIter i2 l2 k2) (t1 : s.heap.IsTuple l1 xs) (t2 : s.heap.IsTuple l2 ys) (hx : xs[k1]? = some x) (hy : ys[k2]? = some y)
    (hQ : ∀ h',IsZip h' z TI TO (rawInt s.heap.objs.size) → IsPair h' TO x y → h'.IsTupleIter i1 l1 (k1 + 1) → h'.IsTupleIter i2 l2 (k2 + 1) → IsPair h' s.heap.objs.size x y → Kp4 z TO i1 i2 s.heap h' → Q (some (.ref s.heap.objs.size)) { s with heap := h' }) :
    wpAny (model prog w) A (pyNext (.ref z)) Q E s := by
  have tz : s.TypeIs (.ref z) "zip" := ⟨_,kz,rfl⟩
  unfold pyNext
  refine wpAny_bind (wpAny_attempt (wpAny_callSpecial?_slot (name := Str.ofString "__next__") tz PySem.F.slot_zip_next (wpAny_call_entry PySem.F.slot_zip_next tz PySem.F.entry_zip_next ?_ (PySem.F.args_zip_next_1 _))))
  show wpAny _ _ (field (.ref z) 2 >>= _) _ _ _; refine wpAny_bind (wpAny_field kz rfl (x := .bool false) rfl ?_)
  show wpAny _ _ (field (.ref z) 3 >>= _) _ _ _; refine wpAny_bind (wpAny_field kz rfl (x := .ref TI) rfl (wpAny_bind (wpAny_seqItems kI rfl ?_)))
  show wpAny _ _ (Builtin.SmallTypes.ownedTupleIsFree (.ref z) >>= _) _ _ _; refine wpAny_bind ?_; unfold Builtin.SmallTypes.ownedTupleIsFree
  refine wpAny_bind (wpAny_field kz rfl (x := .none) rfl (wpAny_pure ?_)); simp only [if_true]
  refine wpAny_bind (wpAny_rule (wpAny_bind (wpAny_field kz rfl (x := .ref TO) rfl (wpAny_bind (wpAny_setField_rec kz (by simp) fun ha kza ba => wpAny_bind ?_)))))
  replace kza : IsZip ha z TI TO .ellipsis := kza
  simp only [List.zipIdx_cons,List.zipIdx_nil,List.forIn_cons,List.forIn_nil]
  refine wpAny_bind (wpAny_bind (wpAny_onRaise ?_)); show wpAny _ _ (Builtin.SmallTypes.nextOf (.ref i1) >>= _) _ _ _
  refine wpAny_bind (nextT_item (j1.extBut ba.extBut D.i1z) (t1.extBut ba.extBut D.l1z) hx fun hb j1b bb => wpAny_pure ?_)
  have kOb : IsPair hb TO a b := bb.extBut _ _ D.TOi1 (ba.extBut _ _ D.TOz kO)
  refine wpAny_bind (wpAny_seqItems kOb rfl (wpAny_bind (wpAny_updateSeq_pair kOb fun hc kOc bc => wpAny_bind (wpAny_letGo (wpAny_pure ?_)))))
  replace kOc : IsPair hc TO x b := kOc
  refine wpAny_bind (wpAny_bind (wpAny_onRaise ?_)); show wpAny _ _ (Builtin.SmallTypes.nextOf (.ref i2) >>= _) _ _ _
  have j2c := ((j2.extBut ba.extBut D.i2z).extBut bb.extBut D.i12.symm).extBut bc.extBut D.TOi2.symm
  have t2c := ((t2.extBut ba.extBut D.l2z).extBut bb.extBut D.l2i1).extBut bc.extBut D.l2TO
  refine wpAny_bind (nextT_item j2c t2c hy fun hd j2d bd => wpAny_pure ?_)
  have kOd : IsPair hd TO x b := bd.extBut _ _ D.TOi2 kOc
  refine wpAny_bind (wpAny_seqItems kOd rfl (wpAny_bind (wpAny_updateSeq_pair kOd fun he kOe be => wpAny_bind (wpAny_letGo (wpAny_pure (wpAny_pure ?_))))))
  replace kOe : IsPair he TO x y := kOe
  refine wpAny_bind (wpAny_seqItems kOe rfl (wpAny_bind (wpAny_newTuple ?_)))
  have same : he.objs.size = s.heap.objs.size := by rw [be.1,bd.1,bc.1,bb.1,ba.1]
  have kze : IsZip he z TI TO .ellipsis := be.extBut _ _ D.TOz.symm (bd.extBut _ _ D.i2z.symm (bc.extBut _ _ D.TOz.symm (bb.extBut _ _ D.i1z.symm kza)))
  have kp : Kp4 z TO i1 i2 s.heap he := fun c o n1 n2 n3 n4 q => be.extBut _ _ n2 (bd.extBut _ _ n4 (bc.extBut _ _ n2 (bb.extBut _ _ n3 (ba.extBut _ _ n1 q))))
  have j1e : he.IsTupleIter i1 l1 (k1 + 1) := ((j1b.extBut bc.extBut D.TOi1.symm).extBut bd.extBut D.i12).extBut be.extBut D.TOi1.symm
  have j2e : he.IsTupleIter i2 l2 (k2 + 1) := j2d.extBut be.extBut D.TOi2.symm
  have zlt : z < he.objs.size := Heap.lt_size kze
  show wpAny _ _ (Builtin.SmallTypes.ownedTupleHandOut (.ref z) (.ref he.objs.size) >>= _) _ _ _; refine wpAny_bind ?_; unfold Builtin.SmallTypes.ownedTupleHandOut
  have kzf : IsZip (he.push { cls := .type "tuple",data := .seq #[x,y] }) z TI TO .ellipsis := Heap.get?_push_of_some _ kze
  refine wpAny_bind (wpAny_setField_rec kzf (by simp) fun hg kzg bg => ?_)
  replace kzg : IsZip hg z TI TO (rawInt he.objs.size) := kzg
  refine wpAny_setField_rec kzg (by simp) fun hk kzk bk => ?_
  replace kzk : IsZip hk z TI TO (rawInt he.objs.size) := kzk
  have up : ∀ c o,c ≠ z → he.get? c = some o → hk.get? c = some o := fun c o n q => bk.extBut _ _ n (bg.extBut _ _ n (Heap.get?_push_of_some _ q))
  have kT : IsPair hk he.objs.size x y := bk.extBut _ _ (Nat.ne_of_gt zlt) (bg.extBut _ _ (Nat.ne_of_gt zlt) (Heap.get?_push_size _ rfl))
  rw [same] at kzk kT
  refine wpAny_pure ⟨_,rfl,wpAny_pure ?_⟩
  show Q (some (.ref he.objs.size)) _; rw [same]
  obtain ⟨o1,g1,c1,d1⟩ := j1e
  obtain ⟨o2,g2,c2,d2⟩ := j2e
  exact hQ hk kzk (up _ _ D.TOz kOe) ⟨o1,up _ _ D.i1z g1,c1,d1⟩ ⟨o2,up _ _ D.i2z g2,c2,d2⟩ kT fun c o n1 n2 n3 n4 q => up c o n1 (kp c o n1 n2 n3 n4 q)
end
abbrev zu2 (h : Heap) (l1 l2 : Addr) : Heap := (zt1 h l1).push { cls := .type "tuple_iterator",data := .fields #[.ref l2,.int 0 0] }
abbrev zu3 (h : Heap) (l1 l2 : Addr) : Heap := (zu2 h l1 l2).push { cls := .type "tuple",data := .seq #[.ref h.objs.size,.ref (zt1 h l1).objs.size] }
abbrev zu4 (h : Heap) (l1 l2 : Addr) : Heap := (zu3 h l1 l2).push { cls := .type "tuple",data := .seq #[.none,.none] }
abbrev zu5 (h : Heap) (l1 l2 : Addr) : Heap := (zu4 h l1 l2).push { cls := .type "zip",data := .fields #[.none,.bool false,.bool false,.ref (zu2 h l1 l2).objs.size,.ref (zu3 h l1 l2).objs.size] }
theorem zipTT_new (l1 l2 : Addr) (xs ys : Array Value) :
    Meets (Builtin.«zip.__new__» ⟨[.type "zip",.ref l1,.ref l2],[]⟩) (fun _ R s => s.heap.IsTuple l1 xs ∧ s.heap.IsTuple l2 ys ∧ R (.ok (.ret (.ref (zu4 s.heap l1 l2).objs.size))) { s with heap := zu5 s.heap l1 l2 }) :=
  .of_wp fun prog w A R s h => by
    obtain ⟨hp,g,d,tk,os⟩ := s; obtain ⟨g1,g2,h⟩ := h
    have hsub := sub_zip
    have a1 : Heap.IsTuple (Shared.heap ⟨hp,g,d,tk,os⟩) l1 xs := g1
    have a2 : Heap.IsTuple (Shared.heap ⟨hp.push { cls := .type "tuple_iterator",data := .fields #[.ref l1,.int 0 0] },g,d,tk,os⟩) l2 ys := (let ⟨o,g,r⟩ := g2; ⟨o,Heap.get?_push_of_some _ g,r⟩)
    wp_walk using wpAny_pyIter_tuple a1,wpAny_pyIter_tuple a2
    exact ⟨_,rfl,h⟩
section
variable {prog : Program} {w : World} {A : Around} {E : Value → Shared → Prop} {s : Shared}
theorem call_zipTT {l1 l2 : Addr} {xs ys : Array Value} {Q : Value → Shared → Prop} (g1 : s.heap.IsTuple l1 xs) (g2 : s.heap.IsTuple l2 ys)
    (h : ∀ h',IsZip h' (s.heap.objs.size + 4) (s.heap.objs.size + 2) (s.heap.objs.size + 3) .none → IsPair h' (s.heap.objs.size + 2) (.ref s.heap.objs.size) (.ref (s.heap.objs.size + 1)) → IsPair h' (s.heap.objs.size + 3) .none .none →
      h'.IsTupleIter s.heap.objs.size l1 0 → h'.IsTupleIter (s.heap.objs.size + 1) l2 0 → (∀ c o,s.heap.get? c = some o → h'.get? c = some o) → Q (.ref (s.heap.objs.size + 4)) { s with heap := h' }) :
    wpAny (model prog w) A (call (.type "zip") [.ref l1,.ref l2]) Q E s := by
  refine callType_new PySem.F.called_zip (by decide) (PySem.F.typeCall_zip_2 _ _) (PySem.F.newCall_zip_2 _ _) (fun obj => PySem.F.args_object_init_3 obj _ _) PySem.F.entry_zip_new (zipTT_new l1 l2 xs ys) ⟨g1,g2,?_⟩
  have n1 : (zt1 s.heap l1).objs.size = s.heap.objs.size + 1 := Heap.size_push ..
  have n2 : (zu2 s.heap l1 l2).objs.size = s.heap.objs.size + 2 := by rw [Heap.size_push,n1]
  have n3 : (zu3 s.heap l1 l2).objs.size = s.heap.objs.size + 3 := by rw [Heap.size_push,n2]
  have n4 : (zu4 s.heap l1 l2).objs.size = s.heap.objs.size + 4 := by rw [Heap.size_push,n3]
  have up : ∀ {c o},(zu3 s.heap l1 l2).get? c = some o → (zu5 s.heap l1 l2).get? c = some o := fun q => Heap.get?_push_of_some _ (Heap.get?_push_of_some _ q)
  have up1 : ∀ {c o},(zt1 s.heap l1).get? c = some o → (zu5 s.heap l1 l2).get? c = some o := fun q => up (Heap.get?_push_of_some _ (Heap.get?_push_of_some _ q))
  have q5 : (zu5 s.heap l1 l2).get? (zu4 s.heap l1 l2).objs.size = some _ := Heap.get?_push_size _ rfl
  have q4 : (zu5 s.heap l1 l2).get? (zu3 s.heap l1 l2).objs.size = some _ := Heap.get?_push_of_some _ (Heap.get?_push_size _ rfl)
  have q3 : (zu5 s.heap l1 l2).get? (zu2 s.heap l1 l2).objs.size = some _ := up (Heap.get?_push_size _ rfl)
  have q2 : (zu5 s.heap l1 l2).get? (zt1 s.heap l1).objs.size = some _ := up (Heap.get?_push_of_some _ (Heap.get?_push_size _ rfl))
  have q1 : (zu5 s.heap l1 l2).get? s.heap.objs.size = some _ := up1 (Heap.get?_push_size _ rfl)
  show _ ∧ _
  rw [n2,n3,n4] at q5; rw [n1,n2] at q3; rw [n3] at q4; rw [n1] at q2; rw [n4]
  exact ⟨⟨_,q5,rfl⟩,h _ q5 q3 q4 ⟨_,q1,rfl,rfl⟩ ⟨_,q2,rfl,rfl⟩ fun c o q => up1 (Heap.get?_push_of_some _ q)⟩
end
def Itzz (K : PySem.W.Frag) (a b : Addr) : It :=
  ⟨fun i H => ∃ xs x ys y,SqT K H a xs ∧ xs[i]? = some x ∧ SqT K H b ys ∧ ys[i]? = some y,fun i H v H' => ∃ T x y,(∀ xs,SqT K H a xs → xs[i]? = some x) ∧ (∀ ys,SqT K H b ys → ys[i]? = some y) ∧ H T = none ∧ v = .ref T ∧ H' = upd H T (.tup [x,y]),fun i H => ∃ xs,SqT K H a xs ∧ xs.length ≤ i⟩
theorem turn_zipTT {P : Program} {w : World} {K : PySem.W.Frag} {elts : List Expr} {k : Nat} {tp : Pos} (l1 l2 z TI TO i1 i2 : Addr) (D : ZipApart z TI TO i1 i2 l1 l2) : Turn P w K (.Tuple elts k tp) (Itzz K l1 l2) [z,TO,i1,i2,TI] z
    (fun i h => IsZip h z TI TO .none ∧ IsPair h TI (.ref i1) (.ref i2) ∧ (∃ a b,IsPair h TO a b) ∧ h.IsTupleIter i1 l1 i ∧ h.IsTupleIter i2 l2 i) where
  mem := by simp
  obj := fun i h st b hb => by
    obtain ⟨kz,kI,⟨a,b',kO⟩,⟨o1,g1,_,d1⟩,⟨o2,g2,_,d2⟩⟩ := st
    simp only [List.mem_cons,List.not_mem_nil,or_false] at hb
    rcases hb with rfl | rfl | rfl | rfl | rfl
    · exact ⟨_,kz,fun v q => by cases q⟩
    · exact ⟨_,kO,fun v q => by cases q⟩
    · exact ⟨o1,g1,fun v q => by rw [d1] at q; cases q⟩
    · exact ⟨o2,g2,fun v q => by rw [d2] at q; cases q⟩
    · exact ⟨_,kI,fun v q => by cases q⟩
  keep := fun i h h' ⟨kz,kI,⟨a,b',kO⟩,⟨o1,g1,r1⟩,⟨o2,g2,r2⟩⟩ kp => ⟨kp z (by simp) _ kz,kp TI (by simp) _ kI,⟨a,b',kp TO (by simp) _ kO⟩,⟨o1,kp i1 (by simp) _ g1,r1⟩,⟨o2,kp i2 (by simp) _ g2,r2⟩⟩
  item := by
    intro X hP hw hK hc i pins s σ H E I hf st hg
    subst hP hw hK
    obtain ⟨xs,x,ys,y,hq,hx,hq',hy⟩ := hg
    obtain ⟨us,rv,p,hz⟩ := I.tuple hq
    obtain ⟨us',rv',p',hz'⟩ := I.tuple hq'
    obtain ⟨u,hu,ru⟩ := rv.get hx
    obtain ⟨u',hu',ru'⟩ := rv'.get hy
    obtain ⟨kz,kI,⟨a,b',kO⟩,j1,j2⟩ := st
    have fr : H s.heap.objs.size = none := I.hok.fresh (Nat.le_refl _)
    have hlt : ∀ b ∈ [z,TO,i1,i2,TI],b ≠ s.heap.objs.size := fun b hb e => by
      simp only [List.mem_cons,List.not_mem_nil,or_false] at hb
      have lt : ∀ {c o},s.heap.get? c = some o → c ≠ s.heap.objs.size := fun q => Nat.ne_of_lt (Heap.lt_size q)
      rcases hb with rfl | rfl | rfl | rfl | rfl
      · exact lt kz e
      · exact lt kO e
      · obtain ⟨_,g,_⟩ := j1; exact lt g e
      · obtain ⟨_,g,_⟩ := j2; exact lt g e
      · exact lt kI e
    refine zipTT_item D kz kI kO j1 j2 p p' (x := u) (y := u') (by simpa using hu) (by simpa using hu') fun h' kz' kO' j1' j2' kT kp => ?_
    have I1 : Inv X pins σ H { s with heap := h',toks := s.toks } := I.turnedL (wr := [z,TO,i1,i2]) (fun b o hb q => kp b o (fun e => hb (by simp [e])) (fun e => hb (by simp [e])) (fun e => hb (by simp [e])) (fun e => hb (by simp [e])) q) (fun b hb => hf b (by
      simp only [List.mem_cons,List.not_mem_nil,or_false] at hb ⊢
      rcases hb with e | e | e | e <;> simp [e]))
    have I2 : Inv X pins σ (upd H s.heap.objs.size (.tup [x,y])) { s with heap := h',toks := s.toks } := I.tracked I1 (Nat.le_refl _) ⟨by show 2 ≤ sizeLine; decide,[u,u'],.cons ru (.cons ru' .nil),⟨_,kT,rfl,_,rfl⟩⟩
    have hf2 : ∀ b ∈ [z,TO,i1,i2,TI],FpOk X pins (upd H s.heap.objs.size (.tup [x,y])) b := fun b hb => by
      obtain ⟨f0,f1,f2,f3,f4,f5⟩ := hf b hb
      exact ⟨by rw [upd_ne (hlt b hb)]; exact f0,f1,f2,f3,f4,f5⟩
    refine ⟨_,rfl,wpAny_letOwnedTupleGo_zip kz' fun h'' kz'' bs => ?_⟩
    have bk : ∀ b o,b ≠ z → h'.get? b = some o → h''.get? b = some o := fun b o n q => (bs.2 b n).trans q
    obtain ⟨o1,g1,r1⟩ := j1'
    obtain ⟨o2,g2,r2⟩ := j2'
    refine ⟨.ref s.heap.objs.size,_,I2.turnedL (wr := [z]) (t' := s.toks) (fun b o hb q => bk b o (fun e => hb (by simp [e])) q) (fun b hb => hf2 b (by rw [List.mem_singleton.mp hb]; simp)),rfl,
      ⟨_,x,y,fun zs hs => by rw [I.tuple_inj hs hq]; exact hx,fun zs hs => by rw [I.tuple_inj hs hq']; exact hy,fr,rfl,rfl⟩,
      ⟨kz'',bk _ _ D.TIz (kp _ _ D.TIz D.TITO D.TIi1 D.TIi2 kI),⟨_,_,bk _ _ D.TOz kO'⟩,⟨o1,bk _ _ D.i1z g1,r1⟩,⟨o2,bk _ _ D.i2z g2,r2⟩⟩,fun b hb => (hf2 b hb).1⟩
  done := by
    intro X hP hw hK hc i pins s σ H E I hf st hg
    subst hP hw hK
    obtain ⟨xs,hq,hx⟩ := hg
    obtain ⟨us,rv,p,hz⟩ := I.tuple hq
    have hl := rv.length
    obtain ⟨kz,kI,⟨a,b',kO⟩,j1,j2⟩ := st
    exact zipT_end (I.ok.hd hc) D kz kI kO j1 p (by simp; omega) fun h' kp => ⟨rfl,I.turnedL (wr := [z,TO,i1,i2]) (t' := s.toks) (fun b o hb q => kp b o (fun e => hb (by simp [e])) (fun e => hb (by simp [e])) (fun e => hb (by simp [e])) (fun e => hb (by simp [e])) q) (fun b hb => hf b (by
      simp only [List.mem_cons,List.not_mem_nil,or_false] at hb ⊢
      rcases hb with e | e | e | e <;> simp [e]))⟩
  self := fun _ _ _ _ _ st h => wpAny_pyIter_zip st.1 h
section
variable {X : Cx} {elts : List Expr} {k : Nat} {tp : Pos}
def iZipTT (K : PySem.W.Frag) (ta : TA) : TI := fun σ H R => ta σ H fun vs H1 => ∃ a b,vs = [.ref a,.ref b] ∧ (∃ xs,SqT K H1 a xs) ∧ (∃ ys,SqT K H1 b ys) ∧ R (Itzz K a b) H1
theorem pi_zipTT {a b : Expr} {ta : TA} {p pos : Pos} (hg : Gl X "zip") (hm : X.mg "zip" = none) (ha : PA X [a,b] ta) (hs : starEach [a,b] X.env = [(false,eval a X.env),(false,eval b X.env)] := by rfl) (hs2 : starEach [b] X.env = [(false,eval b X.env)] := by rfl) : PI X (.Tuple elts k tp) (.Call (.Name "zip" p) [a,b] [] pos) (iZipTT X.K ta) := by
  intro pins s σ H R I h
  refine Call_ (ld_blt I hg hm (show bootBuiltins "zip" = some (.type "zip") by decide +kernel) (PyProof.Rows.callWith_type1 (thn (ha pos pins s σ H _ I h) fun us s1 ⟨vs,H1,I1,r1,q1⟩ => ?_) (by rw [hs,hs2]) (by rw [hs2]; rfl)))
  obtain ⟨a,b,e,⟨xs,hq⟩,⟨ys,hq'⟩,q⟩ := q1
  subst e
  cases r1 with
  | cons ra rr =>
    cases rr with
    | cons rb rr =>
      cases rr
      cases ra
      cases rb
      obtain ⟨its,rv,pl,hz⟩ := I1.tuple hq
      obtain ⟨its',rv',pl',hz'⟩ := I1.tuple hq'
      have la : a < s1.heap.objs.size := by obtain ⟨_,g,_⟩ := pl; exact Heap.lt_size g
      have lb : b < s1.heap.objs.size := by obtain ⟨_,g,_⟩ := pl'; exact Heap.lt_size g
      refine call_zipTT pl pl' fun h' kz kI kO j1 j2 kp => ?_
      have I2 : Inv X pins σ H1 { s1 with heap := h' } := I1.kept (t' := s1.toks) kp
      refine wpAny_pyIter_zip kz ?_
      have D : ZipApart (s1.heap.objs.size + 4) (s1.heap.objs.size + 2) (s1.heap.objs.size + 3) s1.heap.objs.size (s1.heap.objs.size + 1) a b := PySem.W.ktu_apart _ _ _ la lb
      refine ⟨s1.heap.objs.size + 4,[s1.heap.objs.size + 4,s1.heap.objs.size + 3,s1.heap.objs.size,s1.heap.objs.size + 1,s1.heap.objs.size + 2],_,_,H1,rfl,I2,turn_zipTT a b _ _ _ _ _ D,⟨kz,kI,⟨_,_,kO⟩,j1,j2⟩,fun c hc => ?_,q⟩
      have : s1.heap.objs.size ≤ c := by
        simp only [List.mem_cons,List.not_mem_nil,or_false] at hc
        rcases hc with rfl | rfl | rfl | rfl | rfl
        · exact Nat.le_add_right _ _
        · exact Nat.le_add_right _ _
        · exact Nat.le_refl _
        · exact Nat.le_add_right _ _
        · exact Nat.le_add_right _ _
      exact I1.fpOk this (I1.hok.fresh this)
theorem qi_zipTT {a b : Expr} {ta : TA} {p pos : Pos} (hg : Gl X "zip") (hm : X.mg "zip" = none) (ha : QA X [a,b] ta) (hs : starEach [a,b] X.env = [(false,eval a X.env),(false,eval b X.env)] := by rfl) (hs2 : starEach [b] X.env = [(false,eval b X.env)] := by rfl) : QI X (.Tuple elts k tp) (.Call (.Name "zip" p) [a,b] [] pos) (iZipTT X.K ta) := ⟨pi_zipTT hg hm ha.h hs hs2⟩
end
theorem for_zipTT {K : PySem.W.Frag} {a b : Addr} {xs ys : List V} {g : TG} {tb : TS} {D : Ends} {σ : St} {H : Hp} (hlen : xs.length = ys.length) (Pv : Nat → St → Hp → Prop) (h0 : Pv 0 σ H) (hl : ∀ i σ H,i ≤ xs.length → Pv i σ H → SqT K H a xs ∧ SqT K H b ys)
    (hs : ∀ i x y T σ H,xs[i]? = some x → ys[i]? = some y → Pv i σ H → H T = none → g (.ref T) σ (upd H T (.tup [x,y])) fun σ2 H2 => tb { D with nx := Pv (i + 1),ct := Pv (i + 1),bk := D.nx } σ2 H2) (hd : ∀ σ H,Pv xs.length σ H → D.nx σ H) :
    ∃ W : Nat → Nat → St → Hp → Prop,(∃ m,W 0 m σ H) ∧ ∀ i m σ H,W i m σ H →
      ((Itzz K a b).stop i H ∧ D.nx σ H) ∨ ((Itzz K a b).go i H ∧ ∃ N : St → Hp → Prop,(∀ σ' H',N σ' H' → ∃ m',m' < m ∧ W (i + 1) m' σ' H') ∧ ∀ x H',(Itzz K a b).yld i H x H' → g x σ H' fun σ2 H2 => tb { D with nx := N,ct := N,bk := D.nx } σ2 H2) := by
  refine ⟨fun i m σ H => m = xs.length - i ∧ i ≤ xs.length ∧ Pv i σ H,⟨xs.length,by simp,Nat.zero_le _,h0⟩,?_⟩
  rintro i m σ H ⟨rfl,hi,p⟩
  obtain ⟨q,q'⟩ := hl i σ H hi p
  by_cases hlt : i < xs.length
  · have hlt' : i < ys.length := hlen ▸ hlt
    refine .inr ⟨⟨xs,xs[i],ys,ys[i],q,by simp [hlt],q',by simp [hlt']⟩,Pv (i + 1),fun σ' H' p' => ⟨xs.length - (i + 1),by omega,rfl,hlt,p'⟩,fun v H' hy => ?_⟩
    obtain ⟨T,x,y,hx,hy,hT,rfl,rfl⟩ := hy
    exact hs i x y T σ _ (hx xs q) (hy ys q') p hT
  · have e : i = xs.length := by omega
    subst e
    exact .inl ⟨⟨xs,q,Nat.le_refl _⟩,hd σ H p⟩
theorem comp_enum {K : PySem.W.Frag} {a : Addr} {xs : List V} {g : TG} {tc : TT} {te : TE} {σ' : St} {H : Hp} {G : Addr → Hp → List V → Prop} (Pv : Nat → List V → Hp → Prop) (h0 : Pv 0 [] H) (hl : ∀ i ys H,i ≤ xs.length → Pv i ys H → SqL K H a xs)
    (hs : ∀ i x t ys H (N : List V → Hp → Prop),xs[i]? = some x → Pv i ys H → H t = none → (∀ ys' H',Pv (i + 1) ys' H' → N ys' H') → g (.ref t) σ' (upd H t (.tup [.int (i : Nat),x])) fun σ2 H4 => Weak σ' σ2 ∧ tc σ2 H4 fun b H5 => if b = true then te σ2 H5 fun y H6 => ys.length < sizeLine ∧ N (ys ++ [y]) H6 else N ys H5)
    (hd : ∀ ys H,Pv xs.length ys H → ys.length ≤ sizeLine ∧ ∀ p,H p = none → G p H ys) :
    ∃ W : Nat → Nat → List V → Hp → Prop,(∃ m,W 0 m [] H) ∧ ∀ i m ys H2,W i m ys H2 →
      ((Ite K a).stop i H2 ∧ ys.length ≤ sizeLine ∧ ∀ p,H2 p = none → G p H2 ys) ∨
      ((Ite K a).go i H2 ∧ ∀ x H3,(Ite K a).yld i H2 x H3 → g x σ' H3 fun σ2 H4 => Weak σ' σ2 ∧ tc σ2 H4 fun b H5 =>
        if b = true then te σ2 H5 fun y H6 => ys.length < sizeLine ∧ ∃ m',m' < m ∧ W (i + 1) m' (ys ++ [y]) H6 else ∃ m',m' < m ∧ W (i + 1) m' ys H5) := by
  refine ⟨fun i m ys H => m = xs.length - i ∧ i ≤ xs.length ∧ Pv i ys H,⟨xs.length,rfl,Nat.zero_le _,h0⟩,?_⟩
  rintro i m ys H2 ⟨rfl,hi,p⟩
  have q := hl i ys H2 hi p
  by_cases hlt : i < xs.length
  · refine .inr ⟨⟨xs,xs[i],q,by simp [hlt]⟩,fun v H' y => ?_⟩
    obtain ⟨t,x,hx,ht,rfl,rfl⟩ := y
    exact hs i x t ys _ (fun ys' H'' => ∃ m',m' < xs.length - i ∧ m' = xs.length - (i + 1) ∧ i + 1 ≤ xs.length ∧ Pv (i + 1) ys' H'') (hx xs q) p ht (fun ys' H'' p' => ⟨_,by omega,rfl,hlt,p'⟩)
  · have e : i = xs.length := by omega
    subst e
    exact .inl ⟨⟨xs,q,Nat.le_refl _⟩,hd ys H2 p⟩
end L2
namespace L2
open PySem PySem.Spec PyProof.Rows
section
variable {X : Cx} {pins : List (Addr × Obj)} {σ : St} {H : Hp} {s : Shared}
end
end L2
namespace L2
open PySem PySem.Spec PyProof.Rows
end L2
namespace PySem
open PySem.Spec PyProof.Rows
abbrev tupObj (rest : List Value) : Obj := { cls := .type "tuple",data := .seq rest.toArray }
abbrev excObj (C t : Addr) : Obj := { cls := .ref C,data := .fields #[.ref t,.none,.none,.none,.bool false,.none] }
theorem type_call_exc_own {prog : Program} {w : World} {A : Around} {E : Value → Shared → Prop} {h : Heap} {g : Array GenState} {d : Drawn} {t : Nat} {os : OsState} {nm q : Str} {C N fI : Addr} {bs bm bmB : List Value} {hdct : Bool} {sn : List Str} {sub : List Value} {ab : Bool} {col : Option Bool} {dd : Option Addr} {k0 k1 k2 k3 k5 : Option Value}
    {B Bn newId nid initId inN : String} {bmN : List Value} (Fn : ExcBaseFacts Bn newId inN bmN) (hBn : bmB.contains (.type Bn) = true) (F : ExcBaseFacts B nid initId bmB) (T : OwnTail h bmB bm) {mN : Str → Option Value} {rest : List Value} {Q : Fin → Shared → Prop}
    (hC : h.get? C = some (excClassObj nm q C N bs bm hdct sn sub ab col dd k0 k1 k2 k3 k5 newId)) (hn : h.Ns N mN) (hi : mN (Str.ofString "__init__") = some (.ref fI)) (hrest : rest.length ≤ sizeLine)
    (hq : wpAny (model prog w) A (bindSpecial (.ref fI) (.ref (h.objs.size + 1))) (fun r s' => wpAny (model prog w) A (call r.1 (r.2 ++ rest)) (fun v s'' => v = .none ∧ Q (.done (.ret (.ref (h.objs.size + 1)))) s'') E s') E ⟨(h.push (tupObj rest)).push (excObj C h.objs.size),g,d,t,os⟩) :
    wpAny (model prog w) A (Builtin.«type.__call__» ⟨.ref C :: rest,[]⟩) Q E ⟨h,g,d,t,os⟩ := by
  unfold Builtin.«type.__call__»
  refine wpAny_ite_false rfl ?_
  refine wpAny_bind ?_
  show wpAny _ _ (mroOf (.ref C)) _ _ _
  unfold mroOf
  refine wpAny_bind ?_
  unfold classData
  refine wpAny_bind (wpAny_load' hC ?_)
  refine wpAny_pure (wpAny_pure (wpAny_ite_false rfl ?_))
  refine wpAny_bind (wpAny_madeBy_exc hC (wpAny_bind (wpAny_pure (wpAny_bind (wpAny_holding (wpAny_call (codeAny_call_builtin_code (Code.quiet_builtin _ Fn.quiet) (wpAny_check_new_subU Fn hBn T hC (codeAny_exc_new_subU Fn hBn F T hC ?_ hrest))))))))) 
  have kp : ∀ b o,h.get? b = some o → ((h.push (tupObj rest)).push (excObj C h.objs.size)).get? b = some o := fun b o e => Heap.get?_push_of_some _ (Heap.get?_push_of_some _ e)
  have hC1 := kp _ _ hC
  have hn1 := hn.keeps kp
  have T1 := T.keeps kp
  have hget : ((h.push (tupObj rest)).push (excObj C h.objs.size)).get? (h.objs.size + 1) = some (excObj C h.objs.size) := Heap.get?_push_at (by rw [Heap.size_push]) rfl
  show wpAny _ _ _ _ _ _
  refine wpAny_bind ?_
  unfold isInstance
  refine wpAny_bind ?_
  unfold typeOf
  refine wpAny_bind (wpAny_loadPart_at hget (wpAny_pure ?_))
  refine wpAny_isSubtype_exc hC1 ?_
  rw [show (Value.ref C :: bm).contains (Value.ref C) = true by simp]
  refine wpAny_ite_false rfl ?_
  refine wpAny_bind (wpAny_holding ?_)
  unfold callSpecial? specialOf
  refine wpAny_bind ?_
  refine wpAny_bind ?_
  unfold typeOf
  refine wpAny_bind (wpAny_loadPart_at hget (wpAny_pure ?_))
  refine wpAny_typeLookup_tail hC1 hn1 T1 F.mroIs F.init.lookup ?_
  rw [hi]
  refine wpAny_holding (wpAny_bind ?_)
  refine wpAny_mono hq (fun r s' hr => ?_) fun _ _ z => z
  refine wpAny_bind (wpAny_mono hr (fun v s'' hv => ?_) fun _ _ z => z)
  obtain ⟨rfl,hv⟩ := hv
  refine wpAny_pure (wpAny_ite_false rfl ?_)
  exact wpAny_pure hv
theorem call_exc_own {prog : Program} {w : World} {A : Around} {E : Value → Shared → Prop} {h : Heap} {g : Array GenState} {d : Drawn} {t : Nat} {os : OsState} {nm q : Str} {C N fI : Addr} {bs bm bmB : List Value} {hdct : Bool} {sn : List Str} {sub : List Value} {ab : Bool} {col : Option Bool} {dd : Option Addr} {k0 k1 k2 k3 k5 : Option Value}
    {B Bn newId nid initId inN : String} {bmN : List Value} (Fn : ExcBaseFacts Bn newId inN bmN) (hBn : bmB.contains (.type Bn) = true) (F : ExcBaseFacts B nid initId bmB) (T : OwnTail h bmB bm) {mN : Str → Option Value} {rest : List Value} {Q : Value → Shared → Prop}
    (hC : h.get? C = some (excClassObj nm q C N bs bm hdct sn sub ab col dd k0 k1 k2 k3 k5 newId)) (hn : h.Ns N mN) (hi : mN (Str.ofString "__init__") = some (.ref fI)) (hrest : rest.length ≤ sizeLine)
    (hq : wpAny (model prog w) (A.under (.builtin "type.__call__" ⟨.ref C :: rest,[]⟩)) (bindSpecial (.ref fI) (.ref (h.objs.size + 1))) (fun r s' => wpAny (model prog w) (A.under (.builtin "type.__call__" ⟨.ref C :: rest,[]⟩)) (call r.1 (r.2 ++ rest)) (fun v s'' => v = .none ∧ Q (.ref (h.objs.size + 1)) s'') E s') E ⟨(h.push (tupObj rest)).push (excObj C h.objs.size),g,d,t,os⟩) :
    wpAny (model prog w) A (call (.ref C) rest) Q E ⟨h,g,d,t,os⟩ := by
  have f1 := tc_lookup
  have f2 := tc_bind (.ref C)
  have hT : Shared.TypeIs ⟨h,g,d,t,os⟩ (.ref C) "type" := ⟨_,hC,rfl⟩
  refine wpAny_call (codeAny_of_tree ?_)
  refine wpAny_bind (wpAny_load' hC ?_)
  refine wpAny_bind (wpAny_specialOf hT f1 (wpAny_bind (wpAny_of_eq f2 (wpAny_bind ?_))))
  refine wpAny_pure (wpAny_ite_true rfl ?_)
  refine wpAny_pure ⟨rfl,codeAny_call_builtin_at (Code.quiet_builtin _ (by decide +kernel)) entry_typeCall (wpAny_check_type_call_sub hC ?_)⟩
  refine type_call_exc_own Fn hBn F T hC hn hi hrest ?_
  exact hq
theorem raise_own {M : Model} {A : Around} {E : Value → Shared → Prop} {env : Env} {nm q : Str} {C N : Addr} {bs bm : List Value} {hdct : Bool} {sn : List Str} {sub : List Value} {ab : Bool} {col : Option Bool} {dd : Option Addr} {k0 k1 k2 k3 k5 : Option Value} {newId : String} {s : Shared} {x : Sem Value} {Q : Flow → Shared → Prop}
    (hb : bm.contains (.type "BaseException") = true) (hh : A.handled = none)
    (h : wpAny M A x (fun v s₁ => ∃ e t dx,v = .ref e ∧ s₁.heap.get? C = some (excClassObj nm q C N bs bm hdct sn sub ab col dd k0 k1 k2 k3 k5 newId) ∧ s₁.heap.get? e = some ⟨.ref C,dx,.fields #[.ref t,.none,.none,.none,.bool false,.none],#[]⟩ ∧ E (.ref e) s₁) E s) :
    wpAny M A (raiseStmt env (some x) none) Q E s := by
  unfold raiseStmt
  refine wpAny_bind (wpAny_mono h (fun v s1 hv => ?_) fun _ _ z => z)
  obtain ⟨e,t,dx,rfl,hC,he,hE⟩ := hv
  refine wpAny_bind (wpAny_pure ?_)
  refine wpAny_bind (wpAny_holding ?_)
  obtain ⟨hp,g,d,tk,os⟩ := s1
  have hC' : hp.get? C = some (excClassObj nm q C N bs bm hdct sn sub ab col dd k0 k1 k2 k3 k5 newId) := hC
  have he' : hp.get? e = some ⟨.ref C,dx,.fields #[.ref t,.none,.none,.none,.bool false,.none],#[]⟩ := he
  unfold excFromValue isExcClass isType isInstance typeOf
  repeat (first | with_reducible refine wpAny_loadPart_at he' ?_ | with_reducible refine wpAny_isSubtype_exc hC' ?_ | wp_step)
  have hc : (Value.ref C :: bm).contains (Value.type "BaseException") = true := by
    rw [List.contains_cons,hb,Bool.or_true]
  rw [if_pos hc]
  unfold raisedInstance setFlight field
  repeat (first | with_reducible refine wpAny_loadPart_at he' ?_ | with_reducible refine wpAny_loadPart_at hC' ?_ | with_reducible refine wpAny_load' he' ?_ | wp_step)
  exact wpAny_raiseNew_none hh hE
theorem base_init {prog : Program} {w : World} {A : Around} {E : Value → Shared → Prop} {h : Heap} {g : Array GenState} {d : Drawn} {t : Nat} {os : OsState} {nm q : Str} {C N : Addr} {bs bm bmB : List Value} {hdct : Bool} {sn : List Str} {sub : List Value} {ab : Bool} {col : Option Bool} {dd : Option Addr} {k0 k1 k2 k3 k5 : Option Value}
    {newId : String} (F : ExcBaseFacts "ValueError" "ValueError.__new__" "ValueError.__init__" bmB) (T : OwnTail h bmB bm) {e t0 : Addr} {dx : Option Addr} {v : Value} {Q : Value → Shared → Prop}
    (hC : h.get? C = some (excClassObj nm q C N bs bm hdct sn sub ab col dd k0 k1 k2 k3 k5 newId)) (he : h.get? e = some ⟨.ref C,dx,.fields #[.ref t0,.none,.none,.none,.bool false,.none],#[]⟩)
    (hq : ∀ h' : Heap,h'.get? e = some ⟨.ref C,dx,.fields #[.ref h.objs.size,.none,.none,.none,.bool false,.none],#[]⟩ → (∀ b o,b ≠ e → h.get? b = some o → h'.get? b = some o) → Q .none ⟨h',g,d,t,os⟩) :
    wpAny (model prog w) A (call (.builtin "ValueError.__init__") [.ref e,v]) Q E ⟨h,g,d,t,os⟩ := by
  refine wpAny_call (codeAny_call_builtin_at (Code.quiet_builtin _ (by decide +kernel)) F.initEntry (wpAny_check_init_subU F T hC he rfl ?_))
  have hlt : e < h.objs.size := Heap.lt_size he
  have hne : e ≠ h.objs.size := Nat.ne_of_lt hlt
  unfold Builtin.«BaseException.__init__»
  dsimp only
  refine wpAny_ite_false rfl ?_
  unfold newTuple Builtin.BaseException.bexcPut field setField updateField
  have he1 : (h.push { cls := Value.type "tuple",data := Data.seq #[v] }).get? e = some ⟨.ref C,dx,.fields #[.ref t0,.none,.none,.none,.bool false,.none],#[]⟩ := Heap.get?_push_of_some _ he
  repeat (first | with_reducible refine wpAny_load' he1 ?_ | wp_step)
  refine hq _ ?_ fun b o hb ho => ?_
  · exact Heap.get?_update_self _ he1 rfl
  · rw [Heap.get?_update_other _ _ (Ne.symm hb)]
    exact Heap.get?_push_of_some _ ho
def excTypes : List String := ["ValueError", "Exception", "BaseException", "object"]
def okEntry : Value → Bool
  | .ref _ => true
  | .type n => excTypes.contains n
  | _ => false
theorem own_sa {n : String} (h : excTypes.contains n = true) : (∃ y,classOwn (.type n) (Str.ofString "__setattr__") = pure (some y) ∧ Builtin.ObjectAttr.isObjects n "__setattr__" = true) ∨ classOwn (.type n) (Str.ofString "__setattr__") = pure none := by
  have : n = "ValueError" ∨ n = "Exception" ∨ n = "BaseException" ∨ n = "object" := by simpa [excTypes] using h
  rcases this with rfl | rfl | rfl | rfl
  · exact .inr (by first | rfl | kernel_rfl)
  · exact .inr (by first | rfl | kernel_rfl)
  · exact .inr (by first | rfl | kernel_rfl)
  · exact .inl ⟨.builtin "object.__setattr__",by kernel_rfl,by decide +kernel⟩
theorem loop_ok {g : Value → Option Unit × Unit → Sem (ForInStep (Option Unit × Unit))} (hg : ∀ c,okEntry c = true → (∃ r,g c (none,()) = pure (ForInStep.done r)) ∨ g c (none,()) = pure (ForInStep.yield (none,()))) :
    ∀ l : List Value,l.all okEntry = true → ∃ r,forIn l ((none : Option Unit),()) g = pure r
  | [],_ => ⟨_,rfl⟩
  | c :: l,h => by
    rw [List.all_cons,Bool.and_eq_true] at h
    rw [List.forIn_cons]
    rcases hg c h.1 with ⟨r,e⟩ | e
    · rw [e]
      exact ⟨r,rfl⟩
    · rw [e]
      exact loop_ok hg l h.2
theorem over_ok {M : Model} {A : Around} {E : Value → Shared → Prop} {e C : Addr} {oe : Obj} {cd : ClassData} {K : W.Frag} {s : Shared} {Q : Unit → Shared → Prop} (X : K.In s.heap) (he : s.heap.get? e = some oe) (hc : oe.cls = .ref C) (hcd : W.clsIn K C = some cd) (ho : cd.mro.all okEntry = true) (hq : Q () s) :
    wpAny M A (Builtin.ObjectAttr.refuseIfOverridden (.ref e) (Str.ofString "__setattr__")) Q E s := by
  unfold Builtin.ObjectAttr.refuseIfOverridden typeOf
  refine wpAny_bind (wpAny_bind (wpAny_loadPart_at he (wpAny_pure ?_)))
  rw [hc]
  refine wpAny_bind ?_
  unfold mroOf
  refine wpAny_bind (W.Looks.here (W.looks_clsIn X hcd) (wpAny_pure ?_))
  refine wpAny_bind ?_
  refine wpAny_of_eq (loop_ok ?hg cd.mro ho).choose_spec ?_
  · intro c hc
    match c,hc with
    | .ref a,_ => exact .inr rfl
    | .type n,hn =>
      have hn' : n = "ValueError" ∨ n = "Exception" ∨ n = "BaseException" ∨ n = "object" := by simpa [okEntry,excTypes] using hn
      have h1 : (n == "_thread._local") = false := by rcases hn' with rfl | rfl | rfl | rfl <;> decide
      have h2 : (n == "_pickle.Pickler" || n == "_pickle.Unpickler") = false := by rcases hn' with rfl | rfl | rfl | rfl <;> decide
      dsimp only
      rw [h1,h2,if_neg (by decide),if_neg (by decide)]
      rcases own_sa hn with ⟨y,e1,e2⟩ | e1
      · refine .inl ⟨(some (),()),?_⟩
        rw [e1,show (Str.ofString "__setattr__").toString = "__setattr__" by decide +kernel,e2]
        rfl
      · refine .inr ?_
        rw [e1]
        rfl
  · dsimp only
    split <;> exact wpAny_pure hq
theorem check_slot {M : Model} {A : Around} {E : Value → Shared → Prop} {s : Shared} {id owner name : String} {self : Value} {rest : List Value} {Q : Unit → Shared → Prop} (hk : builtinKind id = some .slot) (hs : splitId id = some (owner,name)) (ht : wpAny M A (isInstance self (.type owner)) (fun b s' => b = true ∧ s' = s) E s)
    (ha : argsOk id ⟨self :: rest,[]⟩) (hq : Q () s) : wpAny M A (checkBuiltinCall id ⟨self :: rest,[]⟩) Q E s := by
  unfold checkBuiltinCall
  rw [hk,hs]
  dsimp only
  refine wpAny_bind (wpAny_mono ht (fun b s' hb => ?_) fun _ _ z => z)
  obtain ⟨rfl,rfl⟩ := hb
  refine wpAny_ite_false rfl ?_
  unfold argsOk at ha
  revert ha
  cases Manifest.signature? id with
  | none => exact fun _ => wpAny_pure hq
  | some sig => exact fun ha => wpAny_of_eq ha hq
theorem os_kind : builtinKind "object.__setattr__" = some .slot := by kernel_rfl
theorem os_split : splitId "object.__setattr__" = some ("object", "__setattr__") := by kernel_rfl
theorem os_args (e : Addr) (x : Str) (t : Tok) (v : Value) : argsOk "object.__setattr__" ⟨[.ref e,.str x t,v],[]⟩ := by unfold argsOk; kernel_rfl
theorem os_entry : entryFor table "object.__setattr__" = some Builtin.«object.__setattr__» := entryFor_of_tree (by kernel_rfl)
structure XCls (K : W.Frag) (C : Addr) (cd : ClassData) : Prop where
  cls : W.clsIn K C = some cd
  ok : cd.mro.all okEntry = true
  obj : cd.mro.contains (.type "object") = true
  bex : cd.mro.contains (.type "BaseException") = true
  dct : cd.hasDict = true
  ga : W.findIn K (.ref C) (Str.ofString "__getattribute__") = some (some (.builtin "BaseException.__getattribute__"))
  gt : W.findIn K (.ref C) (Str.ofString "__getattr__") = some none
  sa : W.findIn K (.ref C) (Str.ofString "__setattr__") = some (some (.builtin "object.__setattr__"))
theorem inst_of {M : Model} {A : Around} {E : Value → Shared → Prop} {e C : Addr} {oe : Obj} {cd : ClassData} {K : W.Frag} {s : Shared} {B : String} (X : K.In s.heap) (hc : W.clsIn K C = some cd) (hb : cd.mro.contains (.type B) = true) (he : s.heap.get? e = some oe) (hoc : oe.cls = .ref C) :
    wpAny M A (isInstance (.ref e) (.type B)) (fun b s' => b = true ∧ s' = s) E s := by
  unfold isInstance typeOf
  refine wpAny_bind (wpAny_bind (wpAny_loadPart_at he (wpAny_pure ?_)))
  rw [hoc]
  unfold isSubtype mroOf
  refine wpAny_bind (wpAny_bind (W.Looks.here (W.looks_clsIn X hc) (wpAny_pure ?_)))
  have hne : cd.mro.isEmpty = false := by
    cases hm : cd.mro with
    | nil => rw [hm] at hb; cases hb
    | cons _ _ => rfl
  dsimp only
  rw [hne,if_neg (by decide)]
  exact wpAny_pure ⟨hb,rfl⟩
theorem inst_dict {M : Model} {A : Around} {E : Value → Shared → Prop} {e C : Addr} {fs : Array Value} {cd : ClassData} {K : W.Frag} {s : Shared} {Q : Option Addr → Shared → Prop} (X : K.In s.heap) (hc : W.clsIn K C = some cd) (hd : cd.hasDict = true) (he : s.heap.get? e = some ⟨.ref C,none,.fields fs,#[]⟩)
    (hq : Q (some s.heap.objs.size) { s with heap := (s.heap.push { cls := .type "dict",data := .dict #[] }).update e fun o => { o with dict := some s.heap.objs.size } }) : wpAny M A (instanceDict e true) Q E s := by
  unfold instanceDict
  refine wpAny_bind (wpAny_loadPart_at he ?_)
  dsimp only
  refine wpAny_bind (W.Looks.here (W.looks_clsIn X hc) ?_)
  rw [hd]
  refine wpAny_ite_false rfl ?_
  repeat wp_step
  exact hq
theorem exc_set {prog : Program} {w : World} {A : Around} {E : Value → Shared → Prop} {e C : Addr} {fs : Array Value} {cd : ClassData} {K : W.Frag} {s : Shared} {name : Str} {v : Value} {Q : Unit → Shared → Prop} (X : K.In s.heap) (XC : XCls K C cd) (he : s.heap.get? e = some ⟨.ref C,none,.fields fs,#[]⟩) (hn : W.findIn K (.ref C) name = some none)
    (hq : ∀ (h' : Heap) (tk : Nat),h'.get? e = some ⟨.ref C,some s.heap.objs.size,.fields fs,#[]⟩ → h'.Ns1 s.heap.objs.size (fun y => if y = name then some v else none) → (∀ b o,b ≠ e → s.heap.get? b = some o → h'.get? b = some o) → Q () { s with heap := h',toks := tk }) :
    wpAny (model prog w) A (setAttr (.ref e) name v) Q E s := by
  have J : W.InstAt s.heap e ⟨.ref C,none,.fields fs,#[]⟩ C none := ⟨he,rfl,rfl,trivial⟩
  refine W.set_plain X J XC.sa ?_
  have X1 : K.In ({ s with toks := s.toks + 1 } : Shared).heap := X
  have he1 : ({ s with toks := s.toks + 1 } : Shared).heap.get? e = some ⟨.ref C,none,.fields fs,#[]⟩ := he
  refine codeAny_call_builtin_at (b := Builtin.«object.__setattr__») (Code.quiet_builtin _ (by decide +kernel)) os_entry ?_
  refine check_slot (id := "object.__setattr__") (owner := "object") (name := "__setattr__") (self := .ref e) (rest := [.str name s.toks,v]) os_kind os_split ?_ (os_args e _ _ _) ?_
  · exact inst_of X1 XC.cls XC.obj he1 rfl
  unfold Builtin.«object.__setattr__»
  refine wpAny_ite_false rfl ?_
  refine wpAny_bind (over_ok X1 he1 rfl XC.cls XC.ok ?_)
  refine wpAny_bind (wpAny_pure ?_)
  refine wpAny_bind ?_
  unfold typeOf
  refine wpAny_bind (wpAny_loadPart_at he1 (wpAny_pure ?_))
  refine wpAny_bind (W.Looks.here (W.looks_findIn X1 hn) ?_)
  refine wpAny_bind (wpAny_pure ?_)
  unfold Builtin.ObjectAttr.storeInOwnDict
  dsimp only
  refine wpAny_bind (wpAny_pure ?_)
  rw [if_neg (by simp)]
  refine wpAny_bind ?_
  refine inst_dict X1 XC.cls XC.dct he1 ?_
  have hlt : e < s.heap.objs.size := Heap.lt_size he
  have hne : s.heap.objs.size ≠ e := Ne.symm (Nat.ne_of_lt hlt)
  have hp : (s.heap.push { cls := .type "dict",data := .dict #[] }).get? e = some ⟨.ref C,none,.fields fs,#[]⟩ := Heap.get?_push_of_some _ he
  have hd0 : ((s.heap.push { cls := .type "dict",data := .dict #[] }).update e fun o => { o with dict := some s.heap.objs.size }).Ns1 s.heap.objs.size (fun _ => none) := by
    refine ⟨_,#[],_,(Heap.get?_update_other _ _ (Ne.symm hne)).trans (Heap.get?_push_size _ rfl),rfl,?_,?_,fun _ => rfl⟩
    · intro x hx
      simp at hx
    · unfold UniqKeys
      simp
  dsimp only
  unfold Builtin.ObjectAttr.storeInDict
  refine wpAny_bind (wpAny_pure (wpAny_bind (wpAny_nsSet1 (s := { s with heap := (s.heap.push { cls := .type "dict",data := .dict #[] }).update e fun o => { o with dict := some s.heap.objs.size },toks := s.toks + 1 }) hd0 fun h' hn2 hs2 => ?_)))
  obtain ⟨oD,esD,epD,hoD,hdD,hcD⟩ := hn2.count (PySem.Within.cons (ns := []) name v (fun _ z => absurd rfl z))
  refine wpAny_bind (wpAny_lookBehind hoD (by rw [hdD]; exact pastItsLine_dict (Nat.le_trans hcD (Nat.le_add_left 1 _))) ?_)
  refine wpAny_pure (hq h' _ ?_ hn2 fun b o hb ho => ?_)
  · exact (hs2.2 _ (Ne.symm hne)).trans (Heap.get?_update_self _ hp rfl)
  · have hbs : b ≠ s.heap.objs.size := Nat.ne_of_lt (Heap.lt_size ho)
    refine (hs2.2 _ hbs).trans ?_
    rw [Heap.get?_update_other _ _ (Ne.symm hb)]
    exact Heap.get?_push_of_some _ ho
def LeftD (base : Heap) (l : List Env) (e : Addr) (cls a0 : Value) (dx : Option Addr) (h h' : Heap) : Prop := base.LeftW l e cls a0 h h' ∧ ∃ oe,h'.get? e = some oe ∧ oe.dict = dx
theorem mapFields_dict (f : Array Value → Array Value) (o : Obj) : (Obj.mapFields f o).dict = o.dict := by
  unfold Obj.mapFields
  split <;> rfl
theorem left_of {base h h1 : Heap} {l : List Env} {e : Addr} {oe : Obj} {vs : Array Value} {a0 : Value} {dx : Option Addr} {tb : Obj} {ts : Array Value} (hl : h.FunFrames base l) (he : h.get? e = some oe) (hkb : base.StaysIn h) (hen : base.get? e = none) (hd : oe.data = .fields vs) (hsz : 1 < vs.size) (h0 : vs[0]? = some a0) (hdx : oe.dict = dx)
    (S : Heap.SlotsOnly (List.filterMap (fun x => x.frame) l) h h1) (ht : tb.data = .fields ts) (h3 : 3 < ts.size) :
    LeftD base l e oe.cls a0 dx h (((h1.push tb).update e (Obj.mapFields fun x => x.setIfInBounds 1 (.ref h1.objs.size))).update h1.objs.size (Obj.mapFields fun x => x.setIfInBounds 3 .none)) := by
  have hene : e ∉ List.filterMap (fun x => x.frame) l := fun hm => by
    obtain ⟨_,o,ho,hnf⟩ := hl.mem hm
    rw [he] at ho
    cases ho
    exact hnf vs hd
  have he1 : h1.get? e = some oe := (S.2.1 e hene).trans he
  have he2 := Heap.get?_push_of_some tb he1
  have hTe : h1.objs.size ≠ e := Nat.ne_of_gt (Heap.lt_size he1)
  have hd3 := Obj.data_mapFields hd fun x => x.setIfInBounds 1 (.ref h1.objs.size)
  have he3 := Heap.get?_update_self (Obj.mapFields fun x => x.setIfInBounds 1 (.ref h1.objs.size)) he2 (Obj.isFreed_of_fields hd3)
  have hT2 : (h1.push tb).get? h1.objs.size = some tb := Heap.get?_push_size h1 (Obj.isFreed_of_fields ht)
  have hT3 : ((h1.push tb).update e (Obj.mapFields fun x => x.setIfInBounds 1 (.ref h1.objs.size))).get? h1.objs.size = some tb := (Heap.get?_update_other _ _ (Ne.symm hTe)).trans hT2
  have hdT := Obj.data_mapFields ht fun x => x.setIfInBounds 3 .none
  have hT4 := Heap.get?_update_self (Obj.mapFields fun x => x.setIfInBounds 3 .none) hT3 (Obj.isFreed_of_fields hdT)
  have he4 : (((h1.push tb).update e (Obj.mapFields fun x => x.setIfInBounds 1 (.ref h1.objs.size))).update h1.objs.size (Obj.mapFields fun x => x.setIfInBounds 3 .none)).get? e = some (Obj.mapFields (fun x => x.setIfInBounds 1 (.ref h1.objs.size)) oe) := (Heap.get?_update_other _ _ hTe).trans he3
  have other : ∀ b o,h1.get? b = some o → b ≠ e → (((h1.push tb).update e (Obj.mapFields fun x => x.setIfInBounds 1 (.ref h1.objs.size))).update h1.objs.size (Obj.mapFields fun x => x.setIfInBounds 3 .none)).get? b = some o := fun b o ho hb => by
    have hbT : h1.objs.size ≠ b := Nat.ne_of_gt (Heap.lt_size ho)
    rw [Heap.get?_update_other _ _ hbT,Heap.get?_update_other _ _ (Ne.symm hb)]
    exact Heap.get?_push_of_some _ ho
  have baseF : ∀ b,b ∈ List.filterMap (fun x => x.frame) l → base.get? b = none := fun b hm => (hl.mem hm).1
  refine ⟨⟨fun b o hbo => ?_,?_,?_,fun b o ho hnf => ?_⟩,_,he4,(mapFields_dict _ _).trans hdx⟩
  · have hb : b ≠ e := fun z => by
      rw [z,hen] at hbo
      cases hbo
    refine other b o ?_ hb
    rw [S.2.1 b fun hm => by rw [baseF b hm] at hbo; cases hbo]
    exact hkb b o hbo
  · refine Heap.FunFrames.of_keeps (fun b o ho hnf => ?_) (Heap.FunFrames.of_slotsOnly S hl)
    have hb : b ≠ e := fun z => by
      rw [z,he1] at ho
      cases ho
      exact hnf vs hd
    exact ⟨o,other b o ho hb,rfl⟩
  · refine ⟨_,_,h1.objs.size,_,_,he4,⟨Obj.cls_mapFields _ _,?_⟩,hd3,?_,?_,hTe,hT4,hdT,?_⟩
    · rw [Array.getElem?_setIfInBounds_ne (by decide)]
      exact h0
    · rw [Array.getElem?_setIfInBounds_self_of_lt hsz]
    · cases hq : base.get? h1.objs.size with
      | none => rfl
      | some o =>
        have := hkb _ _ hq
        have hlt := Heap.lt_size this
        rw [S.1] at hlt
        exact absurd hlt (Nat.lt_irrefl _)
    · rw [Array.getElem?_setIfInBounds_self_of_lt h3]
  · obtain ⟨sl,hsl⟩ := S.2.2 b o ho
    have hb : b ≠ e := fun z => by
      rw [z,he] at ho
      cases ho
      exact hnf vs hd
    exact ⟨sl,other b _ hsl hb⟩
theorem place_len {L : Nat} {pl : List Value} (h : IsPlace pl) (x : Value) : ([x,Value.ref L,Value.none,rawInt (L : Int),Value.none] ++ if pl.isEmpty = true then List.replicate 6 Value.none else pl).toArray.size = 11 := by
  rcases h with rfl | ⟨a,b,c,d,c9,b10,_,rfl⟩ <;> rfl
theorem leave_first {M : Model} {A : Around} {E : Value → Shared → Prop} {s : Shared} {base : Heap} {env : Env} {outer : List Env} {L e : Addr} {oe : Obj} {vs : Array Value} {a0 : Value} {dx : Option Addr} {Q : Unit → Shared → Prop} (hfr : A.frames = some (env :: outer)) (hl : s.heap.FunFrames base (env :: outer)) (hf : env.frame = some L) (he : s.heap.get? e = some oe) (hkb : base.StaysIn s.heap) (hen : base.get? e = none) (hd : oe.data = .fields vs) (h1 : vs[1]? = some .none) (h0 : vs[0]? = some a0) (hdx : oe.dict = dx)
    (h : ∀ h' : Heap,LeftD base (env :: outer) e oe.cls a0 dx s.heap h' → Q () { s with heap := h' }) : wpAny M A (leaving env (.ref e)) Q E s := by
  have hsz : 1 < vs.size := (Array.getElem?_eq_some_iff.mp h1).1
  unfold leaving noteFrame
  simp only [hf]
  refine wpAny_bind (wpAny_bind (wpAny_field he hd h1 ?_))
  rw [if_neg (by decide)]
  refine wpAny_bind (wpAny_frameOf_fun hfr hl hf fun hh S => wpAny_bind (wpAny_entryPlaceOf fun pl hpl => wpAny_bind ?_))
  unfold EntryCells.newEntry newFields
  have hlen : ∀ x : Value,([x,Value.ref L,Value.none,rawInt (L : Int),Value.none] ++ if pl.isEmpty = true then List.replicate 6 Value.none else pl).toArray.size = 11 := place_len hpl
  refine wpAny_newObj_type ?_ (by show Array.size _ ≤ sizeLine + 2; rw [hlen]; decide)
  have hene : e ∉ List.filterMap (fun x => x.frame) (env :: outer) := fun hm => by
    obtain ⟨_,o,ho,hnf⟩ := hl.mem hm
    rw [he] at ho
    cases ho
    exact hnf vs hd
  have he1 : hh.get? e = some oe := (S.2.1 e hene).trans he
  refine wpAny_setField (Heap.get?_push_of_some _ he1) hd hsz ?_
  unfold setFlight
  have hd3 := Obj.data_mapFields hd fun x => x.setIfInBounds 1 (.ref hh.objs.size)
  refine wpAny_bind (wpAny_field (Heap.get?_update_self (Obj.mapFields fun x => x.setIfInBounds 1 (.ref hh.objs.size)) (Heap.get?_push_of_some _ he1) (Obj.isFreed_of_fields hd3)) hd3 (Array.getElem?_setIfInBounds_self_of_lt hsz) ?_)
  rw [if_pos (by rfl)]
  have hTe : hh.objs.size ≠ e := Nat.ne_of_gt (Heap.lt_size he1)
  refine wpAny_setField ((Heap.get?_update_other _ _ (Ne.symm hTe)).trans (Heap.get?_push_size hh rfl)) rfl ?_ ?_
  · rw [hlen]
    decide
  · exact h _ (left_of hl he hkb hen hd hsz h0 hdx S rfl (by rw [hlen]; decide))
theorem note_next {M : Model} {A : Around} {E : Value → Shared → Prop} {s : Shared} {base : Heap} {env : Env} {outer : List Env} {L e T : Addr} {oe oT : Obj} {vs ts : Array Value} {a0 : Value} {dx : Option Addr} {Q : Unit → Shared → Prop} (hfr : A.frames = some (env :: outer)) (hl : s.heap.FunFrames base (env :: outer)) (hf : env.frame = some L) (he : s.heap.get? e = some oe) (hkb : base.StaysIn s.heap) (hen : base.get? e = none) (hd : oe.data = .fields vs) (h1 : vs[1]? = some (.ref T)) (h0 : vs[0]? = some a0) (hdx : oe.dict = dx)
    (hbT : base.get? T = none) (hTe0 : T ≠ e) (hT : s.heap.get? T = some oT) (hdT : oT.data = .fields ts) (h3 : ts[3]? = some .none)
    (h : ∀ h' : Heap,LeftD base (env :: outer) e oe.cls a0 dx s.heap h' → Q () { s with heap := h' }) : wpAny M A (noteFrame (.ref e) env) (fun _ s' => wpAny M A (setFlight (.ref e) none) Q E s') E s := by
  have hsz : 1 < vs.size := (Array.getElem?_eq_some_iff.mp h1).1
  unfold noteFrame
  simp only [hf]
  refine wpAny_bind (wpAny_field he hd h1 ?_)
  rw [if_pos (by rfl)]
  refine wpAny_bind (wpAny_field hT hdT h3 ?_)
  rw [if_neg (by unfold rawInt; intro z; cases z)]
  refine wpAny_bind (wpAny_setField hT hdT (Array.getElem?_eq_some_iff.mp h3).1 ?_)
  have hdT2 := Obj.data_mapFields hdT fun x => x.setIfInBounds 3 .none
  have keep : ∀ b o,b ≠ T → s.heap.get? b = some o → (s.heap.update T (Obj.mapFields fun x => x.setIfInBounds 3 .none)).get? b = some o := fun b o hb ho => (Heap.get?_update_other _ _ (Ne.symm hb)).trans ho
  have he' := keep e oe (Ne.symm hTe0) he
  have hkb' : base.StaysIn (s.heap.update T (Obj.mapFields fun x => x.setIfInBounds 3 .none)) := fun b o hb => keep b o (fun z => by rw [z,hbT] at hb; cases hb) (hkb b o hb)
  have hl' : (s.heap.update T (Obj.mapFields fun x => x.setIfInBounds 3 .none)).FunFrames base (env :: outer) := Heap.FunFrames.of_keeps (fun b o ho hnf => ⟨o,keep b o (fun z => by
    rw [z,hT] at ho
    cases ho
    exact hnf ts hdT) ho,rfl⟩) hl
  have keepN : ∀ b o,s.heap.get? b = some o → (∀ vs : Array Value,o.data ≠ .fields vs) → (s.heap.update T (Obj.mapFields fun x => x.setIfInBounds 3 .none)).get? b = some o := fun b o ho hnf => keep b o (fun z => by
    rw [z,hT] at ho
    cases ho
    exact hnf ts hdT) ho
  replace he := he'
  replace hkb := hkb'
  replace hl := hl'
  clear he' hkb' hl' keep
  generalize s.heap.update T (Obj.mapFields fun x => x.setIfInBounds 3 .none) = hp at he hkb hl keepN ⊢
  refine wpAny_bind (wpAny_frameOf_fun (s := { s with heap := hp }) hfr hl hf fun hh S => wpAny_bind (wpAny_entryPlaceOf fun pl hpl => wpAny_bind ?_))
  unfold EntryCells.newEntry newFields
  have hlen : ∀ x : Value,([x,Value.ref L,Value.none,rawInt (L : Int),Value.none] ++ if pl.isEmpty = true then List.replicate 6 Value.none else pl).toArray.size = 11 := place_len hpl
  refine wpAny_newObj_type ?_ (by show Array.size _ ≤ sizeLine + 2; rw [hlen]; decide)
  have hene : e ∉ List.filterMap (fun x => x.frame) (env :: outer) := fun hm => by
    obtain ⟨_,o,ho,hnf⟩ := hl.mem hm
    rw [he] at ho
    cases ho
    exact hnf vs hd
  have he1 : hh.get? e = some oe := (S.2.1 e hene).trans he
  refine wpAny_setField (Heap.get?_push_of_some _ he1) hd hsz ?_
  unfold setFlight
  have hd3 := Obj.data_mapFields hd fun x => x.setIfInBounds 1 (.ref hh.objs.size)
  refine wpAny_bind (wpAny_field (Heap.get?_update_self (Obj.mapFields fun x => x.setIfInBounds 1 (.ref hh.objs.size)) (Heap.get?_push_of_some _ he1) (Obj.isFreed_of_fields hd3)) hd3 (Array.getElem?_setIfInBounds_self_of_lt hsz) ?_)
  rw [if_pos (by rfl)]
  have hTe : hh.objs.size ≠ e := Nat.ne_of_gt (Heap.lt_size he1)
  refine wpAny_setField ((Heap.get?_update_other _ _ (Ne.symm hTe)).trans (Heap.get?_push_size hh rfl)) rfl ?_ ?_
  · rw [hlen]
    decide
  · obtain ⟨⟨l1,l2,l3,l4⟩,l5⟩ := left_of hl he hkb hen hd hsz h0 hdx S (tb := { cls := .type "traceback",data := .fields ([Value.ref T,Value.ref L,Value.none,rawInt (L : Int),Value.none] ++ if pl.isEmpty = true then List.replicate 6 Value.none else pl).toArray }) rfl (by rw [hlen]; decide)
    exact h _ ⟨⟨l1,l2,l3,fun b o ho hnf => l4 b o (keepN b o ho hnf) hnf⟩,l5⟩
theorem leave_next {M : Model} {A : Around} {E : Value → Shared → Prop} {s : Shared} {base : Heap} {env : Env} {outer : List Env} {L e T : Addr} {oe oT : Obj} {vs ts : Array Value} {a0 : Value} {dx : Option Addr} {Q : Unit → Shared → Prop} (hfr : A.frames = some (env :: outer)) (hl : s.heap.FunFrames base (env :: outer)) (hf : env.frame = some L) (he : s.heap.get? e = some oe) (hkb : base.StaysIn s.heap) (hen : base.get? e = none) (hd : oe.data = .fields vs) (h1 : vs[1]? = some (.ref T)) (h0 : vs[0]? = some a0) (hdx : oe.dict = dx)
    (hbT : base.get? T = none) (hTe0 : T ≠ e) (hT : s.heap.get? T = some oT) (hdT : oT.data = .fields ts) (h3 : ts[3]? = some .none)
    (h : ∀ h' : Heap,LeftD base (env :: outer) e oe.cls a0 dx s.heap h' → Q () { s with heap := h' }) : wpAny M A (leaving env (.ref e)) Q E s := wpAny_bind (note_next hfr hl hf he hkb hen hd h1 h0 hdx hbT hTe0 hT hdT h3 h)
theorem land_again {M : Model} {A : Around} {E : Value → Shared → Prop} {s : Shared} {base : Heap} {l : List Env} {e : Addr} {oe : Obj} {cls a0 : Value} {dx : Option Addr} {Q : Unit → Shared → Prop} (F : base.FlyingW l e cls a0 s.heap) (he : s.heap.get? e = some oe) (hdx : oe.dict = dx)
    (h : ∀ h' : Heap,base.FlyingW l e cls a0 h' → s.heap.UpToSlots h' → h'.get? e = some oe → Q () { s with heap := h' }) : wpAny M A (setFlight (.ref e) none) Q E s := by
  obtain ⟨f1,f2,f3,oe2,vs,T,oT,ts,he2,⟨hc,h0⟩,hd,h1,hbT,hTe,hT,hdT,h3⟩ := F
  rw [he] at he2
  cases he2
  unfold setFlight
  refine wpAny_bind (wpAny_field he hd h1 ?_)
  rw [if_pos (by rfl)]
  have h3s := (Array.getElem?_eq_some_iff.mp h3).1
  have hdT2 := Obj.data_mapFields hdT fun x => x.setIfInBounds 3 .none
  have hT2 := Heap.get?_update_self (Obj.mapFields fun x => x.setIfInBounds 3 .none) hT (Obj.isFreed_of_fields hdT2)
  have keep : ∀ b o,b ≠ T → s.heap.get? b = some o → (s.heap.update T (Obj.mapFields fun x => x.setIfInBounds 3 .none)).get? b = some o := fun b o hb ho => (Heap.get?_update_other _ _ (Ne.symm hb)).trans ho
  have nT : ∀ b o,s.heap.get? b = some o → (∀ vs : Array Value,o.data ≠ .fields vs) → b ≠ T := fun b o ho hnf z => by
    rw [z,hT] at ho
    cases ho
    exact hnf ts hdT
  have he3 := keep e oe (Ne.symm hTe) he
  refine wpAny_setField hT hdT h3s (h _ ⟨fun b o hb => keep b o (fun z => by rw [z,hbT] at hb; cases hb) (f1 b o hb),f2,Heap.FunFrames.of_keeps (fun b o ho hnf => ⟨o,keep b o (nT b o ho hnf) ho,rfl⟩) f3,oe,vs,T,_,_,he3,⟨hc,h0⟩,hd,h1,hbT,hTe,hT2,hdT2,?_⟩ (fun b o ho hnf => ⟨o.slots,keep b o (nT b o ho hnf) ho⟩) he3)
  rw [Array.getElem?_setIfInBounds_self_of_lt h3s]
end PySem
namespace L2
open PySem PySem.Spec PyProof.Rows
structure FlyD (h0 : Heap) (H : Hp) (a T : Addr) (C : Value) (dx : Option Addr) (h : Heap) : Prop where
  na : h0.get? a = none
  fa : H a = none
  nT : h0.get? T = none
  fT : H T = none
  ob : ∃ oe vs a0 oT ts,h.get? a = some oe ∧ oe.cls = C ∧ oe.dict = dx ∧ oe.data = .fields vs ∧ vs[0]? = some a0 ∧ vs[1]? = some (.ref T) ∧ T ≠ a ∧ h.get? T = some oT ∧ oT.data = .fields ts ∧ ts[3]? = some .none
structure FlyE (h0 : Heap) (H : Hp) (a : Addr) (C : Value) (dx : Option Addr) (h : Heap) : Prop where
  na : h0.get? a = none
  fa : H a = none
  ob : ∃ oe vs a0,h.get? a = some oe ∧ oe.cls = C ∧ oe.dict = dx ∧ oe.data = .fields vs ∧ vs[0]? = some a0 ∧ vs[1]? = some .none
def CXD (P : Program) (w : World) : CXT := fun outer H s E e s' => ∃ (a T : Addr) (C : Value) (dx : Option Addr) (H' : Hp),e = .ref a ∧ s'.os = s.os ∧ AllBare s'.gens ∧ Un (frs outer) [] H H' s.heap s'.heap ∧ HOk P w H' s'.heap ∧
  FlyD s.heap H' a T C dx s'.heap ∧ E C dx H'
def XED (X : Cx) (E : XK) : Value → Shared → Prop := fun e s' => ∃ (a : Addr) (C : Value) (dx : Option Addr) (H' : Hp) (σ : St),e = .ref a ∧ Inv X [] σ H' s' ∧ (FlyE X.s₀.heap H' a C dx s'.heap ∨ ∃ T,FlyD X.s₀.heap H' a T C dx s'.heap) ∧ E C dx H'
def XTD (X : Cx) (E : XK) : Value → Shared → Prop := fun e s' => ∃ (a T : Addr) (C : Value) (dx : Option Addr) (H' : Hp) (σ : St),e = .ref a ∧ Inv X [] σ H' s' ∧ FlyD X.s₀.heap H' a T C dx s'.heap ∧ (∀ p ∈ X.pn,p.1 ≠ a ∧ p.1 ≠ T) ∧ E C dx H'
section
variable {X : Cx} {pins : List (Addr × Obj)} {σ : St} {H H' : Hp} {s s' : Shared}
theorem passTD {E : XK} (hex : X.ex = []) : Passes (CXD X.prog X.w) (X.wish (XTD X E)) E := fun pins σ H s e s' I q => by
  obtain ⟨a,T,C,dx,H',rfl,os,bare,un,hok,fl,qE⟩ := q
  have I0 : Inv X pins σ H s := I.unwish
  refine ⟨a,T,C,dx,H',σ,rfl,(I0.call' os un hok bare (fun b z => absurd z (by simp))).nopins,⟨I0.new0 hex fl.na,fl.fa,I0.new0 hex fl.nT,fl.fT,fl.ob⟩,fun p hp => ?_,qE⟩
  have e := (I0.pin p (List.mem_append_left _ hp)).1
  exact ⟨fun z => (by rw [z,fl.na] at e; cases e),fun z => (by rw [z,fl.nT] at e; cases e)⟩
theorem Shift.flyD {ts : List Addr} {h' : Heap} {a : Addr} {C a0 : Value} {dx : Option Addr} (I : Inv X pins σ H s) (hex : X.ex = []) (hts : ∀ b ∈ ts,X.s₀.heap.get? b = none ∧ H b = none) (ha : a ∈ ts)
    (hf : h'.FunFrames (PySem.W.hideAll s.heap (ts ++ frs X.stack)) X.stack) (tr : h'.TracedW (PySem.W.hideAll s.heap (ts ++ frs X.stack)) a C a0) (hd : ∃ oe,h'.get? a = some oe ∧ oe.dict = dx) : ∃ T,FlyD X.s₀.heap H a T C dx h' := by
  obtain ⟨T,fl,_⟩ := Shift.fly I hex hts ha hf tr
  obtain ⟨oe,vs,a0,oT,tv,he,r⟩ := fl.ob
  obtain ⟨oe2,he2,hdx⟩ := hd
  rw [he] at he2
  cases he2
  exact ⟨T,fl.na,fl.fa,fl.nT,fl.fT,oe,vs,a0,oT,tv,he,r.1,hdx,r.2⟩
end
section
variable {P : Program} {w : World} {K : PySem.W.Frag} {mg : Str → Option Value} {base : Heap} {N : List Str} {qual : Str} {scope : Scope} {f : Addr} {cd : Value} {A : Around} {outer : List Env} {s : Shared} {H : Hp} {E : XK}
theorem xe_ofD {e : Value} {s' : Shared} (h : XED (cxOf (CXD P w) P w K mg base N qual scope f cd A outer s H E) E e s') : (cxOf (CXD P w) P w K mg base N qual scope f cd A outer s H E).xe e s' := by
  obtain ⟨a,C,dx,H',σ,rfl,I,fl,q⟩ := h
  have fin : ∀ (ts : List Addr) (a0 : Value) (h' : Heap),(∀ b ∈ ts,s.heap.get? b = none ∧ H' b = none) → a ∈ ts →
      LeftD (PySem.W.hideAll s'.heap (ts ++ frs (envOfC qual scope s.heap.objs.size f cd :: outer))) (envOfC qual scope s.heap.objs.size f cd :: outer) a C a0 dx s'.heap h' →
      CXD P w outer H s E (.ref a) { s' with heap := h' } := fun ts a0 h' hts ha ⟨⟨k1,k2,k3,k4⟩,k5⟩ => by
    have S : Shift (cxOf (CXD P w) P w K mg base N qual scope f cd A outer s H E) ts s'.heap h' := ⟨k1,k4⟩
    obtain ⟨T,fT⟩ := Shift.flyD I rfl hts ha k2 k3 k5
    exact ⟨a,T,C,dx,H',rfl,I.os,I.bare,S.un I fun b z => (hts b z).1,S.hok I fun b z => (hts b z).2,fT,q⟩
  have hfr : (A.deeper (envOfC qual scope s.heap.objs.size f cd)).frames = some (envOfC qual scope s.heap.objs.size f cd :: outer) := I.ok.frames
  rcases fl with fl | ⟨T,fl⟩
  · obtain ⟨oe,vs,a0,he,rfl,hdx,hd,h0,h1⟩ := fl.ob
    refine leave_first (base := PySem.W.hideAll s'.heap ([a] ++ frs (envOfC qual scope s.heap.objs.size f cd :: outer))) hfr (fun_hide I [a]) rfl he (hide_stays _ _) (PySem.W.hideAll_none _ (List.mem_append_left _ (by simp))) hd h1 h0 hdx fun h' L => ?_
    exact fin [a] a0 h' (fun b hb => by cases (List.mem_singleton.mp hb); exact ⟨fl.na,fl.fa⟩) (by simp) L
  · obtain ⟨oe,vs,a0,oT,tv,he,rfl,hdx,hd,h0,h1,hTe,hT,hdT,h3⟩ := fl.ob
    refine leave_next (base := PySem.W.hideAll s'.heap ([a,T] ++ frs (envOfC qual scope s.heap.objs.size f cd :: outer))) hfr (fun_hide I [a,T]) rfl he (hide_stays _ _) (PySem.W.hideAll_none _ (List.mem_append_left _ (by simp))) hd h1 h0 hdx (PySem.W.hideAll_none _ (List.mem_append_left _ (by simp))) hTe hT hdT h3 fun h' L => ?_
    refine fin [a,T] a0 h' (fun b hb => ?_) (by simp) L
    rcases List.mem_cons.mp hb with z | z
    · subst z; exact ⟨fl.na,fl.fa⟩
    · cases (List.mem_singleton.mp z); exact ⟨fl.nT,fl.fT⟩
end
theorem Fun.okXD {P : Program} {w : World} {K : PySem.W.Frag} {mg : Str → Option Value} {base : Heap} {x qual : Str} {st : Stmt} {f : Addr} {fd : FuncData} {N ps : List Str} {k : Nat} {sp : Sp} (F : Fun K x qual st f fd) (S : FnScope N ps (defScope st))
    (len : ∀ vs H Q E,sp vs H Q E → vs.length = ps.length)
    (hbody : ∀ (cdv : Value) (A : Around) (outer : List Env) (s : Shared) (H : Hp) (vs : List V) (Q : VK) (E : XK),Room k (A.deeper (envOfC qual (defScope st) s.heap.objs.size f cdv)) → sp vs H Q E →
      ∃ t,PSs ((cxOf (CXD P w) P w K mg base N qual (defScope st) f cdv A outer s H E).wish (XED (cxOf (CXD P w) P w K mg base N qual (defScope st) f cdv A outer s H E) E)) (defBody st) t ∧ t { nx := fun _ H' => Q .non H',rt := Q } (start N vs) H) :
    FnOk P w K mg base (CXD P w) (k + 1) f fd ps sp := by
  obtain ⟨oc,od,kV,doc,pm,an,cdv,ct,osl,rfl,lk,hcd⟩ := F.ex
  refine fn_of lk hcd S len fun A outer s H vs Q E hr hsp => ?_
  obtain ⟨t,h,q⟩ := hbody cdv A outer s H vs Q E hr hsp
  refine ⟨t,fun pins s1 σ H1 D I hw => ?_,q⟩
  exact wpAny_mono (h pins s1 σ H1 D (I.wish _) hw) (fun _ _ z => z.unwish) fun e s2 z => xe_ofD z
end L2
namespace PySem
theorem ns_some {K : W.Frag} {h : Heap} {N : Addr} {m : Str → Option Value} {n : Str} {v : Value} (X : K.In h) (G : h.Ns N m) (e : W.nsIn K N n = some (some v)) : m n = some v := by
  obtain ⟨o,es,ep,ho,hd,_,hf⟩ := G
  unfold W.nsIn at e
  split at e
  · rename_i heq
    have h2 := X _ _ heq
    rw [ho] at h2
    cases h2
    cases hd
    have := hf n
    unfold nsFind findBy at this
    rw [← Array.find?_toList] at this
    rw [← this]
    split at e
    · rename_i y hy
      rw [hy]
      cases e
      rfl
    · split at e <;> cases e
  · cases e
theorem getm_base {prog : Program} {w : World} {A : Around} {E : Value → Shared → Prop} {s : Shared} {K : W.Frag} {M : Addr} {pl : Sem Bool} {b : String} {Q : Value × List Value → Shared → Prop} (X : K.In s.heap) (hsp : W.specialIn K (.ref M) (Str.ofString "__getattribute__") = some (some (.builtin "type.__getattribute__"))) (hr : W.readsIn K M (.type "type") = true)
    (hf : W.findCls K (.ref M) (.type "type") (Str.ofString "__init__") = some (.val (.builtin b))) (hb : (withoutEnding? b "#data").isSome = false) (hq : Q (.builtin b,[]) { s with toks := s.toks + 1 }) : wpAny (model prog w) A (getMethod (.ref M) (Str.ofString "__init__") pl) Q E s := by
  unfold getMethod
  refine wpAny_bind (W.Looks.here (W.looks_specialIn X hsp) ?_)
  dsimp only
  rw [if_pos (by decide +kernel)]
  refine wpAny_bind (W.cls_read X hr hf ?_)
  show wpAny _ _ (ret (.builtin b)) _ _ _
  refine wpAny_pure ?_
  unfold handedOut
  dsimp only
  rw [hb,if_neg (by decide)]
  exact wpAny_pure (wpAny_pure hq)
end PySem
namespace PySem.W
open PySem PySem.Calls PyProof.Rows Builtin Builtin.ObjectAttr Builtin.Getset_descriptor
structure ExcD (K : Frag) (C : Addr) : Prop where
  lk : ∃ nm q N bs bm hdct sn sub ab col dd k0 k1 k2 k3 k5 nw,K.lookup C = some (excClassObj nm q C N bs bm hdct sn sub ab col dd k0 k1 k2 k3 k5 nw)
  ga : findIn K (.ref C) "__getattribute__" = some (some (.builtin "BaseException.__getattribute__"))
  no : findIn K (.ref C) "__getattr__" = some none
  cl : findIn K (.ref C) "__class__" = some (some (.builtin "object.__class__"))
  ob : mroIn K C (.type "object") = some true
  be : mroIn K C (.type "BaseException") = some true
section
variable {prog : Program} {w : World} {A : Around} {E : Value → Shared → Prop} {s : Shared} {K : Frag} {x C D : Addr} {ox : Obj}
end
end PySem.W
namespace L2
open PySem PySem.Spec PyProof.Rows
def XN (e C : Addr) (dx : Option Addr) : HO := .ext fun h => ∃ t,h.get? e = some ⟨.ref C,dx,.fields #[.ref t,.none,.none,.none,.bool false,.none],#[]⟩
theorem XN.mk {P : Program} {w : World} {H : Hp} {h : Heap} {e C t : Addr} {dx : Option Addr} (he : h.get? e = some ⟨.ref C,dx,.fields #[.ref t,.none,.none,.none,.bool false,.none],#[]⟩) : ObjOk P w H h e (XN e C dx) := ⟨⟨t,he⟩,⟨_,he⟩,fun _ _ ⟨t',e1⟩ k => ⟨t',k _ e1⟩⟩
theorem XN.at {P : Program} {w : World} {H : Hp} {h : Heap} {e C : Addr} {dx : Option Addr} (ok : HOk P w H h) (q : H e = some (XN e C dx)) : ∃ t,h.get? e = some ⟨.ref C,dx,.fields #[.ref t,.none,.none,.none,.bool false,.none],#[]⟩ := (ok e _ q).1
structure OwnX (K : PySem.W.Frag) (C fI : Addr) (fl : Str) : Prop where
  ex : ∃ nm q N bs bm hdct sn sub ab col dd k0 k1 k2 k3 k5,K.lookup C = some (excClassObj nm q C N bs bm hdct sn sub ab col dd k0 k1 k2 k3 k5 newVE) ∧ PySem.W.tailIn K bmVE bm = true ∧ PySem.W.nsOkIn K N = true ∧ PySem.W.nsIn K N "__init__" = some (some (.ref fI))
  fn : PySem.W.isFn K (.ref fI) = true
  xc : ∃ cd,XCls K C cd
  fd : PySem.W.findIn K (.ref C) fl = some none
  kp : PySem.W.keepIn K (.ref C) = true
structure BaseX (K : PySem.W.Frag) (M : Addr) : Prop where
  sp : PySem.W.specialIn K (.ref M) (Str.ofString "__getattribute__") = some (some (.builtin "type.__getattribute__"))
  rd : PySem.W.readsIn K M (.type "type") = true
  fc : PySem.W.findCls K (.ref M) (.type "type") (Str.ofString "__init__") = some (.val (.builtin "ValueError.__init__"))
section
variable {X : Cx} {pins : List (Addr × Obj)} {σ : St} {H : Hp} {s : Shared}
theorem OwnX.get {K : PySem.W.Frag} {C fI : Addr} {fl : Str} {h : Heap} (O : OwnX K C fI fl) (I : K.In h) : ∃ nm q N bs bm hdct sn sub ab col dd k0 k1 k2 k3 k5 mN,h.get? C = some (excClassObj nm q C N bs bm hdct sn sub ab col dd k0 k1 k2 k3 k5 newVE) ∧ OwnTail h bmVE bm ∧ h.Ns N mN ∧ mN "__init__" = some (.ref fI) := by
  obtain ⟨nm,q,N,bs,bm,hdct,sn,sub,ab,col,dd,k0,k1,k2,k3,k5,l,t,n,i⟩ := O.ex
  have G : h.Ns N (h.nsMap N) := .of_isNs (PySem.W.isNs_of_in I n)
  exact ⟨nm,q,N,bs,bm,hdct,sn,sub,ab,col,dd,k0,k1,k2,k3,k5,_,I _ _ l,PySem.W.tail_of_in I t,G,ns_some I G i⟩
theorem pe_frep {e : Expr} {te : TE} {pos : Pos} (he : PE X e te) : PE X (.FormattedValue e 114 none pos) (fun σ H Q => te σ H fun v H1 => (∃ i,v = .int i ∧ i.natAbs.log2 < 1920 ∧ (Str.ofString (toString i)).length ≤ sizeLine ∧ Q (.str (toString i)) H1) ∨ (v = .non ∧ Q (.str "None") H1)) := fun pins s σ H Q I hw => by
  refine wpAny_FormattedValue_repr (wpAny_mono (he pins s σ H _ I hw) (fun u s1 q => ?_) fun _ _ z => z)
  obtain ⟨v,H1,I1,r,q⟩ := q
  rcases q with ⟨i,rfl,hi,hl,q⟩ | ⟨rfl,q⟩
  · obtain ⟨t,rfl⟩ := r
    refine pyReprObj_int hi (formatField_str (fun t' tk => ⟨.str (toString i),H1,I1.tok _,⟨_,rfl⟩,q⟩) hl)
  · cases r
    exact pyReprObj_none (formatField_str (fun t' tk => ⟨.str "None",H1,I1.tok _,⟨_,rfl⟩,q⟩) (by decide))
def tXInit (K : PySem.W.Frag) (t : TA) : TE := fun σ H Q => t σ H fun vs H1 => ∃ (e C fI : Addr) (fl : Str) (dx : Option Addr) (v : V),vs = [.ref e,v] ∧ H1 e = some (XN e C dx) ∧ OwnX K C fI fl ∧ Q .non H1
theorem pe_xinit {M : Addr} {x : Str} {np apos pos : Pos} {a1 : Expr} {es : List Expr} {t : TA} (B : BaseX X.K M) (hg : Gl X x) (hm : X.mg x = some (.ref M)) (ha : PA X (a1 :: es) t) (hdb : (x == ("__debug__" : Str)) = false := by decide)
    (he : starEach (a1 :: es) X.env = (false,eval a1 X.env) :: starEach es X.env := by rfl) (hpl : (backTo pos (starEach es X.env)).any (·.1) = false := by rfl) {pl : Sem Bool}
    (ht : eval (.Call (.Attribute (.Name x np) (Str.ofString "__init__") apos) (a1 :: es) [] pos) X.env = (do
      let ov ← eval (.Name x np) X.env; standAt apos.atName; let (f,first) ← holding [ov] (getMethod ov (Str.ofString "__init__") pl)
      callWith pos f first (backTo pos (starEach (a1 :: es) X.env)) (backToKw pos (keywordEach [] X.env))) := by rfl) :
    PE X (.Call (.Attribute (.Name x np) (Str.ofString "__init__") apos) (a1 :: es) [] pos) (tXInit X.K t) := by
  intro pins s σ H Q I h
  refine PySem.W.methodCall_KW (pl := pl) (ld_glob I hg hm ?_ hdb) ht
  refine getm_base I.kIn B.sp B.rd B.fc (by decide +kernel) ?_
  have I1 : Inv X pins σ H { s with toks := s.toks + 1 } := I.tok _
  refine PyProof.Rows.callWith_method1 (thn (ha pos pins _ σ H _ I1 h) fun us s2 ⟨vs,H2,I2,r,q⟩ => ?_) he hpl
  obtain ⟨e,C,fI,fl,dx,v,rfl,hH,O,q⟩ := q
  obtain ⟨u,u2,rfl,r1,r2⟩ := vals2 r
  cases (show u = Value.ref e from r1)
  obtain ⟨t0,he0⟩ := XN.at I2.hok hH
  obtain ⟨nm,qn,N,bs,bm,hdct,sn,sub,ab,col,dd,k0,k1,k2,k3,k5,mN,hC,T,hN,hi⟩ := O.get I2.kIn
  obtain ⟨hp,g,d,tk,os⟩ := s2
  refine base_init PySem.F.excBase_ValueError T hC he0 fun h' he' kp => ?_
  have I3 := Inv.write (x := e) (e := e) (o := XN e C dx) (h' := h') (t' := tk) I2 (by rw [hH]; trivial) (.inl rfl) kp ⟨_,he'⟩ (XN.mk he')
  have eq : upd H2 e (XN e C dx) = H2 := by
    funext b
    unfold upd
    split
    · rename_i hb
      rw [hb,hH]
    · rfl
  rw [eq] at I3
  exact ⟨.non,H2,I3,rfl,q⟩
def tXSet (K : PySem.W.Frag) (ta tv : TE) (f : Str) : TS := fun D σ H => tv σ H fun y H1 => ta σ H1 fun x H2 => ∃ e C fI,x = .ref e ∧ H2 e = some (XN e C none) ∧ OwnX K C fI f ∧ ∀ dx,H2 dx = none → D.nx σ (upd (upd H2 dx (.xd [(f,y)])) e (XN e C (some dx)))
theorem ps_xset {o value : Expr} {f : Str} {pos' pos : Pos} {ta tv : TE} (ha : PE X o ta) (hv : PE X value tv) (hs : swapsWith value (some (.Attribute o f pos')) pos.line X.env = pure false) : PS X (.Assign [.Attribute o f pos'] value pos) (tXSet X.K ta tv f) := by
  intro pins s σ H D I h
  refine plainObj_wpAny_Assign_Attribute (thn (hv pins s σ H _ I h) fun u s1 ⟨y,H1,I1,ry,q⟩ => thn (ha pins s1 σ H1 _ I1 q) fun ov s2 ⟨x,H2,I2,rx,e,C,fI,ex,hH,O,q2⟩ => ?_) hs
  subst ex
  obtain rfl : ov = Value.ref e := rx
  obtain ⟨t0,he0⟩ := XN.at I2.hok hH
  obtain ⟨cd,XC⟩ := O.xc
  refine exc_set I2.kIn XC he0 O.fd fun h' tk he' hns kp => ?_
  have hlt : e < s2.heap.objs.size := Heap.lt_size he0
  have hne : e ≠ s2.heap.objs.size := Nat.ne_of_lt hlt
  have hd0 : H2 s2.heap.objs.size = none := I2.hok.fresh (Nat.le_refl _)
  have q3 := q2 _ hd0
  have hold := Heap.get?_update_self (fun _ : Obj => ⟨.ref C,none,.fields #[.ref t0,.none,.none,.none,.bool false,.none],#[]⟩) he' rfl
  have I3 : Inv X pins σ (upd H2 s2.heap.objs.size (.xd [(f,y)])) { s2 with heap := h'.update e fun _ => ⟨.ref C,none,.fields #[.ref t0,.none,.none,.none,.bool false,.none],#[]⟩,toks := tk } := by
    refine I2.laid (fun b o ho => ?_) (Nat.le_refl _) ⟨_,hns.at fun o ho => ?_,fun g => ?_⟩
    · by_cases hb : b = e
      · rw [hb] at ho ⊢
        rw [hold,← he0,ho]
      · rw [Heap.get?_update_other _ _ (Ne.symm hb)]
        exact kp b o hb ho
    · rw [Heap.get?_update_other _ _ hne]
      exact ho
    · show RelO (List.lookup g [(f,y)]) (if g = f then some u else none)
      by_cases hg : g = f
      · have hb : (g == f) = true := beq_iff_eq.mpr hg
        rw [if_pos hg]
        simp only [List.lookup,hb]
        exact ry
      · have hb : (g == f) = false := beq_eq_false_iff_ne.mpr hg
        rw [if_neg hg]
        simp only [List.lookup,hb]
        trivial
  have hH3 : upd H2 s2.heap.objs.size (.xd [(f,y)]) e = some (XN e C none) := by rw [upd_ne hne]; exact hH
  have I4 := Inv.write (x := e) (e := e) (o := XN e C (some s2.heap.objs.size)) (h' := h') (t' := tk) I3 (by rw [hH3]; trivial) (.inl rfl) (fun b o hb ho => by
    have ho' : (h'.update e fun _ => ⟨.ref C,none,.fields #[.ref t0,.none,.none,.none,.bool false,.none],#[]⟩).get? b = some o := ho
    rw [Heap.get?_update_other _ _ (Ne.symm hb)] at ho'
    exact ho') ⟨_,he'⟩ (XN.mk he')
  exact ⟨σ,_,I4,q3⟩
def unt (H : Hp) (x : Addr) : Hp := fun b => if b = x then none else H b
theorem unt_ne {H : Hp} {x b : Addr} (h : b ≠ x) : unt H x b = H b := by unfold unt; rw [if_neg h]
theorem unt_same {H : Hp} {x : Addr} : unt H x x = none := by unfold unt; rw [if_pos rfl]
theorem Inv.untrack {x C : Addr} {dx : Option Addr} (I : Inv X pins σ H s) (hx : H x = some (XN x C dx)) : Inv X pins σ (unt H x) s := by
  have nn : ∀ b,H b = none → unt H x b = none := fun b h => by
    unfold unt
    split
    · rfl
    · exact h
  have ne : ∀ b o,H b = some o → o ≠ XN x C dx → unt H x b = some o := fun b o h n => by
    rw [unt_ne]
    · exact h
    · intro z
      rw [z,hx] at h
      exact n (Option.some.inj h).symm
  have nX : ∀ o,o = XN x C dx → ∃ φ,o = .ext φ := fun o h => ⟨_,h⟩
  refine ⟨I.ok,I.os,I.bare,⟨I.base.keep,I.base.slot,fun b o e n hx' => nn b (I.base.free b o e n hx'),I.base.there,fun b xs e => ne b _ (I.base.tups b xs e) (fun z => ?_),fun b o u e => ne b _ (I.base.frzs b o u e) (fun z => ?_),fun b ps e => ?_⟩,I.loc,I.cell,nn _ I.free,fun y c e => nn _ (I.freeC y c e),fun p hp => ?_,fun a o e => ?_,I.len⟩
  · cases z
  · cases z
  · obtain ⟨more,q⟩ := I.base.tbls b ps e
    exact ⟨more,ne b _ q (fun z => by cases z)⟩
  · obtain ⟨h1,h2,h3⟩ := I.pin p hp
    exact ⟨h1,nn _ h2,h3⟩
  · have hax : a ≠ x := fun z => by
      rw [z,unt_same] at e
      cases e
    rw [unt_ne hax] at e
    exact (I.hok a o e).stay (fun b u _ q => q) (fun b q => ne b _ q (fun z => by cases z)) fun b xs q => ne b _ q (fun z => by cases z)
def tRaiseX (C : Addr) (sp : Sp) (dvs : List V) (E : XK) (t : TA) : TS := fun _ σ H => t σ H fun vs H1 => vs.length ≤ sizeLine ∧ ∀ x,H1 x = none → sp (.ref x :: (vs ++ dvs)) (upd H1 x (XN x C none)) (fun v H2 => v = .non ∧ ∃ dx,H2 x = some (XN x C (some dx)) ∧ E (.ref C) (some dx) (unt H2 x)) E0
theorem ps_raiseX {E : XK} {CX : CXT} {k : Nat} {x fl : Str} {C f : Addr} {fd : FuncData} {ps : List Str} {sp : Sp} {ds : List Value} {dvs : List V} {np cpos pos : Pos} {e : Expr} {es : List Expr} {t : TA} (O : OwnX X.K C f fl) (F : FnOk X.prog X.w X.K X.mg X.base CX k f fd ps sp) (hr : Room (k + 1) X.A) (hg : Gl X x) (hm : X.mg x = some (.ref C)) (hb : Binds X.K fd ps ds) (hd : Vals dvs ds) (hc : X.calm = true) (hex : X.ex = []) (hx : Passes CX (X.wish (XED X E)) E0)
    (ha : PA (X.wish (XED X E)) (e :: es) t) (hdb : (x == ("__debug__" : Str)) = false := by decide) (he : starEach (e :: es) X.env = (false,eval e X.env) :: starEach es X.env := by rfl) (hpl : (backTo cpos (starEach es X.env)).any (·.1) = false := by rfl) :
    PS (X.wish (XED X E)) (.Raise (some (.Call (.Name x np) (e :: es) [] cpos)) none pos) (tRaiseX C sp dvs E t) := by
  intro pins s σ H D I h
  obtain ⟨nm,q,N,bs,bm,hdct,sn,sub,ab,col,dd,k0,k1,k2,k3,k5,lk,tl,nk,ik⟩ := O.ex
  have T0 := PySem.W.tail_of_in I.mod.kin tl
  rw [arm_exec_Raise]
  refine wpAny_bind (wpAny_standAt ?_)
  show wpAny _ _ (raiseStmt _ (some _) none) _ _ _
  refine raise_own (C := C) (nm := nm) (q := q) (N := N) (bs := bs) (bm := bm) (hdct := hdct) (sn := sn) (sub := sub) (ab := ab) (col := col) (dd := dd) (k0 := k0) (k1 := k1) (k2 := k2) (k3 := k3) (k5 := k5) (newId := newVE) (T0.hasType PySem.F.excBase_ValueError.hasBase) (I.ok.hd hc) ?_
  refine wpAny_bind ?_
  show wpAny _ _ (eval (.Call (.Name x np) (e :: es) [] cpos) X.env) _ _ _
  refine wpAny_Call_Name_kw (ld_glob I hg hm ?_ hdb)
  refine PySem.W.callWith_K (h₀ := X.base) I.ok.mod.kin O.kp (thn (ha cpos pins s σ H _ I h) fun us s1 ⟨vs,H1,I1,r,hz,q1⟩ => ⟨I1.kIn,?_⟩) he hpl
  have I1' : Inv X pins σ H1 s1 := I1.unwish
  have hxn : H1 (s1.heap.objs.size + 1) = none := I1.hok.fresh (Nat.le_succ _)
  have q2 := q1 _ hxn
  have na : X.s₀.heap.get? (s1.heap.objs.size + 1) = none := I1'.new0 hex (Heap.get?_none_of_le (Nat.le_succ _))
  obtain ⟨hh,g,d,tk,os⟩ := s1
  have G : hh.Ns N (hh.nsMap N) := .of_isNs (PySem.W.isNs_of_in I1.kIn nk)
  refine call_exc_own PySem.F.excBase_ValueError (by decide) PySem.F.excBase_ValueError (PySem.W.tail_of_in I1.kIn tl) (I1.kIn _ _ lk) G (ns_some I1.kIn G ik) (by rw [List.nil_append,← r.length]; exact hz) ?_
  have hsz : (hh.push (tupObj ([] ++ us))).objs.size = hh.objs.size + 1 := Heap.size_push _ _
  have hget : ((hh.push (tupObj ([] ++ us))).push (excObj C hh.objs.size)).get? (hh.objs.size + 1) = some (excObj C hh.objs.size) := Heap.get?_push_at (by rw [hsz]) rfl
  have Ia : Inv (X.wish (XED X E)) pins σ H1 ⟨hh.push (tupObj ([] ++ us)),g,d,tk,os⟩ := I1.kept (t' := tk) fun b o q => Heap.get?_push_of_some _ q
  have I2 : Inv (X.wish (XED X E)) pins σ (upd H1 (hh.objs.size + 1) (XN (hh.objs.size + 1) C none)) ⟨(hh.push (tupObj ([] ++ us))).push (excObj C hh.objs.size),g,d,tk,os⟩ := Ia.laid (t' := tk) (fun b o q => Heap.get?_push_of_some _ q) (Nat.le_of_eq hsz) (XN.mk hget)
  refine PySem.W.Looks.here (s := ⟨(hh.push (tupObj ([] ++ us))).push (excObj C hh.objs.size),g,d,tk,os⟩) (PySem.W.bind_fn I2.kIn _ (beq_iff_eq.mp O.fn)) ?_
  have r2 : Vals (V.ref (hh.objs.size + 1) :: (vs ++ dvs)) (Value.ref (hh.objs.size + 1) :: (us ++ ds)) := .cons rfl (r.append hd)
  have hl : (Value.ref (hh.objs.size + 1) :: us ++ ds).length = ps.length := by
    have e := r2.length
    rw [F.len _ _ _ _ q2] at e
    exact e.symm
  refine wpAny_call (codeAny_mono (F.run _ X.stack _ _ ⟨Value.ref (hh.objs.size + 1) :: us,[]⟩ (Value.ref (hh.objs.size + 1) :: (us ++ ds)) _ _ E0 (hr.make C us []) (I2.env0.make C us []) (hb _ (Value.ref (hh.objs.size + 1) :: us) I2.kIn hl) r2 q2) fun r s' hq' => ?_)
  cases r with
  | error e => exact hx pins σ _ _ e s' I2 hq'
  | ok fl =>
    cases fl with
    | ret u =>
      obtain ⟨v,H',I3,rv,ev,dx,hx3,qE⟩ := I2.after hq'
      subst ev
      obtain ⟨t3,he3⟩ := XN.at I3.hok hx3
      refine ⟨rv,wpAny_bind (wpAny_standAt (wpAny_pure ⟨_,t3,some dx,rfl,I3.kIn _ _ lk,he3,?_⟩))⟩
      have I3' : Inv X pins σ H' s' := I3.unwish
      exact ⟨_,.ref C,some dx,unt H' (hh.objs.size + 1),σ,rfl,(I3'.untrack hx3).nopins,.inl ⟨na,unt_same,_,_,_,he3,rfl,rfl,rfl,rfl,rfl⟩,qE⟩
    | next => exact False.elim hq'
    | brk => exact False.elim hq'
    | cont => exact False.elim hq'
end
theorem up_trans {h1 h2 h3 : Heap} (a : ∀ (b : Addr) (o : Obj),h1.get? b = some o → (∀ vs : Array Value,o.data ≠ .fields vs) → ∃ sl,h2.get? b = some { o with slots := sl }) (c : h2.UpToSlots h3) : h1.UpToSlots h3 := fun b o ho hnf => by
  obtain ⟨sl,e⟩ := a b o ho hnf
  obtain ⟨sl2,e2⟩ := c b _ e hnf
  exact ⟨sl2,e2⟩
end L2
namespace L2
open PySem PySem.Spec PyProof.Rows
structure FunD (K : PySem.W.Frag) (x qual : Str) (st : Stmt) (f : Addr) (fd : FuncData) : Prop where
  ex : ∃ (oc : Value) (od : Option Addr) (dT : Addr) (oT : Obj) (tn : Nat) (kV doc pm : Value) (an : Option Addr) (cdv ct : Value) (osl : Array (Option Value)),K.lookup dT = some oT ∧ oT.data = .seq #[.none] tn ∧
    fd = PySem.W.fnOf x qual (defArgs st) (defBody st) (defScope st) (.ref dT) kV doc pm an cdv ct ∧ K.lookup f = some ⟨oc,od,.func fd,osl⟩ ∧ PySem.W.codeIn K cdv qual = true
section
variable {P : Program} {w : World} {K : PySem.W.Frag} {mg : Str → Option Value} {base : Heap} {x qual : Str} {st : Stmt} {f : Addr} {fd : FuncData} {N ps : List Str} {k : Nat} {sp : Sp}
theorem FunD.okQ (F : FunD K x qual st f fd) (S : FnScope N ps (defScope st)) (len : ∀ vs H Q E,sp vs H Q E → vs.length = ps.length)
    (hbody : ∀ (cdv : Value) (A : Around) (outer : List Env) (s : Shared) (H : Hp) (vs : List V) (Q : VK) (E : XK),Room k (A.deeper (envOfC qual (defScope st) s.heap.objs.size f cdv)) → sp vs H Q E →
      ∃ t,QSs (cxOf CX0 P w K mg base N qual (defScope st) f cdv A outer s H E).nox (defBody st) t ∧ t { nx := fun _ H' => Q .non H',rt := Q } (start N vs) H) : FnOk P w K mg base CX0 (k + 1) f fd ps sp := by
  obtain ⟨oc,od,dT,oT,tn,kV,doc,pm,an,cdv,ct,osl,lT,hT,rfl,lk,hcd⟩ := F.ex
  refine fn_of lk hcd S len fun A outer s H vs Q E hr hsp => ?_
  obtain ⟨t,h,q⟩ := hbody cdv A outer s H vs Q E hr hsp
  exact ⟨t,h.h.nox,q⟩
theorem FunD.binds {ds : List Value} (F : FunD K x qual st f fd)
    (h : ∀ (dT : Addr) (kV doc pm : Value) (an : Option Addr) (cdv ct : Value) (us : List Value),(us ++ ds).length = ps.length → ∃ k,bindArgs (PySem.W.fnOf x qual (defArgs st) (defBody st) (defScope st) (.ref dT) kV doc pm an cdv ct) ⟨us,[]⟩ = seqItems? (.ref dT) >>= k ∧
      k (some #[.none]) = pure (ps.zip (us ++ ds))) : Binds K fd ps ds := by
  obtain ⟨oc,od,dT,oT,tn,kV,doc,pm,an,cdv,ct,osl,lT,hT,rfl,lk,hcd⟩ := F.ex
  intro s us X hl
  obtain ⟨k,h1,h2⟩ := h dT kV doc pm an cdv ct us hl
  exact .of_defaults rfl (X _ _ lT) hT h1 h2
theorem Fun.okXDQ (F : Fun K x qual st f fd) (S : FnScope N ps (defScope st)) (len : ∀ vs H Q E,sp vs H Q E → vs.length = ps.length)
    (hbody : ∀ (cdv : Value) (A : Around) (outer : List Env) (s : Shared) (H : Hp) (vs : List V) (Q : VK) (E : XK),Room k (A.deeper (envOfC qual (defScope st) s.heap.objs.size f cdv)) → sp vs H Q E →
      ∃ t,QSs ((cxOf (CXD P w) P w K mg base N qual (defScope st) f cdv A outer s H E).wish (XED (cxOf (CXD P w) P w K mg base N qual (defScope st) f cdv A outer s H E) E)) (defBody st) t ∧ t { nx := fun _ H' => Q .non H',rt := Q } (start N vs) H) :
    FnOk P w K mg base (CXD P w) (k + 1) f fd ps sp :=
  F.okXD S len fun cdv A outer s H vs Q E hr h => let ⟨t,a,b⟩ := hbody cdv A outer s H vs Q E hr h; ⟨t,a.h,b⟩
end
section
variable {X : Cx}
theorem qe_frep {e : Expr} {te : TE} {pos : Pos} (he : QE X e te) : QE X (.FormattedValue e 114 none pos) (fun σ H Q => te σ H fun v H1 => (∃ i,v = .int i ∧ i.natAbs.log2 < 1920 ∧ (Str.ofString (toString i)).length ≤ sizeLine ∧ Q (.str (toString i)) H1) ∨ (v = .non ∧ Q (.str "None") H1)) := ⟨pe_frep he.h⟩
theorem qe_xinit {M : Addr} {x : Str} {np apos pos : Pos} {a1 : Expr} {es : List Expr} {t : TA} (B : BaseX X.K M) (hg : Gl X x) (hm : X.mg x = some (.ref M)) (ha : QA X (a1 :: es) t) (hdb : (x == ("__debug__" : Str)) = false := by decide)
    (he : starEach (a1 :: es) X.env = (false,eval a1 X.env) :: starEach es X.env := by rfl) (hpl : (backTo pos (starEach es X.env)).any (·.1) = false := by rfl) {pl : Sem Bool}
    (ht : eval (.Call (.Attribute (.Name x np) (Str.ofString "__init__") apos) (a1 :: es) [] pos) X.env = (do
      let ov ← eval (.Name x np) X.env; standAt apos.atName; let (f,first) ← holding [ov] (getMethod ov (Str.ofString "__init__") pl)
      callWith pos f first (backTo pos (starEach (a1 :: es) X.env)) (backToKw pos (keywordEach [] X.env))) := by rfl) :
    QE X (.Call (.Attribute (.Name x np) (Str.ofString "__init__") apos) (a1 :: es) [] pos) (tXInit X.K t) := ⟨pe_xinit B hg hm ha.h hdb he hpl ht⟩
theorem qs_xset {o value : Expr} {f : Str} {pos' pos : Pos} {ta tv : TE} (ha : QE X o ta) (hv : QE X value tv) (hs : swapsWith value (some (.Attribute o f pos')) pos.line X.env = pure false := by rfl) : QS X (.Assign [.Attribute o f pos'] value pos) (tXSet X.K ta tv f) := ⟨ps_xset ha.h hv.h hs⟩
theorem qs_raiseX {E : XK} {CX : CXT} {k : Nat} {x fl : Str} {C f : Addr} {fd : FuncData} {ps : List Str} {sp : Sp} {ds : List Value} {dvs : List V} {np cpos pos : Pos} {e : Expr} {es : List Expr} {t : TA} (O : OwnX X.K C f fl) (F : FnOk X.prog X.w X.K X.mg X.base CX k f fd ps sp) (hr : Room (k + 1) X.A) (hg : Gl X x) (hm : X.mg x = some (.ref C)) (hb : Binds X.K fd ps ds) (hd : Vals dvs ds) (hc : X.calm = true) (hex : X.ex = []) (hx : Passes CX (X.wish (XED X E)) E0)
    (ha : QA (X.wish (XED X E)) (e :: es) t) (hdb : (x == ("__debug__" : Str)) = false := by decide) (he : starEach (e :: es) X.env = (false,eval e X.env) :: starEach es X.env := by rfl) (hpl : (backTo cpos (starEach es X.env)).any (·.1) = false := by rfl) :
    QS (X.wish (XED X E)) (.Raise (some (.Call (.Name x np) (e :: es) [] cpos)) none pos) (tRaiseX C sp dvs E t) := ⟨ps_raiseX O F hr hg hm hb hd hc hex hx ha.h hdb he hpl⟩
end
def spXI (K : PySem.W.Frag) (fl : Str) : Sp := fun vs H Q _ => ∃ (e C fI : Addr) (v : V),vs = [.ref e,v] ∧ H e = some (XN e C none) ∧ OwnX K C fI fl ∧ ((∃ i : Nat,v = .int ((i : Nat) : Int) ∧ i ≤ 1000) ∨ v = .non) ∧ ∀ dx,H dx = none → Q .non (upd (upd H dx (.xd [(fl,v)])) e (XN e C (some dx)))
theorem dig_len : ∀ i : Fin 1001,(Str.ofString (toString ((i.val : Nat) : Int))).length ≤ 5 := by decide +kernel
end L2
namespace PySem.W
open PySem PySem.Calls PyProof.Rows
section
variable {A : Around} {E : Value → Shared → Prop} {s : Shared} {K : Frag} {x C D : Addr} {ox : Obj}
theorem exc_matchesD {M : Model} {Q : Bool → Shared → Prop} (X : K.In s.heap) (hx : s.heap.get? x = some ox) (hc : ox.cls = .ref C) (T : ExcD K D) (m : mroIn K C (.ref D) = some true) (h : Q true s) :
    wpAny M A (excMatches (.ref x) (.ref D)) Q E s := by
  obtain ⟨hh,g,d,tk,os⟩ := s
  obtain ⟨nm,q,N,bs,bm,hdct,sn,sub,ab,col,dd,k0,k1,k2,k3,k5,nw,lk⟩ := T.lk
  have hD := X _ _ lk
  have Q1 := looks_mroIn (M := M) X m
  have Q2 := looks_mroIn (M := M) X T.be
  have f := tc_notTuple
  unfold excMatches
  repeat (first | (with_reducible refine wpAny_loadPart_at hx ?_; rw [hc]) | with_reducible refine wpAny_loadPart_at hD ?_ | with_reducible refine Q1.at ?_ | with_reducible refine Q2.at ?_ | wp_step)
  exact h
end
end PySem.W
namespace L2
open PySem PySem.Spec PyProof.Rows
def EHDN (K : PySem.W.Frag) (M : Addr) (n : Nat) (th : TS) (D : Ends) : XK := fun C _ H => ∃ c,C = .ref c ∧ PySem.W.mroIn K c (.ref M) = some true ∧ th D (List.replicate n none) H
def tTryDN (K : PySem.W.Frag) (M : Addr) (n : Nat) (tb : XK → TS) (th : TS) : TS := fun D σ H => tb (EHDN K M n th D) D σ H
theorem ps_tryDN {X : Cx} {body : List Stmt} {tb : XK → TS} {th : TS} {x : Str} {M : Addr} {b0 : Stmt} {suite : List Stmt} {np hpos pos : Pos} (hex : X.ex = []) (hst : X.stack = X.env :: X.outer) (hfr : X.env.frame = some X.env.locals)
    (hb : ∀ (pn : List (Addr × Obj)) (E : XK),PSs ((X.pinned pn).wish (XTD (X.pinned pn) E)) body (tb E)) (hg : Gl X x) (hm : X.mg x = some (.ref M)) (TM : PySem.W.ExcD X.K M)
    (hh : ∀ a,PSs (X.inH a) (b0 :: suite) th) (hdb : (x == ("__debug__" : Str)) = false := by decide) :
    PS X (.Try body [.ExceptHandler (some (.Name x np)) none (b0 :: suite) hpos] [] [] pos) (tTryDN X.K M X.N.length tb th) := by
  intro pins s σ H D I h
  have okX := I.ok
  refine wpAny_Try_except (wpAny_mono (hb (X.pn ++ pins) (EHDN X.K M X.N.length th D) [] s σ H D (I.toPn.wish _) h) (fun f s1 q => ?_) fun e s1 q => ?_)
  · have back : ∀ {σ' : St} {H' : Hp},Inv ((X.pinned (X.pn ++ pins)).wish (XTD (X.pinned (X.pn ++ pins)) (EHDN X.K M X.N.length th D))) [] σ' H' s1 → Inv X pins σ' H' s1 := fun J => Inv.ofPn okX J.unwish
    cases f with
    | next =>
      obtain ⟨σ',H',J,z⟩ := q
      exact wpAny_execs_nil ⟨σ',H',back J,z⟩
    | brk =>
      obtain ⟨σ',H',J,z⟩ := q
      exact ⟨σ',H',back J,z⟩
    | cont =>
      obtain ⟨σ',H',J,z⟩ := q
      exact ⟨σ',H',back J,z⟩
    | ret u =>
      obtain ⟨v,σ',H',J,r,z⟩ := q
      exact ⟨v,σ',H',back J,r,z⟩
  · obtain ⟨a,T,C,dx,H1,σ1,rfl,J0,fl,hpn,c,rfl,hmro,hth⟩ := q
    have J : Inv X pins σ1 H1 s1 := Inv.ofPn okX J0
    have hpn' : ∀ p ∈ X.pn ++ pins,p.1 ≠ a ∧ p.1 ≠ T := hpn
    have hfrs : X.A.frames = some (X.env :: X.outer) := by rw [okX.frames,hst]
    obtain ⟨oe,vs,a0,oT,tv,he,hc,hdx,hd,h0,h1,hTe,hT,hdT,h3⟩ := fl.ob
    have hts : ∀ b ∈ [a,T],X.s₀.heap.get? b = none ∧ H1 b = none ∧ ∀ p ∈ X.pn ++ pins,p.1 ≠ b := fun b hb => by
      rcases List.mem_cons.mp hb with z | z
      · subst z; exact ⟨fl.na,fl.fa,fun p hp => (hpn' p hp).1⟩
      · cases (List.mem_singleton.mp z); exact ⟨fl.nT,fl.fT,fun p hp => (hpn' p hp).2⟩
    refine note_next (base := PySem.W.hideAll s1.heap ([a,T] ++ frs X.stack)) hfrs (by rw [← hst]; exact fun_hide J [a,T]) hfr he (hide_stays _ _) (PySem.W.hideAll_none _ (List.mem_append_left _ (by simp))) hd h1 h0 hdx (PySem.W.hideAll_none _ (List.mem_append_left _ (by simp))) hTe hT hdT h3 fun h5 ⟨⟨k1,k2,k3,k4⟩,oe5,ge5,gd5⟩ => ?_
    have fly5 : Heap.FlyingW (PySem.W.hideAll s1.heap ([a,T] ++ frs X.stack)) (X.env :: X.outer) a (.ref c) a0 h5 := ⟨k1,PySem.W.hideAll_none _ (List.mem_append_left _ (by simp)),k2,by rw [← hc]; exact k3⟩
    have S5 : Shift X [a,T] s1.heap h5 := ⟨fly5.1,k4⟩
    have J5 : Inv X pins σ1 H1 { s1 with heap := h5 } := S5.inv (tk := s1.toks) J hts
    obtain ⟨o5,g5,c5⟩ := fly5.there
    refine wpAny_handleBy_cons (codeAny_handlers_test (ld_glob (X := X.inH a) (J5.inH a) hg hm ?_ hdb)) (by intro z; cases z)
    refine PySem.W.exc_matchesD J5.kIn g5 c5 TM hmro (codeAny_handlers_suite ?_)
    refine land_again fly5 ge5 gd5 fun h6 fly6 up6 ge6 => ?_
    have S6 : Shift X [a,T] s1.heap h6 := ⟨fly6.1,up_trans k4 up6⟩
    have J6 : Inv X pins σ1 H1 { s1 with heap := h6 } := S6.inv (tk := s1.toks) J hts
    refine wpAny_mono (hh a pins _ _ _ D (J6.forget.inH a) hth) (fun f s9 z => ?_) fun _ _ z => z.elim
    have back : ∀ {σ' : St} {H' : Hp},Inv (X.inH a) pins σ' H' s9 → Inv X pins σ' H' s9 := fun J => Inv.ofH okX J
    cases f with
    | next =>
      obtain ⟨σ',H',J9,z⟩ := z
      exact ⟨_,H',back J9,z⟩
    | brk =>
      obtain ⟨σ',H',J9,z⟩ := z
      exact ⟨_,H',back J9,z⟩
    | cont =>
      obtain ⟨σ',H',J9,z⟩ := z
      exact ⟨_,H',back J9,z⟩
    | ret u =>
      obtain ⟨v,σ',H',J9,r,z⟩ := z
      exact ⟨v,_,H',back J9,r,z⟩
theorem qs_tryDN {X : Cx} {body : List Stmt} {tb : XK → TS} {th : TS} {x : Str} {M : Addr} {b0 : Stmt} {suite : List Stmt} {np hpos pos : Pos} (hex : X.ex = []) (hst : X.stack = X.env :: X.outer) (hfr : X.env.frame = some X.env.locals)
    (hb : ∀ (pn : List (Addr × Obj)) (E : XK),QSs ((X.pinned pn).wish (XTD (X.pinned pn) E)) body (tb E)) (hg : Gl X x) (hm : X.mg x = some (.ref M)) (TM : PySem.W.ExcD X.K M)
    (hh : ∀ a,QSs (X.inH a) (b0 :: suite) th) (hdb : (x == ("__debug__" : Str)) = false := by decide) :
    QS X (.Try body [.ExceptHandler (some (.Name x np)) none (b0 :: suite) hpos] [] [] pos) (tTryDN X.K M X.N.length tb th) := ⟨ps_tryDN hex hst hfr (fun pn E => (hb pn E).h) hg hm TM (fun a => (hh a).h) hdb⟩
theorem mro_self {K : PySem.W.Frag} {C : Addr} (T : PySem.W.ExcD K C) : PySem.W.mroIn K C (.ref C) = some true := by
  obtain ⟨nm,q,N,bs,bm,hdct,sn,sub,ab,col,dd,k0,k1,k2,k3,k5,nw,lk⟩ := T.lk
  unfold PySem.W.mroIn PySem.W.clsIn
  rw [lk]
  simp [excClassObj]
end L2
namespace L2
open PySem PySem.Spec PyProof.Rows
section
variable {prog : Program} {w : World} {A : Around} {E : Value → Shared → Prop} {s : Shared}
theorem pick_perm {α : Type} (next : Nat → Nat) (xs : Array α) : (pickOrder next xs).toList.Perm xs.toList := by
  have key : ∀ (fuel k : Nat) (left : List α) (out : Array α),left.length ≤ fuel → (pickOrder.go next fuel k left out).toList.Perm (out.toList ++ left) := by
    intro fuel
    induction fuel with
    | zero =>
      intro k left out h
      have : left = [] := List.length_eq_zero_iff.mp (Nat.le_zero.mp h)
      subst this
      unfold pickOrder.go
      simp
    | succ fuel ih =>
      intro k left out h
      unfold pickOrder.go
      cases hl : left[next k % left.length]? with
      | none =>
        dsimp only
        cases left with
        | nil => simp
        | cons y r =>
          have := Nat.mod_lt (next k) (show 0 < (y :: r).length by simp)
          rw [List.getElem?_eq_getElem this] at hl
          cases hl
      | some x =>
        dsimp only
        obtain ⟨hlt,hx⟩ := List.getElem?_eq_some_iff.mp hl
        refine (ih (k + 1) _ _ (by rw [List.length_eraseIdx_of_lt hlt]; omega)).trans ?_
        rw [Array.toList_push,List.append_assoc]
        refine List.Perm.append_left _ ?_
        rw [List.eraseIdx_eq_take_drop_succ]
        have e : left = left.take (next k % left.length) ++ x :: left.drop (next k % left.length + 1) := by
          conv => lhs; rw [← List.take_append_drop (next k % left.length) left,List.drop_eq_getElem_cons hlt,hx]
        have p := (List.perm_middle (a := x) (l₁ := left.take (next k % left.length)) (l₂ := left.drop (next k % left.length + 1))).symm
        rw [← e] at p
        exact p
  exact (key xs.size 0 xs.toList #[] (by simp)).trans (by simp)
abbrev set0 (led : Bool) : Obj := { cls := .type "set",dict := none,data := .set #[] 0 (.fresh 0 0 led) }
end
end L2
namespace L2
open PySem
theorem orStandIn_led (t : SetTable) (n : Nat) : (t.orStandIn n).led = t.led := by
  unfold SetTable.orStandIn
  split <;> rfl
theorem layNew_led (t : SetTable) (es : Array (Int × Value)) (h : Int) (x : Value) : (layNew t es h x).2.1.led = t.led := by
  unfold layNew
  split
  · exact orStandIn_led _ _
  · rfl
theorem laid_led {mask finger moves : Nat} {led plain : Bool} {hs : Array Int} {t : SetTable} {o : Array Nat} (h : SetTable.laid mask finger moves led plain hs = some (t,o)) : t.led = led ∧ t.dummies = #[] ∧ t.mask = mask := by
  unfold SetTable.laid at h
  cases e : SetTable.layClean mask hs with
  | none => rw [e] at h; cases h
  | some owner =>
    rw [e] at h
    cases h
    exact ⟨rfl,rfl,rfl⟩
theorem relayAll_led (t : SetTable) (es : Array (Int × Value)) (n : Nat) : (relayAll t es n).2.1.led = t.led := by
  unfold relayAll
  split
  · rename_i t' o e
    dsimp only
    split
    · exact (laid_led e).1
    · rfl
  · rfl
structure Rz (t : SetTable) : Prop where
  up : t.place.toList.Pairwise (· < ·)
  le : ∀ x ∈ t.place.toList,x ≤ t.mask
  no : t.dummies = #[]
theorem standIn_rz (t : SetTable) (n : Nat) : Rz (t.standIn n) := by
  refine ⟨?_,?_,rfl⟩
  · show (Array.range n).toList.Pairwise (· < ·)
    rw [Array.toList_range]
    exact List.pairwise_lt_range
  · show ∀ x ∈ (Array.range n).toList,x ≤ 4 * n + 4
    rw [Array.toList_range]
    intro x hx
    have := List.mem_range.mp hx
    omega
theorem fresh_rz (f m : Nat) (l : Bool) : Rz (.fresh f m l) := ⟨by simp [SetTable.fresh],by simp [SetTable.fresh],rfl⟩
theorem below_go {xs : Array Nat} {j : Nat} (hs : xs.toList.Pairwise (· < ·)) : ∀ fuel lo hi,hi - lo ≤ fuel → lo ≤ hi → hi ≤ xs.size → (∀ i (h : i < xs.size),i < lo → xs[i] < j) → (∀ i (h : i < xs.size),hi ≤ i → j ≤ xs[i]) →
    SetTable.below.go xs j fuel lo hi ≤ xs.size ∧ (∀ i (h : i < xs.size),i < SetTable.below.go xs j fuel lo hi → xs[i] < j) ∧ ∀ i (h : i < xs.size),SetTable.below.go xs j fuel lo hi ≤ i → j ≤ xs[i]
  | 0,lo,hi,hf,hlh,hh,h1,h2 => by
    have e : lo = hi := by omega
    subst e
    unfold SetTable.below.go
    exact ⟨hh,h1,h2⟩
  | fuel + 1,lo,hi,hf,hlh,hh,h1,h2 => by
    unfold SetTable.below.go
    by_cases hlt : lo < hi
    · rw [if_pos hlt]
      dsimp only
      have hm : (lo + hi) / 2 < xs.size := by omega
      have mono : ∀ a b (ha : a < xs.size) (hb : b < xs.size),a ≤ b → xs[a] ≤ xs[b] := fun a b ha hb hab => by
        by_cases e : a = b
        · subst e
          exact Nat.le_refl _
        · have := (List.pairwise_iff_getElem.mp hs) a b (by simpa using ha) (by simpa using hb) (by omega)
          simpa using Nat.le_of_lt this
      by_cases hc : xs.getD ((lo + hi) / 2) j < j
      · rw [if_pos hc]
        rw [Array.getD_eq_getD_getElem?,Array.getElem?_eq_getElem hm] at hc
        refine below_go hs fuel _ hi (by omega) (by omega) hh (fun i h hi' => ?_) h2
        exact Nat.lt_of_le_of_lt (mono i _ h hm (by omega)) hc
      · rw [if_neg hc]
        rw [Array.getD_eq_getD_getElem?,Array.getElem?_eq_getElem hm] at hc
        refine below_go hs fuel lo _ (by omega) (by omega) (by omega) h1 (fun i h hi' => ?_)
        exact Nat.le_trans (Nat.le_of_not_lt hc) (mono _ i hm h hi')
    · rw [if_neg hlt]
      have e : lo = hi := by omega
      subst e
      exact ⟨hh,h1,h2⟩
theorem below_ok {xs : Array Nat} (hs : xs.toList.Pairwise (· < ·)) (j : Nat) : SetTable.below xs j ≤ xs.size ∧ (∀ i (h : i < xs.size),i < SetTable.below xs j → xs[i] < j) ∧ ∀ i (h : i < xs.size),SetTable.below xs j ≤ i → j ≤ xs[i] :=
  below_go hs xs.size 0 xs.size (by omega) (by omega) (Nat.le_refl _) (fun i _ h => by omega) fun i h h' => by omega
theorem slot_empty {t : SetTable} (R : Rz t) {j : Nat} (h : t.slot j = .empty) : j ∉ t.place.toList := by
  intro hm
  obtain ⟨k,hk,e⟩ := List.mem_iff_getElem.mp hm
  have hk' : k < t.place.size := by simpa using hk
  obtain ⟨b1,b2,b3⟩ := below_ok R.up j
  have ek : t.place[k] = j := by simpa using e
  have hb : SetTable.below t.place j = k := by
    rcases Nat.lt_trichotomy (SetTable.below t.place j) k with z | z | z
    · have := b3 (SetTable.below t.place j) (by omega) (Nat.le_refl _)
      have h2 := (List.pairwise_iff_getElem.mp R.up) _ k (by simp; omega) hk z
      simp at h2
      omega
    · exact z
    · have := b2 k hk' z
      omega
  unfold SetTable.slot at h
  simp [hb,Array.getElem?_eq_getElem hk',ek] at h
theorem no_dummy {t : SetTable} (R : Rz t) (j : Nat) : t.slot j ≠ .dummy := by
  have hd : SetTable.has t.dummies j = false := by
    rw [R.no]
    simp [SetTable.has]
  unfold SetTable.slot
  dsimp only
  rw [hd]
  intro h
  by_cases c : (t.place[SetTable.below t.place j]? == some j) = true
  · rw [if_pos c] at h
    cases h
  · rw [if_neg c] at h
    simp at h
structure Pz (t : SetTable) (p : SetTable.Probe) : Prop where
  jl : p.j + p.more ≤ t.mask
  dn : p.dummy = none
theorem start_pz (t : SetTable) (h : Int) : Pz t (t.probeStart h) := by
  refine ⟨?_,rfl⟩
  have h1 : SetTable.bits h % (t.mask + 1) ≤ t.mask := Nat.le_of_lt_succ (Nat.mod_lt _ (Nat.succ_pos _))
  unfold SetTable.probeStart SetTable.runEnd
  dsimp only
  split <;> omega
theorem adv_pz {t : SetTable} {p : SetTable.Probe} (P : Pz t p) : Pz t (t.advance p) := by
  have hj := P.jl
  unfold SetTable.advance
  by_cases hm : p.more > 0
  · rw [if_pos hm]
    exact ⟨by dsimp only; omega,P.dn⟩
  · rw [if_neg hm]
    refine ⟨?_,P.dn⟩
    unfold SetTable.leap SetTable.runEnd
    dsimp only
    have h1 : (p.i * 5 + 1 + p.perturb / 32) % (t.mask + 1) ≤ t.mask := Nat.le_of_lt_succ (Nat.mod_lt _ (Nat.succ_pos _))
    split <;> omega
theorem probe_empty {t : SetTable} (R : Rz t) {g : Nat → Int} {h : Int} {j : Nat} {d : Option Nat} : ∀ (fuel : Nat) (p : SetTable.Probe),Pz t p → SetTable.probe.go t g h fuel p = some (.empty j d) → t.slot j = .empty ∧ d = none ∧ j ≤ t.mask
  | 0,p,_,e => by
    unfold SetTable.probe.go at e
    cases e
  | fuel + 1,p,P,e => by
    unfold SetTable.probe.go at e
    have hj := P.jl
    cases hs : t.slot p.j with
    | empty =>
      rw [hs] at e
      simp only [Option.some.injEq,SetTable.Met.empty.injEq] at e
      obtain ⟨rfl,rfl⟩ := e
      exact ⟨hs,P.dn,by omega⟩
    | dummy => exact absurd hs (no_dummy R _)
    | live i =>
      rw [hs] at e
      dsimp only at e
      by_cases c : (g i == h) = true
      · rw [if_pos c] at e
        cases e
      · rw [if_neg c] at e
        exact probe_empty R fuel _ (adv_pz P) e
theorem freeSlot_ok {t : SetTable} (R : Rz t) {h : Int} {j : Nat} {b : Bool} (e : t.freeSlot h = some (j,b)) : j ∉ t.place.toList ∧ j ≤ t.mask ∧ b = false := by
  unfold SetTable.freeSlot at e
  split at e
  · rename_i j' d' he
    obtain ⟨h1,h2,h3⟩ := probe_empty R _ _ (start_pz t h) he
    subst h2
    simp at e
    obtain ⟨rfl,rfl⟩ := e
    exact ⟨slot_empty R h1,h3,rfl⟩
  · cases e
theorem insert_list {α : Type} (xs : Array α) (p : Nat) (x : α) : (SetTable.insertAt xs p x).toList = xs.toList.take p ++ x :: xs.toList.drop p := by
  unfold SetTable.insertAt
  simp only [Array.toList_append,Array.toList_push,Array.toList_extract,List.append_assoc,List.extract_eq_take_drop,List.drop_zero,Nat.sub_zero,List.cons_append,List.nil_append]
  rw [List.take_of_length_le (l := List.drop p xs.toList) (by rw [List.length_drop]; simp)]
theorem put_rz {t : SetTable} (R : Rz t) {j : Nat} (hj : j ∉ t.place.toList) (hm : j ≤ t.mask) : Rz (t.put j).1 := by
  obtain ⟨b1,b2,b3⟩ := below_ok R.up j
  have hp : ((t.put j).1.place).toList = t.place.toList.take (SetTable.below t.place j) ++ j :: t.place.toList.drop (SetTable.below t.place j) := insert_list _ _ _
  have lo : ∀ x ∈ t.place.toList.take (SetTable.below t.place j),x < j := fun x hx => by
    obtain ⟨i,hi,rfl⟩ := List.mem_iff_getElem.mp hx
    rw [List.length_take] at hi
    rw [List.getElem_take]
    have := b2 i (by simp at hi; omega) (by omega)
    simpa using this
  have hi : ∀ x ∈ t.place.toList.drop (SetTable.below t.place j),j < x := fun x hx => by
    obtain ⟨i,hi,rfl⟩ := List.mem_iff_getElem.mp hx
    rw [List.length_drop] at hi
    rw [List.getElem_drop]
    have h1 := b3 (SetTable.below t.place j + i) (by simp at hi; omega) (by omega)
    have h2 : t.place.toList[SetTable.below t.place j + i]'(by omega) ≠ j := fun z => hj (z ▸ List.getElem_mem _)
    have h3 : t.place.toList[SetTable.below t.place j + i]'(by omega) = t.place[SetTable.below t.place j + i]'(by simp at hi; omega) := by simp
    rw [h3] at h2 ⊢
    omega
  refine ⟨?_,?_,?_⟩
  · rw [hp,List.pairwise_append]
    refine ⟨R.up.sublist (List.take_sublist _ _),?_,?_⟩
    · rw [List.pairwise_cons]
      exact ⟨hi,R.up.sublist (List.drop_sublist _ _)⟩
    · intro a ha b hb
      rcases List.mem_cons.mp hb with rfl | hb
      · exact lo a ha
      · exact Nat.lt_trans (lo a ha) (hi b hb)
  · rw [hp]
    intro x hx
    rcases List.mem_append.mp hx with z | z
    · exact R.le x (List.mem_of_mem_take z)
    · rcases List.mem_cons.mp z with rfl | z
      · exact hm
      · exact R.le x (List.mem_of_mem_drop z)
  · show (if SetTable.has t.dummies j then SetTable.eraseAt t.dummies (SetTable.below t.dummies j) else t.dummies) = #[]
    rw [R.no]
    simp [SetTable.has]
theorem layNew_rz {t : SetTable} (R : Rz t) (es : Array (Int × Value)) (h : Int) (x : Value) : Rz (layNew t es h x).2.1 := by
  unfold layNew
  split
  · rename_i j b e
    obtain ⟨h1,h2,_⟩ := freeSlot_ok R e
    dsimp only
    unfold SetTable.orStandIn
    split
    · exact put_rz R h1 h2
    · exact standIn_rz _ _
  · exact standIn_rz _ _
theorem laid_rz {mask finger moves : Nat} {led plain : Bool} {hs : Array Int} {t : SetTable} {o : Array Nat} (h : SetTable.laid mask finger moves led plain hs = some (t,o)) : Rz t := by
  unfold SetTable.laid at h
  cases e : SetTable.layClean mask hs with
  | none => rw [e] at h; cases h
  | some owner =>
    rw [e] at h
    cases h
    have sub : ((List.range (mask + 1)).filterMap fun j => (owner.getD j none).map (j,·)).map (·.1) = (List.range (mask + 1)).filter fun j => (owner.getD j none).isSome := by
      generalize List.range (mask + 1) = l
      induction l with
      | nil => rfl
      | cons a r ih =>
        rw [List.filterMap_cons,List.filter_cons]
        cases hc : owner.getD a none with
        | none => exact ih
        | some v => exact congrArg (a :: ·) ih
    refine ⟨?_,?_,rfl⟩
    · show (((List.range (mask + 1)).filterMap fun j => (owner.getD j none).map (j,·)).map (·.1)).toArray.toList.Pairwise (· < ·)
      rw [sub]
      exact List.pairwise_lt_range.sublist List.filter_sublist
    · show ∀ x ∈ (((List.range (mask + 1)).filterMap fun j => (owner.getD j none).map (j,·)).map (·.1)).toArray.toList,x ≤ mask
      rw [sub]
      intro x hx
      have := List.mem_range.mp (List.mem_filter.mp hx).1
      omega
theorem relayAll_rz {t : SetTable} (es : Array (Int × Value)) (n : Nat) : Rz (relayAll t es n).2.1 := by
  unfold relayAll
  split
  · rename_i t' o e
    dsimp only
    split
    · exact laid_rz e
    · exact standIn_rz _ _
  · exact standIn_rz _ _
end L2
namespace L2
open PySem PySem.Spec PyProof.Rows
def enK (e : Int × Value) : Int := match e.2 with | .int n _ => n | _ => 0
structure TabL (prog : Program) (w : World) (es : Array (Int × Value)) (t : SetTable) : Prop where
  el : ElemsOf (intKind prog w) es.toList
  fit : t.fits es.size = true
  rz : Rz t
  led : t.led = !(w.params.followText "set-order")
def AtL (prog : Program) (w : World) (h : Heap) (a : Addr) (es : Array (Int × Value)) : Prop := ∃ o ep t,h.get? a = some o ∧ o.ExactSet ∧ o.data = .set es ep t ∧ TabL prog w es t
def SetL (prog : Program) (w : World) (h : Heap) (a : Addr) (L : List Int) : Prop := ∃ es,AtL prog w h a es ∧ es.toList.map enK = L
theorem AtL.stay {prog : Program} {w : World} {h h' : Heap} {a : Addr} {es : Array (Int × Value)} (x : AtL prog w h a es) (k : ∀ o,h.get? a = some o → h'.get? a = some o) : AtL prog w h' a es := by
  obtain ⟨o,ep,t,ho,r⟩ := x
  exact ⟨o,ep,t,k o ho,r⟩
theorem SetL.stay {prog : Program} {w : World} {h h' : Heap} {a : Addr} {L : List Int} (x : SetL prog w h a L) (k : ∀ o,h.get? a = some o → h'.get? a = some o) : SetL prog w h' a L := by
  obtain ⟨es,y,e⟩ := x
  exact ⟨es,y.stay k,e⟩
section
variable {prog : Program} {w : World} {A : Around} {E : Value → Shared → Prop} {s : Shared} {a : Addr}
theorem el_int {es : List (Int × Value)} (h : ElemsOf (intKind prog w) es) {e : Int × Value} (he : e ∈ es) : ∃ n tk,e.2 = .int n tk ∧ enK e = n := by
  obtain ⟨⟨n,hn,_⟩,_⟩ := h e he
  obtain ⟨tk,e2⟩ := Value.isInt_shape hn
  exact ⟨n,tk,e2,by unfold enK; rw [e2]⟩
theorem put_at {h : Heap} {o : Obj} {es es' : Array (Int × Value)} {ep : Nat} {t t' : SetTable} (ho : h.get? a = some o) (hx : o.ExactSet) (hd : o.data = .set es ep t) (T : TabL prog w es' t') :
    (h.update a (Obj.putSet es' t')).get? a = some { o with data := .set es' (ep + 1) t' } ∧ AtL prog w (h.update a (Obj.putSet es' t')) a es' := by
  have e := putSet_of es' t' hd
  have g : (h.update a (Obj.putSet es' t')).get? a = some { o with data := .set es' (ep + 1) t' } := by
    rw [Heap.get?_update_self (Obj.putSet es' t') ho (by rw [e]; rfl),e]
  exact ⟨g,_,_,_,g,hx,rfl,T⟩
theorem relay_tab {es : Array (Int × Value)} {t : SetTable} (T : TabL prog w es t) (n : Nat) : TabL prog w (relayAll t es n).1 (relayAll t es n).2.1 :=
  ⟨T.el.perm (relayAll_perm t es n),relayAll_fits t es n,relayAll_rz es n,(relayAll_led t es n).trans T.led⟩
theorem lay_tab {es : Array (Int × Value)} {t : SetTable} (T : TabL prog w es t) (k : Int) (tk : Tok) : TabL prog w (layNew t es ((intKind prog w).hash k) (.int k tk)).1 (layNew t es ((intKind prog w).hash k) (.int k tk)).2.1 := by
  have p := layNew_perm t es ((intKind prog w).hash k) (.int k tk)
  rw [Array.toList_push] at p
  exact ⟨(T.el.push (intKind_is _ _ _ _) rfl).perm p,layNew_fits ..,layNew_rz T.rz ..,(layNew_led ..).trans T.led⟩
theorem add_l {L : List Int} {k : Int} {tk : Tok} {Q : Bool → Shared → Prop} (hS : SetL prog w s.heap a L) (hb : L.length + 1 < scanBound)
    (h : ∀ h' L',Heap.SameBut a s.heap h' → SetL prog w h' a L' → (L'.Perm (L ++ [k]) ∧ k ∉ L ∨ L' = L ∧ k ∈ L) → ∀ b,Q b { s with heap := h' }) :
    wpAny (model prog w) A (setAddHashed a (.int k tk) ((intKind prog w).hash k)) Q E s := by
  obtain ⟨es,⟨o,ep,t,ho,hx,hd,T⟩,rfl⟩ := hS
  rw [List.length_map,Array.length_toList] at hb
  have hk : (intKind prog w).is k (.int k tk) = true := intKind_is _ _ _ _
  unfold setAddHashed setAddHashedIn
  refine wpAny_holding (wpAny_bind (wpAny_setState_of ho hd T.fit ?_))
  dsimp only
  rw [byScan_of rfl (Nat.lt_of_succ_lt hb) T.el,if_pos rfl]
  unfold setAddByScan
  refine wpAny_bind (wpAny_bind (wpAny_rule (wpAny_bind (wpAny_setScan_of hk ho hd T.fit T.el ?_))))
  have mem : ∀ k',(∃ e ∈ es.toList,(intKind prog w).is k' e.2 = true) ↔ k' ∈ es.toList.map enK := fun k' => by
    rw [List.mem_map]
    constructor
    · rintro ⟨e,he,hi⟩
      obtain ⟨n,t',e1,e2⟩ := el_int T.el he
      obtain ⟨t2,e3⟩ := Value.isInt_shape hi
      rw [e1] at e3
      cases e3
      exact ⟨e,he,e2⟩
    · rintro ⟨e,he,rfl⟩
      obtain ⟨n,t',e1,e2⟩ := el_int T.el he
      exact ⟨e,he,by rw [e2,e1]; exact intKind_is _ _ _ _⟩
  cases hr : List.findIdx? (fun e => (intKind prog w).is k e.2) es.toList with
  | some j =>
    obtain ⟨hj,hp,_⟩ := List.findIdx?_eq_some_iff_getElem.mp hr
    refine wpAny_pure (wpAny_pure ?_)
    exact h s.heap _ (Heap.SameBut.refl a s.heap) ⟨es,⟨o,ep,t,ho,hx,hd,T⟩,rfl⟩ (.inr ⟨rfl,(mem k).mp ⟨_,List.getElem_mem hj,hp⟩⟩) _
  | none =>
    have nin : k ∉ es.toList.map enK := fun z => by
      obtain ⟨e,he,hp⟩ := (mem k).mpr z
      have := List.findIdx?_eq_none_iff.mp hr e he
      rw [hp] at this
      cases this
    have T1 := lay_tab T k tk
    have p1 := layNew_perm t es ((intKind prog w).hash k) (.int k tk)
    rw [Array.toList_push] at p1
    dsimp only
    generalize layNew t es ((intKind prog w).hash k) (.int k tk) = N at T1 p1 ⊢
    obtain ⟨es1,t1,wd,gv⟩ := N
    dsimp only at T1 p1 ⊢
    have pk := p1.map enK
    rw [List.map_append] at pk
    have hz : es1.size ≤ sizeLine := by
      have := p1.length_eq
      rw [List.length_append,Array.length_toList,Array.length_toList] at this
      exact fits_of_scanBound (by rw [this]; exact hb)
    have quiet : ∀ (b : Bool) {s₁ : Shared} {Q' : Unit → Shared → Prop},Q' () s₁ → wpAny (model prog w) A (match b with | true => rule "set.scan.the-table-gave-way" | false => pure ()) Q' E s₁ := fun b s₁ Q' q => by
      cases b
      · exact wpAny_pure q
      · exact wpAny_rule q
    /- the stores: any table of these entries -/
    have tail : ∀ t2,TabL prog w es1 t2 → ∀ c : Bool,wpAny (model prog w) A (do
        storeSet a es1 t2
        if (c && t2.tooFull) = true then do
            (match (relayAll t2 es1 (SetTable.grown es1.size)).2.2 with | true => rule "set.scan.the-table-gave-way" | false => pure ())
            storeSet a (relayAll t2 es1 (SetTable.grown es1.size)).1 (relayAll t2 es1 (SetTable.grown es1.size)).2.1
            pure (some true)
          else pure (some true)) (fun r s' => ∀ b,Q b s' ∧ r = some true) E s := fun t2 T2 c => by
      obtain ⟨g1,a1⟩ := put_at ho hx hd T2
      refine wpAny_bind (wpAny_storeSet_of ho hd ?_ hz)
      have b1 := Heap.SameBut.update s.heap a (Obj.putSet es1 t2)
      by_cases cc : (c && t2.tooFull) = true
      · rw [if_pos cc]
        have T3 := relay_tab T2 (SetTable.grown es1.size)
        have p3 := relayAll_perm t2 es1 (SetTable.grown es1.size)
        obtain ⟨_,a3⟩ := put_at g1 hx rfl T3
        have z3 : (relayAll t2 es1 (SetTable.grown es1.size)).1.size ≤ sizeLine := by
          have := p3.length_eq
          rw [Array.length_toList,Array.length_toList] at this
          rw [this]
          exact hz
        refine wpAny_bind (quiet _ (wpAny_bind (wpAny_storeSet_of g1 rfl (wpAny_pure fun b => ⟨?_,rfl⟩) z3)))
        exact h _ _ (b1.trans (Heap.SameBut.update _ a _)) ⟨_,a3,rfl⟩ (.inl ⟨(p3.map enK).trans pk,nin⟩) b
      · rw [if_neg cc]
        exact wpAny_pure fun b => ⟨h _ _ b1 ⟨es1,a1,rfl⟩ (.inl ⟨pk,nin⟩) b,rfl⟩
    have last : ∀ (r : Option Bool) (s' : Shared),(∀ b,Q b s' ∧ r = some true) → wpAny (model prog w) A (match r with | some added => pure added | none => setAddHashedIn a (.int k tk) ((intKind prog w).hash k) 99999) Q E s' := fun r s' q => by
      rw [(q true).2]
      exact wpAny_pure (q true).1
    refine wpAny_bind (quiet _ ?_)
    by_cases hp : t1.plain = true
    · rw [if_pos hp]
      refine wpAny_bind ?_
      rw [hashByValue_scannable 8 (x := .int k tk) rfl]
      refine wpAny_pure ?_
      exact wpAny_mono (tail t1 T1 (!wd)) (fun r s' q => last r s' q) fun _ _ z => z
    · rw [if_neg hp]
      refine wpAny_bind (wpAny_pure ?_)
      exact wpAny_mono (tail t1 T1 (!wd)) (fun r s' q => last r s' q) fun _ _ z => z
end
section
variable {prog : Program} {w : World} {A : Around} {R : Result → Shared → Prop} {I : Addr} {fp wr : List Addr} {G : Array GenState → Array GenState → Prop} {n : Nat} {P : Nat → Value → Prop} {St : Nat → Shared → Prop}
structure PutL (prog : Program) (w : World) (h : Heap) (S : Addr) (val : Nat → Int) (i : Nat) (L : List Int) : Prop where
  at_ : SetL prog w h S L
  nd : L.Nodup
  le : L.length ≤ i
  mem : ∀ x,x ∈ L ↔ ∃ j,j < i ∧ val j = x
theorem PutL.stay {h h' : Heap} {S : Addr} {val : Nat → Int} {i : Nat} {L : List Int} (x : PutL prog w h S val i L) (k : ∀ o,h.get? S = some o → h'.get? S = some o) : PutL prog w h' S val i L := ⟨x.at_.stay k,x.nd,x.le,x.mem⟩
theorem PutL.next {h h' : Heap} {S : Addr} {val : Nat → Int} {i : Nat} {L L' : List Int} (x : PutL prog w h S val i L) (hs : SetL prog w h' S L') (hl : L'.Perm (L ++ [val i]) ∧ val i ∉ L ∨ L' = L ∧ val i ∈ L) : PutL prog w h' S val (i + 1) L' := by
  have step : ∀ y,(∃ j,j < i + 1 ∧ val j = y) ↔ (∃ j,j < i ∧ val j = y) ∨ val i = y := fun y => by
    constructor
    · rintro ⟨j,hj,e⟩
      by_cases z : j = i
      · subst z
        exact .inr e
      · exact .inl ⟨j,by omega,e⟩
    · rintro (⟨j,hj,e⟩ | e)
      · exact ⟨j,by omega,e⟩
      · exact ⟨i,by omega,e⟩
  rcases hl with ⟨p,hn⟩ | ⟨rfl,hm⟩
  · refine ⟨hs,?_,?_,fun y => ?_⟩
    · rw [p.nodup_iff,List.nodup_append]
      refine ⟨x.nd,by simp,fun a ha b hb => ?_⟩
      rw [List.mem_singleton.mp hb]
      exact fun z => hn (z ▸ ha)
    · rw [p.length_eq,List.length_append]
      exact Nat.succ_le_succ x.le
    · rw [p.mem_iff,List.mem_append,List.mem_singleton,x.mem,step]
      exact or_congr Iff.rfl eq_comm
  · refine ⟨hs,x.nd,Nat.le_succ_of_le x.le,fun y => ?_⟩
    rw [step,x.mem]
    refine ⟨.inl,fun z => ?_⟩
    rcases z with z | rfl
    · exact z
    · exact (x.mem _).mp hm
theorem fill_l (W : WalksS prog w A.in1 I fp wr G n P St) {S : Addr} (hS : S ∉ fp) {val : Nat → Int} (hv : ∀ i v,P i v → ∃ t,v = .int (val i) t) (hb : n + 1 < scanBound) :
    ∀ (k i : Nat) (s : Shared) (L : List Int),n - i = k → i ≤ n → St i s → PutL prog w s.heap S val i L →
      (∀ s' L',Moved (S :: wr) G s s' → PutL prog w s'.heap S val n L' → R (.ok (.ret .none)) s') →
      codeAny (model prog w) A (.builtin "set.update.loop" ⟨[.ref S,.ref I],[]⟩) R s := by
  have hw : S ∉ wr := fun z => hS (W.sub _ z)
  have up : ∀ b ∈ wr,b ∈ S :: wr := fun b hb => List.mem_cons_of_mem _ hb
  intro k
  induction k with
  | zero =>
    intro i s L hk hi st X q
    obtain rfl : i = n := by omega
    refine codeAny_builtin F.entry_set_update_loop ?_
    rw [Around.under_plainId F.plain_set_update_loop _]
    refine wpAny_bind (m := pyNext (.ref I)) (W.done s _ _ st fun s' mv => ?_)
    exact wpAny_pure (q s' L (mv.mono up) (X.stay fun o e => mv.heap S o hw e))
  | succ k ih =>
    intro i s L hk hi st X q
    refine codeAny_builtin F.entry_set_update_loop ?_
    rw [Around.under_plainId F.plain_set_update_loop _]
    refine wpAny_bind (m := pyNext (.ref I)) (W.item i s _ _ (by omega) st fun v s1 hP st1 mv => ?_)
    obtain ⟨t,rfl⟩ := hv i v hP
    have X1 := X.stay fun o e => mv.heap S o hw e
    refine wpAny_bind (m := holding [Value.int (val i) t] (setAdd S (.int (val i) t))) (wpAny_holding ?_)
    unfold setAdd
    refine wpAny_holding (wpAny_bind ((intKind prog w).pyHash (k := val i) (intKind_is _ _ _ _) ?_))
    refine add_l (s := { s1 with toks := s1.toks + 1 }) X1.at_ (by have := X1.le; omega) fun h' L' sb hs' hl _ => ?_
    have X2 := X1.next hs' hl
    refine wpAny_pure ⟨plainId_quiet F.plain_set_update_loop _,ih (i + 1) { s1 with heap := h',toks := s1.toks + 1 } L' (by omega) (by omega) (W.frame _ s1 _ _ st1 (Nat.le_succ _) fun b hb' o e => ?_) X2 fun s'' L'' mv2 X3 => ?_⟩
    · rw [sb.2 b fun z => hS (z ▸ hb')]
      exact e
    · refine q s'' L'' (Moved.trans W.gtrans ((mv.mono up).then_heap (Nat.le_succ _) fun b o hb' e => ?_) mv2) X3
      rw [sb.2 b fun z => hb' (z ▸ List.mem_cons_self)]
      exact e
end
section
variable {prog : Program} {w : World} {A : Around} {E : Value → Shared → Prop} {s : Shared}
theorem new_l (x : Value) {Q : Value → Shared → Prop} (h : Q (.ref s.heap.objs.size) { s with heap := s.heap.push (set0 (!(w.params.followText "set-order"))) }) :
    codeAny (model prog w) A (.call (.builtin "set.__new__") ⟨[.type "set",x],[]⟩) (wants Q E) s := by
  refine codeAny_of_tree (wpAny_bind (m := checkBuiltinCall "set.__new__" ⟨[.type "set",x],[]⟩) (wpAny_of_eq (F.newCall_set_1 x) (wpAny_pure ⟨plainId_quiet F.plain_set_new _,codeAny_builtin F.entry_set_new ?_⟩)))
  rw [Around.under_plainId F.plain_set_new _]
  have f := sub_set_self
  obtain ⟨hp,g,d,tk,os⟩ := s
  unfold Builtin.«set.__new__» Builtin.Frozenset.newClass
  dsimp only
  wp_walk
  refine wpAny_askSetting (wpAny_pure (wpAny_bind (wpAny_alloc (wpAny_pure (wpAny_pure h)))))
theorem set_call_l {x : Value} {Q : Value → Shared → Prop} (h : wpAny (model prog w) A.in1.in1 (Builtin.«set.__init__» ⟨[.ref s.heap.objs.size,x],[]⟩) (fun fin s' => fin = .done (.ret .none) ∧ Q (.ref s.heap.objs.size) s') E { s with heap := s.heap.push (set0 (!(w.params.followText "set-order"))) }) :
    wpAny (model prog w) A (call (.type "set") [x]) Q E s := by
  obtain ⟨c,tl,m1⟩ := PySem.F.called_set.mro
  have m2 := PySem.F.called_set.made; have m3 := PySem.F.called_set.sub; have m4 := PySem.F.called_set.notType; have m5 := PySem.F.called_set.canCreate
  have m6 := PySem.F.typeCall_set_1 x
  refine wpAny_call (codeAny_of_tree (show wpAny _ _ (callAny (.type "set") _) _ _ _ from wpAny_pure ⟨Code.quiet_builtin _ (by decide +kernel),codeAny_builtin PySem.F.entry_type_call ?_⟩))
  rw [Around.under_plain (weight_type_call_type "set" [x] []) rfl]
  repeat (any_goals (first | assumption | wp_step))
  refine codeAny_mono (new_l x (E := E) (Q := fun ob s1 => ob = .ref s.heap.objs.size ∧ s1 = { s with heap := s.heap.push (set0 (!(w.params.followText "set-order"))) }) ⟨rfl,rfl⟩) fun r s1 hr => ?_
  match r,hr with
  | .error e,hr => exact hr
  | .ok (.ret ob),hr =>
    obtain ⟨rfl,rfl⟩ := hr
    have hT : Shared.TypeIs { s with heap := s.heap.push (set0 (!(w.params.followText "set-order"))) } (.ref s.heap.objs.size) "set" := ⟨set0 (!(w.params.followText "set-order")),Heap.get?_push_size _ rfl,rfl⟩
    have m7 := PySem.F.called_set.init.lookup; have m8 := PySem.F.called_set.init.bind (.ref s.heap.objs.size)
    repeat (any_goals (first | assumption | wp_step))
    refine codeAny_mono (codeAny_call_builtin (R := wants (fun r s2 => r = .none ∧ Q (.ref s.heap.objs.size) s2) E) PySem.F.called_set.init.plain PySem.F.entry_set_init (check_set_init_1 hT ?_)) fun r2 s2 hr2 => ?_
    · refine wpAny_mono h (fun fin s' hf => ?_) fun _ _ h' => h'
      obtain ⟨rfl,hq⟩ := hf
      exact ⟨rfl,hq⟩
    · match r2,hr2 with
      | .error e,hr2 => exact hr2
      | .ok (.ret v),hr2 =>
        obtain ⟨rfl,hq⟩ := hr2
        repeat (any_goals (first | assumption | wp_step))
      | .ok .next,hr2 => exact hr2.elim
      | .ok .brk,hr2 => exact hr2.elim
      | .ok .cont,hr2 => exact hr2.elim
  | .ok .next,hr => exact hr.elim
  | .ok .brk,hr => exact hr.elim
  | .ok .cont,hr => exact hr.elim
theorem set_list_l {l : Addr} {items : Array Value} {ns : List Int} {Q : Value → Shared → Prop} (hh : A.handled = none) (hl : s.heap.IsList l items) (hi : IntsAre items.toList ns) (hb : items.size + 1 < scanBound)
    (h : ∀ (h' : Heap) (tk : Nat) (L : List Int),SetL prog w h' s.heap.objs.size L → L.Nodup → (∀ x,x ∈ L ↔ x ∈ ns) → (∀ b o,s.heap.get? b = some o → h'.get? b = some o) → Q (.ref s.heap.objs.size) { s with heap := h',toks := tk }) :
    wpAny (model prog w) A (call (.type "set") [.ref l]) Q E s := by
  refine set_call_l ?_
  generalize hled : (!(w.params.followText "set-order")) = led
  have hlt : l < s.heap.objs.size := by
    obtain ⟨o,ho,_⟩ := hl
    exact Heap.lt_size ho
  have hl1 : (s.heap.push (set0 led)).IsList l items := hl.push _
  have hS : (s.heap.push (set0 led)).get? s.heap.objs.size = some (set0 led) := Heap.get?_push_size _ rfl
  have hR : SetL prog w (s.heap.push (set0 led)) s.heap.objs.size [] := ⟨#[],⟨set0 led,0,_,hS,⟨rfl,rfl,rfl⟩,rfl,⟨fun e he => by simp at he,rfl,fresh_rz 0 0 led,hled.symm⟩⟩,rfl⟩
  have f1 := PySem.F.sub_list_set; have f2 := PySem.F.sub_list_frozenset
  have f3 : (Value.type "list" == Value.type "dict") = false := by decide
  obtain ⟨o,ho,hc,nl,hd⟩ := id hl1
  obtain ⟨oc,od,odt,osl⟩ := o
  simp only at hc hd
  subst hc hd
  unfold Builtin.«set.__init__» noKeywords Builtin.Frozenset.updateFrom
  generalize hI : pyIter = I0
  wp_walk
  subst hI
  refine wpAny_pyIter_list hl1 (wpAny_bind (wpAny_runValue ?_))
  have e1 : (s.heap.push (set0 led)).objs.size = s.heap.objs.size + 1 := Heap.size_push ..
  have nf : s.heap.objs.size ∉ [(s.heap.push (set0 led)).objs.size,l] := by
    rw [e1]
    intro z
    rcases List.mem_cons.mp z with z | z
    · exact Nat.ne_of_lt (Nat.lt_succ_self _) z
    · exact Nat.ne_of_gt hlt (List.mem_singleton.mp z)
  have nI : l ≠ (s.heap.push (set0 led)).objs.size := by rw [e1]; exact Nat.ne_of_lt (Nat.lt_succ_of_lt hlt)
  have vals : ∀ (i : Nat) (v : Value),items[i]? = some v → ∃ t,v = .int ((fun i => ns.getD i 0) i) t := fun i v hv => IntsAre.int_at hi i v (by rw [Array.getElem?_toList]; exact hv)
  have hlen := IntsAre.length hi
  rw [Array.length_toList] at hlen
  refine fill_l ((Walks.list (show A.in1.in1.in1.handled = none by simp [hh]) _ l nI items).toS) nf vals hb (items.size - 0) 0 _ [] rfl (Nat.zero_le _) ⟨⟨_,Heap.get?_push_size _ rfl,rfl,rfl⟩,hl1.push _⟩ ⟨hR.stay fun o e => Heap.get?_push_of_some _ e,List.nodup_nil,Nat.zero_le _,fun x => ⟨fun z => absurd z (List.not_mem_nil),fun ⟨j,z,_⟩ => absurd z (Nat.not_lt_zero j)⟩⟩ ?_
  intro s' L' hm X
  obtain ⟨h',g',d',tk',os'⟩ := s'
  obtain rfl : g' = s.gens := hm.gens
  obtain rfl : d' = s.drawn := hm.drawn
  obtain rfl : os' = s.os := hm.os
  refine wpAny_pure (wpAny_pure ⟨rfl,h h' tk' L' X.at_ X.nd (fun x => ?_) fun b o hbo => ?_⟩)
  · rw [X.mem]
    constructor
    · rintro ⟨j,hj,rfl⟩
      have : j < ns.length := by omega
      simp [this]
    · intro hx
      obtain ⟨j,hj,rfl⟩ := List.mem_iff_getElem.mp hx
      exact ⟨j,by omega,by simp [hj]⟩
  · have b1 := Heap.lt_size hbo
    refine hm.heap b o (fun z => ?_) (Heap.get?_push_of_some _ (Heap.get?_push_of_some _ hbo))
    rw [e1] at z
    rcases List.mem_cons.mp z with z | z
    · exact Nat.ne_of_lt b1 z
    · exact Nat.ne_of_lt (Nat.lt_succ_of_lt b1) (List.mem_singleton.mp z)
end
end L2
namespace L2
open PySem PySem.Spec PyProof.Rows
theorem slot_si_next : Slot "set_iterator" "__next__" "set_iterator.__next__" :=
  .of (owner := "set_iterator") (n := "__next__") (by rw [typeLookup_type,builtinLookup_eq_fast]; kernel_rfl) (by decide +kernel) (by decide +kernel) (by decide +kernel)
    (by first | exact .inl (by decide +kernel) | exact .inr (by decide +kernel)) (by rw [isSubtype_type]; kernel_rfl)
theorem entry_si_next : entryFor table "set_iterator.__next__" = some Builtin.«set_iterator.__next__» := entryFor_of_tree (by kernel_rfl)
theorem args_si_next (a : Value) : argsOk "set_iterator.__next__" ⟨[a],[]⟩ := by unfold argsOk; kernel_rfl
theorem entry_set_iter : entryFor table "set.__iter__" = some Builtin.«frozenset.__iter__» := entryFor_alias (id' := "frozenset.__iter__") (by kernel_rfl) rfl (by decide +kernel) (by kernel_rfl)
section
variable {prog : Program} {w : World} {A : Around} {E : Value → Shared → Prop} {s : Shared} {a I T : Addr}
theorem wpAny_chosen {M : Model} {src : Source} {n : Nat} {Q : Nat → Shared → Prop} (hn : n ≠ 0) (h : ∀ i d,i < n → Q i { s with drawn := d }) : wpAny M A (choose src n) Q E s := fun Γ p _ => by
  unfold choose
  rw [Sem.wp_choose]
  exact ⟨hn,by rw [Sem.wp_pure]; exact h _ _ (Nat.mod_lt _ (Nat.pos_of_ne_zero hn))⟩
theorem draw_perm {M : Model} {α : Type} : ∀ (n : Nat) (xs : List α) (s : Shared) (Q : List α → Shared → Prop),xs.length ≤ n → (∀ ys d,ys.Perm xs → Q ys { s with drawn := d }) → wpAny M A (drawOrder n xs) Q E s
  | 0,xs,s,Q,hl,h => by
    obtain rfl : xs = [] := List.length_eq_zero_iff.mp (Nat.le_zero.mp hl)
    unfold drawOrder
    exact wpAny_pure (h [] s.drawn (List.Perm.refl _))
  | n + 1,[],s,Q,_,h => by
    unfold drawOrder
    exact wpAny_pure (h [] s.drawn (List.Perm.refl _))
  | n + 1,x :: r,s,Q,hl,h => by
    unfold drawOrder
    refine wpAny_bind (wpAny_chosen (by simp) fun i d hi => ?_)
    rw [List.getElem?_eq_getElem hi]
    dsimp only
    refine wpAny_bind (draw_perm n _ _ _ (by rw [List.length_eraseIdx_of_lt hi]; simp at hl ⊢; omega) fun ys d' p => wpAny_pure ?_)
    refine h _ d' ?_
    refine (p.cons _).trans ?_
    rw [List.eraseIdx_eq_take_drop_succ]
    have e : x :: r = (x :: r).take i ++ (x :: r)[i] :: (x :: r).drop (i + 1) := by
      conv => lhs; rw [← List.take_append_drop i (x :: r),List.drop_eq_getElem_cons hi]
    have p2 := (List.perm_middle (a := (x :: r)[i]) (l₁ := (x :: r).take i) (l₂ := (x :: r).drop (i + 1))).symm
    rw [← e] at p2
    exact p2
abbrev siObj (first : Value) (i : Nat) (a : Addr) (n ep : Nat) : Obj := { cls := .type "set_iterator",data := .fields #[first,.int i 0,.ref a,.int n 0,.int ep 0] }
inductive Mode (w : World) (h : Heap) (a T : Addr) (es : Array (Int × Value)) (ep : Nat) (t : SetTable) (i : Nat) : Value → List Value → Prop
  | text : w.params.followText "set-order" = true → Mode w h a T es ep t i (.int 0 0) ((pickOrder (w.params.setOrder a ep) es).toList.map (·.2))
  | drawn {ps : List Nat} {n' : Nat} : h.get? T = some { cls := .type "tuple",data := .seq (ps.map fun p : Nat => (.int p 0 : Value)).toArray n' } → ps.Perm (List.range es.size) → Mode w h a T es ep t i (.ref T) (ps.map fun p => (es.getD p (0,.none)).2)
  | place {slot : Nat} : w.params.followText "set-order" = false → (t.plain = true ∨ es.size ≤ 1) → SetTable.below t.place slot = i → Mode w h a T es ep t i (.int slot 0) (es.toList.map (·.2))
def SiAt (prog : Program) (w : World) (h : Heap) (I a T : Addr) (es : Array (Int × Value)) (ord : List Value) (i : Nat) : Prop :=
  ∃ o ep t first,h.get? a = some o ∧ o.ExactSet ∧ o.data = .set es ep t ∧ TabL prog w es t ∧ h.get? I = some (siObj first i a es.size ep) ∧ Mode w h a T es ep t i first ord
theorem Mode.perm {h : Heap} {es : Array (Int × Value)} {ep : Nat} {t : SetTable} {i : Nat} {first : Value} {ord : List Value} (m : Mode w h a T es ep t i first ord) : ord.Perm (es.toList.map (·.2)) := by
  cases m with
  | text _ => exact (pick_perm _ es).map _
  | @drawn ps _ _ p =>
    refine (p.map _).trans (List.Perm.of_eq ?_)
    apply List.ext_getElem
    · simp
    · intro j h1 h2
      simp at h1 h2
      simp [h1]
  | place _ _ _ => exact List.Perm.refl _
theorem below_zero {xs : Array Nat} (hs : xs.toList.Pairwise (· < ·)) : SetTable.below xs 0 = 0 := by
  obtain ⟨b1,b2,b3⟩ := below_ok hs 0
  rcases Nat.eq_zero_or_pos (SetTable.below xs 0) with z | z
  · exact z
  · exact absurd (b2 0 (by omega) z) (Nat.not_lt_zero _)
theorem below_next {xs : Array Nat} (hs : xs.toList.Pairwise (· < ·)) {i : Nat} (hi : i < xs.size) : SetTable.below xs (xs[i] + 1) = i + 1 := by
  obtain ⟨b1,b2,b3⟩ := below_ok hs (xs[i] + 1)
  have mono : ∀ j k (hj : j < xs.size) (hk : k < xs.size),j < k → xs[j] < xs[k] := fun j k hj hk hjk => by
    have := (List.pairwise_iff_getElem.mp hs) j k (by simpa using hj) (by simpa using hk) hjk
    simpa using this
  rcases Nat.lt_trichotomy (SetTable.below xs (xs[i] + 1)) (i + 1) with z | z | z
  · have := b3 i hi (by omega)
    omega
  · exact z
  · have h1 : i + 1 < xs.size := by omega
    have := b2 (i + 1) h1 z
    have := mono i (i + 1) hi h1 (Nat.lt_succ_self i)
    omega
theorem iter_l {es : Array (Int × Value)} {Q : Value → Shared → Prop} (hS : AtL prog w s.heap a es) (hz : es.size ≤ sizeLine)
    (h : ∀ (h' : Heap) (d : Drawn) (I T : Addr) (ord : List Value),SiAt prog w h' I a T es ord 0 → ord.Perm (es.toList.map (·.2)) → s.heap.objs.size ≤ I → I < h'.objs.size → a ≠ I → T ≠ I → (T = a ∨ s.heap.objs.size ≤ T) → (∀ b o,s.heap.get? b = some o → h'.get? b = some o) → Q (.ref I) { s with heap := h',drawn := d }) :
    wpAny (model prog w) A (pyIter (.ref a)) Q E s := by
  obtain ⟨o,ep,t,ho,hx,hd,TB⟩ := hS
  have hT : s.TypeIs (.ref a) "set" := ⟨o,ho,hx.1⟩
  have alt := Heap.lt_size ho
  refine wpAny_pyIter_slot hT PySem.F.slot_set_iter (wpAny_call_entry PySem.F.slot_set_iter hT entry_set_iter ?_ (PySem.F.args_set_iter_1 _))
  have start : ∀ (h' : Heap) (d : Drawn) (T : Addr) (first : Value) (ord : List Value),(∀ b o,s.heap.get? b = some o → h'.get? b = some o) → s.heap.objs.size ≤ h'.objs.size → T < h'.objs.size → (T = a ∨ s.heap.objs.size ≤ T) → (∀ h'',(∀ b o,h'.get? b = some o → h''.get? b = some o) → Mode w h'' a T es ep t 0 first ord) →
      wpAny (model prog w) A.in1 (do ret (← newFields "set_iterator" [first,rawInt 0,.ref a,rawInt es.size,rawInt (← setEpoch a)])) (fun f s' => ∃ v,f = .done (.ret v) ∧ ∃ T' r,s'.TypeIs v T' ∧ typeLookup (.type T') "__next__" = pure (some r) ∧ Q v s') E { s with heap := h',drawn := d } := fun h' d T first ord kp hsz hTl hTc md => by
    refine wpAny_bind (wpAny_setEpoch_of (s := { s with heap := h',drawn := d }) (kp a o ho) hd TB.fit ?_)
    refine wpAny_bind (wpAny_newObj_type (wpAny_pure ⟨_,rfl, "set_iterator",_,⟨_,Heap.get?_push_size _ rfl,rfl⟩,slot_si_next.lookup,?_⟩))
    have kp2 : ∀ b o',h'.get? b = some o' → (h'.push (siObj first 0 a es.size ep)).get? b = some o' := fun b o' e => Heap.get?_push_of_some _ e
    have z2 : (h'.push (siObj first 0 a es.size ep)).objs.size = h'.objs.size + 1 := Heap.size_push ..
    refine h _ d h'.objs.size T ord ⟨o,ep,t,first,kp2 _ _ (kp a o ho),hx,hd,TB,Heap.get?_push_size _ rfl,md _ kp2⟩ (md _ kp2).perm hsz (Nat.lt_of_lt_of_eq (Nat.lt_succ_self _) z2.symm) (Nat.ne_of_lt (Nat.lt_of_lt_of_le alt hsz)) (Nat.ne_of_lt hTl) hTc fun b o' e => kp2 b o' (kp b o' e)
  refine wpAny_bind (m := Builtin.Frozenset.slot0 "__iter__" ⟨[.ref a],[]⟩) ?_
  unfold Builtin.Frozenset.slot0 slotArgs
  refine wpAny_bind (wpAny_pure (wpAny_pure ?_))
  refine wpAny_bind (m := Builtin.Frozenset.sizeOf a) (wpAny_bind (wpAny_setEntries_of ho hd TB.fit (wpAny_pure ?_)))
  refine wpAny_bind (m := setDrawn a) ?_
  unfold setDrawn setsByText
  refine wpAny_bind (wpAny_setState_of ho hd TB.fit ?_)
  dsimp only
  refine wpAny_bind (wpAny_bind (wpAny_askSetting (wpAny_pure (wpAny_pure ?_))))
  show wpAny _ _ (if (!(w.params.followText "set-order") && (!t.plain && decide (es.size > 1))) = true then _ else _) _ _ _
  by_cases c : (!(w.params.followText "set-order") && (!t.plain && decide (es.size > 1))) = true
  · rw [if_pos c]
    refine wpAny_bind (draw_perm _ _ _ _ (by simp) fun ps d p => ?_)
    have pl : ps.length ≤ sizeLine := by
      rw [p.length_eq,List.length_range]
      exact hz
    refine wpAny_bind (wpAny_newTuple ?_ (by rw [List.length_map]; exact pl))
    refine start _ d s.heap.objs.size _ _ (fun b o' e => Heap.get?_push_of_some _ e) ?_ ?_ (.inr (Nat.le_refl _)) fun h'' k => .drawn (k _ _ (Heap.get?_push_size _ rfl)) p
    · rw [Heap.size_push]
      exact Nat.le_succ _
    · rw [Heap.size_push]
      exact Nat.lt_succ_self _
  · rw [if_neg c]
    refine wpAny_bind (wpAny_pure ?_)
    by_cases c1 : w.params.followText "set-order" = true
    · exact start s.heap s.drawn a _ _ (fun _ _ e => e) (Nat.le_refl _) alt (.inl rfl) fun h'' _ => .text c1
    · refine start s.heap s.drawn a _ _ (fun _ _ e => e) (Nat.le_refl _) alt (.inl rfl) fun h'' _ => .place (slot := 0) (by simpa using c1) ?_ (below_zero TB.rz.up)
      rw [Bool.not_eq_true] at c1
      rw [c1] at c
      by_cases c2 : t.plain = true
      · exact .inl c2
      · rw [Bool.not_eq_true] at c2
        rw [c2] at c
        simp at c
        exact .inr c
theorem setWalk_text {es : Array (Int × Value)} {o : Obj} {ep : Nat} {t : SetTable} {Q : Array (Int × Value) → Shared → Prop} (ho : s.heap.get? a = some o) (hd : o.data = .set es ep t) (hf : t.fits es.size = true) (c : w.params.followText "set-order" = true) (h : Q (pickOrder (w.params.setOrder a ep) es) s) : wpAny (model prog w) A (setWalk a) Q E s := by
  unfold setWalk setsByText
  refine wpAny_bind (wpAny_setState_of ho hd hf ?_)
  dsimp only
  refine wpAny_bind (wpAny_bind (wpAny_askSetting (wpAny_pure ?_)))
  rw [if_pos (show (model prog w).w.params.followText "set-order" = true from c)]
  exact wpAny_bind (wpAny_askSetting (wpAny_pure h))
theorem setNext_text {es : Array (Int × Value)} {o : Obj} {ep slot i : Nat} {t : SetTable} {Q : Option (Value × Nat) → Shared → Prop} (ho : s.heap.get? a = some o) (hd : o.data = .set es ep t) (hf : t.fits es.size = true) (c : w.params.followText "set-order" = true)
    (h : Q (((pickOrder (w.params.setOrder a ep) es)[i]?).map fun e => (e.2,slot)) s) : wpAny (model prog w) A (setNext a slot i ep) Q E s := by
  unfold setNext setsByText
  refine wpAny_bind (wpAny_setState_of ho hd hf ?_)
  dsimp only
  refine wpAny_bind (wpAny_bind (wpAny_askSetting (wpAny_pure ?_)))
  rw [if_pos (show (model prog w).w.params.followText "set-order" = true from c)]
  rw [if_neg (by simp)]
  exact wpAny_bind (setWalk_text ho hd hf c (wpAny_pure h))
theorem setNext_place {es : Array (Int × Value)} {o : Obj} {ep slot i : Nat} {t : SetTable} {Q : Option (Value × Nat) → Shared → Prop} (ho : s.heap.get? a = some o) (hd : o.data = .set es ep t) (TB : TabL prog w es t) (c : w.params.followText "set-order" = false) (cp : t.plain = true ∨ es.size ≤ 1)
    (h : Q (match es[SetTable.below t.place slot]?,t.place[SetTable.below t.place slot]? with | some (_,x),some j => some (x,j + 1) | _,_ => none) s) : wpAny (model prog w) A (setNext a slot i ep) Q E s := by
  unfold setNext setsByText
  refine wpAny_bind (wpAny_setState_of ho hd TB.fit ?_)
  dsimp only
  refine wpAny_bind (wpAny_bind (wpAny_askSetting (wpAny_pure ?_)))
  rw [if_neg (show ¬ (model prog w).w.params.followText "set-order" = true from fun z => by rw [show (model prog w).w.params.followText "set-order" = false from c] at z; cases z)]
  have nd : (!t.plain && decide (es.size > 1)) = false := by
    rcases cp with z | z
    · rw [z]; rfl
    · rw [decide_eq_false (by omega)]; simp
  show wpAny _ _ (if (!t.plain && decide (es.size > 1)) = true then _ else _) _ _ _
  rw [if_neg (show ¬ (!t.plain && decide (es.size > 1)) = true from fun z => by rw [nd] at z; cases z)]
  have ld : (!t.led && !es.isEmpty) = false := by rw [TB.led,c]; rfl
  refine wpAny_bind (m := if (!t.led && !es.isEmpty) = true then unsupported "set:maker-not-led" else pure ()) ?_
  rw [if_neg (by rw [ld]; exact Bool.false_ne_true)]
  exact wpAny_pure (wpAny_pure h)
theorem setNext_drawn {es : Array (Int × Value)} {o : Obj} {ep p : Nat} {t : SetTable} {e : Int × Value} {Q : Value → Shared → Prop} (ho : s.heap.get? a = some o) (hd : o.data = .set es ep t) (hf : t.fits es.size = true) (he : es[p]? = some e) (h : Q e.2 s) : wpAny (model prog w) A (setNextDrawn a p ep) Q E s := by
  unfold setNextDrawn
  refine wpAny_bind (wpAny_setState_of ho hd hf ?_)
  dsimp only
  rw [if_neg (by simp),he]
  exact wpAny_pure h
theorem next_item {es : Array (Int × Value)} {ord : List Value} {i : Nat} {Q : Option Value → Shared → Prop} (X : SiAt prog w s.heap I a T es ord i) (hi : i < es.size) (na : a ≠ I) (nT : T ≠ I)
    (h : ∀ v h',ord[i]? = some v → SiAt prog w h' I a T es ord (i + 1) → Heap.SameBut I s.heap h' → Q (some v) { s with heap := h' }) : wpAny (model prog w) A (pyNext (.ref I)) Q E s := by
  obtain ⟨o,ep,t,first,ho,hx,hd,TB,hI,md⟩ := X
  have hT : s.TypeIs (.ref I) "set_iterator" := ⟨_,hI,rfl⟩
  unfold pyNext
  refine wpAny_bind (wpAny_attempt (wpAny_callSpecial?_slot (name := Str.ofString "__next__") hT slot_si_next (wpAny_call_entry slot_si_next hT entry_si_next ?_ (args_si_next _))))
  unfold Builtin.«set_iterator.__next__» slotArgs
  refine wpAny_bind (wpAny_pure ?_)
  refine wpAny_bind (wpAny_fieldsOf hI rfl ?_)
  dsimp only
  refine wpAny_bind (wpAny_setEntries_of ho hd TB.fit ?_)
  rw [if_neg (by simp)]
  have hpl : t.place.size = es.size := by
    have := TB.fit
    simp only [SetTable.fits,Bool.and_eq_true,beq_iff_eq] at this
    exact this.1
  have two : ∀ (f : Value) (next : Nat) (v : Value) (R : Fin → Shared → Prop) (E' : Value → Shared → Prop),ord[i]? = some v → first = f → (∀ h',Heap.SameBut I s.heap h' → Mode w h' a T es ep t (i + 1) (.int next 0) ord) → (∀ h',SiAt prog w h' I a T es ord (i + 1) → Heap.SameBut I s.heap h' → R (.done (.ret v)) { s with heap := h' }) →
      wpAny (model prog w) A.in1 (do setField (.ref I) 0 (rawInt next); setField (.ref I) 1 (rawInt ((i : Int) + 1)); ret v) R E' s := fun f next v R E' hv hf md' q => by
    have g1 : (s.heap.update I (Obj.mapFields (·.setIfInBounds 0 (rawInt next)))).get? I = some (siObj (.int next 0) i a es.size ep) := Heap.get?_update_self _ hI rfl
    refine wpAny_bind (wpAny_setField hI rfl (by simp) ?_)
    have g2 : ((s.heap.update I (Obj.mapFields (·.setIfInBounds 0 (rawInt next)))).update I (Obj.mapFields (·.setIfInBounds 1 (rawInt ((i : Int) + 1))))).get? I = some (siObj (.int next 0) (i + 1) a es.size ep) := Heap.get?_update_self _ g1 rfl
    refine wpAny_bind (wpAny_setField g1 rfl (by simp) (wpAny_pure ?_))
    have sb := (Heap.SameBut.update s.heap I (Obj.mapFields (·.setIfInBounds 0 (rawInt next)))).trans (Heap.SameBut.update _ I (Obj.mapFields (·.setIfInBounds 1 (rawInt ((i : Int) + 1)))))
    exact q _ ⟨o,ep,t,_,(sb.2 a na).trans ho,hx,hd,TB,g2,md' _ sb⟩ sb
  have fin : ∀ v h',ord[i]? = some v → SiAt prog w h' I a T es ord (i + 1) → Heap.SameBut I s.heap h' → ∃ v',(Fin.done (.ret v) = .done (.ret v')) ∧ wpAny (model prog w) A (pure (some v')) Q E { s with heap := h' } := fun v h' hv X sb => ⟨v,rfl,wpAny_pure (h v h' hv X sb)⟩
  cases md with
  | text c =>
    have hl : i < (pickOrder (w.params.setOrder a ep) es).size := by
      have := (pick_perm (w.params.setOrder a ep) es).length_eq
      rw [Array.length_toList,Array.length_toList] at this
      omega
    show wpAny _ _ (setNext a (Int.toNat ((0 : Nat) : Int)) (Int.toNat ((i : Nat) : Int)) (Int.toNat ((ep : Nat) : Int)) >>= _) _ _ _
    rw [Int.toNat_natCast,Int.toNat_natCast,Int.toNat_natCast]
    refine wpAny_bind (setNext_text ho hd TB.fit c ?_)
    rw [Array.getElem?_eq_getElem hl]
    have hv : ((pickOrder (w.params.setOrder a ep) es).toList.map (·.2))[i]? = some (pickOrder (w.params.setOrder a ep) es)[i].2 := by
      rw [List.getElem?_map,Array.getElem?_toList,Array.getElem?_eq_getElem hl]
      rfl
    exact two (.int 0 0) 0 _ (fun fin s' => ∃ v',fin = .done (.ret v') ∧ wpAny (model prog w) A (pure (some v')) Q E s') _ hv rfl (fun h' _ => .text c) fun h' X sb => fin _ h' hv X sb
  | @drawn ps n' hTt p =>
    have hl : i < ps.length := by rw [p.length_eq,List.length_range]; exact hi
    have hp : ps[i] < es.size := List.mem_range.mp (p.mem_iff.mp (List.getElem_mem hl))
    have hv : (ps.map fun p => (es.getD p (0,.none)).2)[i]? = some es[ps[i]].2 := by
      rw [List.getElem?_map,List.getElem?_eq_getElem hl]
      simp [hp]
    show wpAny _ _ (seqItems? (.ref T) >>= _) _ _ _
    refine wpAny_bind (wpAny_seqItems hTt rfl ?_)
    have hi' : (ps.map fun p : Nat => (.int p 0 : Value)).toArray[Int.toNat ((i : Nat) : Int)]? = some (.int (ps[i] : Nat) 0) := by
      rw [Int.toNat_natCast]
      simp [hl]
    dsimp only
    rw [hi']
    show wpAny _ _ (setNextDrawn a (Int.toNat ((ps[i] : Nat) : Int)) (Int.toNat ((ep : Nat) : Int)) >>= _) _ _ _
    rw [Int.toNat_natCast,Int.toNat_natCast]
    refine wpAny_bind (setNext_drawn ho hd TB.fit (Array.getElem?_eq_getElem hp) ?_)
    have g2 : (s.heap.update I (Obj.mapFields (·.setIfInBounds 1 (rawInt ((i : Int) + 1))))).get? I = some (siObj (.ref T) (i + 1) a es.size ep) := Heap.get?_update_self _ hI rfl
    refine wpAny_bind (wpAny_setField hI rfl (by simp) (wpAny_pure ?_))
    have sb := Heap.SameBut.update s.heap I (Obj.mapFields (·.setIfInBounds 1 (rawInt ((i : Int) + 1))))
    exact fin _ _ hv ⟨o,ep,t,_,(sb.2 a na).trans ho,hx,hd,TB,g2,.drawn ((sb.2 T nT).trans hTt) p⟩ sb
  | @place slot c cp hb =>
    have hip : i < t.place.size := by omega
    show wpAny _ _ (setNext a (Int.toNat ((slot : Nat) : Int)) (Int.toNat ((i : Nat) : Int)) (Int.toNat ((ep : Nat) : Int)) >>= _) _ _ _
    rw [Int.toNat_natCast,Int.toNat_natCast,Int.toNat_natCast]
    refine wpAny_bind (setNext_place ho hd TB c cp ?_)
    rw [hb,Array.getElem?_eq_getElem hi,Array.getElem?_eq_getElem hip]
    have hv : (es.toList.map (·.2))[i]? = some es[i].2 := by
      rw [List.getElem?_map,Array.getElem?_toList,Array.getElem?_eq_getElem hi]
      rfl
    exact two (.int slot 0) (t.place[i] + 1) _ (fun fin s' => ∃ v',fin = .done (.ret v') ∧ wpAny (model prog w) A (pure (some v')) Q E s') _ hv rfl (fun h' _ => .place c cp (below_next TB.rz.up hip)) fun h' X sb => fin _ h' hv X sb
theorem next_end {es : Array (Int × Value)} {ord : List Value} {Q : Option Value → Shared → Prop} (hh : A.handled = none) (X : SiAt prog w s.heap I a T es ord es.size)
    (h : ∀ h',Heap.ExtBut I s.heap h' → Q none { s with heap := h' }) : wpAny (model prog w) A (pyNext (.ref I)) Q E s := by
  obtain ⟨o,ep,t,first,ho,hx,hd,TB,hI,md⟩ := X
  have hT : s.TypeIs (.ref I) "set_iterator" := ⟨_,hI,rfl⟩
  unfold pyNext
  refine wpAny_bind (wpAny_attempt (wpAny_callSpecial?_slot (name := Str.ofString "__next__") hT slot_si_next (wpAny_call_entry slot_si_next hT entry_si_next ?_ (args_si_next _))))
  unfold Builtin.«set_iterator.__next__» slotArgs
  refine wpAny_bind (wpAny_pure ?_)
  refine wpAny_bind (wpAny_fieldsOf hI rfl ?_)
  dsimp only
  refine wpAny_bind (wpAny_setEntries_of ho hd TB.fit ?_)
  rw [if_neg (by simp)]
  have hpl : t.place.size = es.size := by
    have := TB.fit
    simp only [SetTable.fits,Bool.and_eq_true,beq_iff_eq] at this
    exact this.1
  /- the iterator lets go of the set and ends -/
  have stop : ∀ (s1 : Shared) (f0 : Value),s1.heap.get? I = some (siObj f0 es.size a es.size ep) → (∀ h',Heap.ExtBut I s1.heap h' → Q none { s1 with heap := h' }) →
      wpAny (model prog w) A.in1 (do setField (.ref I) 2 .none; raiseNew (← newExc (.type "StopIteration") []) : Sem Fin) (fun f s' => ∃ v,f = .done (.ret v) ∧ wpAny (model prog w) A (pure (some v)) Q E s') (fun e s' => wpAny (model prog w) A (do if ← isInstance e (.type "StopIteration") then pure none else throw e) Q E s') s1 := fun s1 f0 g q => by
    refine wpAny_bind (wpAny_setField g rfl (by simp) ?_)
    refine wpAny_bind (m := newExc (.type "StopIteration") []) ?_
    simp only [newExc,newTuple]
    refine wpAny_bind (wpAny_newObj_type ?_ (by size_fits))
    refine wpAny_bind (m := firstArgMember _ _) (wpAny_of_eq (a := Value.none) (by first | rfl | (simp only [firstArgMember]; rfl)) ?_)
    refine wpAny_newObj_type ?_ (by size_fits)
    simp only [raiseNew]
    refine wpAny_bind (wpAny_handled ?_)
    first | rw [show A.in1.handled = none from hh] | rw [hh]
    refine wpAny_bind (wpAny_pure (wpAny_throw ?_))
    refine wpAny_bind (wpAny_isInstance (T := "StopIteration") (b := true) ⟨_,Heap.get?_push_size _ rfl,rfl⟩ isSubtype_stop ?_)
    exact wpAny_pure (q _ (((Heap.SameBut.update ..).extBut.push _).push _))
  cases md with
  | text c =>
    have hl : (pickOrder (w.params.setOrder a ep) es).size = es.size := by
      have := (pick_perm (w.params.setOrder a ep) es).length_eq
      rwa [Array.length_toList,Array.length_toList] at this
    show wpAny _ _ (setNext a (Int.toNat ((0 : Nat) : Int)) (Int.toNat ((es.size : Nat) : Int)) (Int.toNat ((ep : Nat) : Int)) >>= _) _ _ _
    rw [Int.toNat_natCast,Int.toNat_natCast,Int.toNat_natCast]
    refine wpAny_bind (setNext_text ho hd TB.fit c ?_)
    rw [Array.getElem?_eq_none (by omega)]
    exact stop s _ hI h
  | @drawn ps n' hTt p =>
    have hl : ps.length = es.size := by rw [p.length_eq,List.length_range]
    show wpAny _ _ (seqItems? (.ref T) >>= _) _ _ _
    refine wpAny_bind (wpAny_seqItems hTt rfl ?_)
    have hi' : (ps.map fun p : Nat => (.int p 0 : Value)).toArray[Int.toNat ((es.size : Nat) : Int)]? = none := by
      rw [Int.toNat_natCast]
      simp [hl]
    dsimp only
    rw [hi']
    have g1 : (s.heap.update I (Obj.mapFields (·.setIfInBounds 0 (rawInt 0)))).get? I = some (siObj (.int 0 0) es.size a es.size ep) := Heap.get?_update_self _ hI rfl
    refine wpAny_bind (wpAny_setField hI rfl (by simp) ?_)
    exact stop { s with heap := s.heap.update I (Obj.mapFields (·.setIfInBounds 0 (rawInt 0))) } _ g1 fun h' x => h h' fun b o hb e => x b o hb (((Heap.SameBut.update s.heap I _).2 b hb).trans e)
  | @place slot c cp hb =>
    show wpAny _ _ (setNext a (Int.toNat ((slot : Nat) : Int)) (Int.toNat ((es.size : Nat) : Int)) (Int.toNat ((ep : Nat) : Int)) >>= _) _ _ _
    rw [Int.toNat_natCast,Int.toNat_natCast,Int.toNat_natCast]
    refine wpAny_bind (setNext_place ho hd TB c cp ?_)
    rw [hb,Array.getElem?_eq_none (Nat.le_refl _)]
    exact stop s _ hI h
theorem slot_si_iter : Slot "set_iterator" "__iter__" "set_iterator.__iter__" :=
  .of (owner := "set_iterator") (n := "__iter__") (by rw [typeLookup_type,builtinLookup_eq_fast]; kernel_rfl) (by decide +kernel) (by decide +kernel) (by decide +kernel)
    (by first | exact .inl (by decide +kernel) | exact .inr (by decide +kernel)) (by rw [isSubtype_type]; kernel_rfl)
theorem entry_si_iter : entryFor table "set_iterator.__iter__" = some Builtin.«dict_keyiterator.__iter__» := entryFor_alias (id' := "dict_keyiterator.__iter__") (by kernel_rfl) rfl (by decide +kernel) (by kernel_rfl)
theorem args_si_iter (a : Value) : argsOk "set_iterator.__iter__" ⟨[a],[]⟩ := by unfold argsOk; kernel_rfl
theorem Mode.stay {h h' : Heap} {es : Array (Int × Value)} {ep : Nat} {t : SetTable} {i : Nat} {first : Value} {ord : List Value} (m : Mode w h a T es ep t i first ord) (k : ∀ o,h.get? T = some o → h'.get? T = some o) : Mode w h' a T es ep t i first ord := by
  cases m with
  | text c => exact .text c
  | drawn e p => exact .drawn (k _ e) p
  | place c cp hb => exact .place c cp hb
theorem walk_l {es : Array (Int × Value)} {ord : List Value} (hh : A.handled = none) (na : a ≠ I) (nT : T ≠ I) : Walks prog w A I [I,a,T] [I] es.size (fun i v => ord[i]? = some v) (fun i h => SiAt prog w h I a T es ord i) where
  sub := fun b hb => by rw [List.mem_singleton.mp hb]; simp
  frame := fun i h h' X k => by
    obtain ⟨o,ep,t,first,ho,hx,hd,TB,hI,md⟩ := X
    exact ⟨o,ep,t,first,k a (by simp) o ho,hx,hd,TB,k I (by simp) _ hI,md.stay fun o e => k T (by simp) o e⟩
  item := fun i s Q E hi X q => next_item X hi na nT fun v h' hv X' sb => q v h' s.toks hv X' fun b o hb e => (sb.2 b fun z => hb (by simp [z])).trans e
  done := fun s Q E X q => next_end hh X fun h' x => q h' s.toks fun b o hb e => x b o (fun z => hb (by simp [z])) e
  self := fun i s Q E X q => by
    obtain ⟨o,ep,t,first,ho,hx,hd,TB,hI,md⟩ := X
    have hT : s.TypeIs (.ref I) "set_iterator" := ⟨_,hI,rfl⟩
    refine wpAny_pyIter_slot hT slot_si_iter (wpAny_call_entry slot_si_iter hT entry_si_iter ?_ (args_si_iter _))
    show wpAny _ _ (ret (.ref I)) _ _ s
    exact wpAny_pure ⟨_,rfl, "set_iterator",_,hT,slot_si_next.lookup,q⟩
theorem collect_l {es : Array (Int × Value)} {Q : List Value → Shared → Prop} (hh : A.handled = none) (hS : AtL prog w s.heap a es) (hz : es.size ≤ sizeLine)
    (h : ∀ (h' : Heap) (d : Drawn) (tk : Nat) (vs : List Value),vs.Perm (es.toList.map (·.2)) → s.heap.objs.size < h'.objs.size → (∀ b o,s.heap.get? b = some o → h'.get? b = some o) → Q vs { s with heap := h',drawn := d,toks := tk }) :
    wpAny (model prog w) A (collect (.ref a)) Q E s := by
  have alt : a < s.heap.objs.size := by
    obtain ⟨o,_,_,ho,_⟩ := hS
    exact Heap.lt_size ho
  have hT : ∀ h',(∀ b o,s.heap.get? b = some o → h'.get? b = some o) → ∀ d tk,Shared.TypeIs { s with heap := h',drawn := d,toks := tk } (.ref a) "set" := fun h' k d tk => by
    obtain ⟨o,_,_,ho,hx,_⟩ := hS
    exact ⟨o,k a o ho,hx.1⟩
  unfold collect
  refine wpAny_bind (wpAny_runValue (codeAny_builtin PySem.F.entry_proto_collect ?_))
  rw [Around.under_plainId PySem.F.plain_proto_collect _]
  refine wpAny_bind (m := newList []) (wpAny_newList (wpAny_pure ⟨plainId_quiet PySem.F.plain_list_iadd _,codeAny_builtin entry_list_iadd' ?_⟩))
  rw [Around.under_plainId PySem.F.plain_list_iadd _]
  have k1 : ∀ b o,s.heap.get? b = some o → (s.heap.push { cls := .type "list",data := .seq ([] : List Value).toArray }).get? b = some o := fun b o e => Heap.get?_push_of_some _ e
  have g1 : (s.heap.push { cls := .type "list",data := .seq ([] : List Value).toArray }).get? s.heap.objs.size = some { cls := .type "list",data := .seq ([] : List Value).toArray } := Heap.get?_push_size _ rfl
  have z1 : (s.heap.push { cls := .type "list",data := .seq ([] : List Value).toArray }).objs.size = s.heap.objs.size + 1 := Heap.size_push ..
  show wpAny _ A.in1 (Builtin.List.listExtendWith (.ref s.heap.objs.size) (.ref a) (.ref s.heap.objs.size)) _ _ _
  generalize s.heap.push { cls := .type "list",data := .seq ([] : List Value).toArray } = h1 at k1 g1 z1 ⊢
  unfold Builtin.List.listExtendWith
  refine wpAny_bind (wpAny_typeOf (hT h1 k1 _ _) ?_)
  have nS : s.heap.objs.size ≠ a := Nat.ne_of_gt alt
  have e1 : Builtin.List.listSameRef (.ref s.heap.objs.size) (.ref a) = false := by simp [Builtin.List.listSameRef,nS]
  rw [e1,if_neg (by decide)]
  refine wpAny_bind (iter_l (s := { s with heap := h1 }) (hS.stay (k1 a)) hz fun h2 d I T ord X po lI lI2 na nT lT k2 => ?_)
  have k12 : ∀ b o,s.heap.get? b = some o → h2.get? b = some o := fun b o e => k2 b o (k1 b o e)
  refine wpAny_bind (wpAny_holding ?_)
  unfold Builtin.List.listLengthHint
  refine wpAny_bind (wpAny_specialOf (hT h2 k12 _ _) PySem.F.slot_set_len.lookup ?_)
  have hsp : splitId "set.__len__" = some ("set", "__len__") := by kernel_rfl
  dsimp only
  rw [hsp]
  dsimp only
  refine wpAny_bind (wpAny_isInstance (hT h2 k12 _ _) sub_set_self ?_)
  rw [if_neg (by decide)]
  rw [if_pos (by decide +kernel)]
  refine wpAny_bind (wpAny_typeOf (hT h2 k12 _ _) ?_)
  refine wpAny_pure ?_
  rw [if_pos (by decide +kernel)]
  refine wpAny_bind (wpAny_rule ?_)
  have g2 := k2 _ _ g1
  refine wpAny_bind (m := Builtin.List.listTouch (.ref s.heap.objs.size)) ?_
  show wpAny _ A.in1 (updateSeq s.heap.objs.size (·.push .none) >>= fun _ => updateSeq s.heap.objs.size (·.pop)) _ _ _
  refine wpAny_bind (wpAny_updateSeq g2 rfl ?_)
  have g3 := Heap.get?_update_self (Obj.mapSeq (·.push Value.none)) g2 rfl
  refine wpAny_updateSeq g3 rfl ?_
  have g4 := Heap.get?_update_self (Obj.mapSeq (·.pop)) g3 rfl
  have sb := (Heap.SameBut.update h2 s.heap.objs.size (Obj.mapSeq (·.push Value.none))).trans (Heap.SameBut.update _ s.heap.objs.size (Obj.mapSeq (·.pop)))
  have lS : s.heap.objs.size < I := by
    have lI : h1.objs.size ≤ I := lI
    omega
  have nST : s.heap.objs.size ≠ T := fun z => by
    rcases lT with lT | lT
    · exact nS (z.trans lT)
    · have lT : h1.objs.size ≤ T := lT
      omega
  have X4 := (walk_l (prog := prog) (w := w) (A := A.in1) (a := a) (T := T) (es := es) (ord := ord) hh na nT).frame 0 h2 _ X fun b hb o e => (sb.2 b fun z => by
    subst z
    simp only [List.mem_cons,List.not_mem_nil,or_false] at hb
    rcases hb with hb | hb | hb
    · exact Nat.ne_of_lt lS hb
    · exact nS hb
    · exact nST hb).trans e
  have nf : s.heap.objs.size ∉ [I,a,T] := fun hb => by
    simp only [List.mem_cons,List.not_mem_nil,or_false] at hb
    rcases hb with hb | hb | hb
    · exact Nat.ne_of_lt lS hb
    · exact nS hb
    · exact nST hb
  refine wpAny_pure ⟨plainId_quiet PySem.F.plain_extend_loop _,codeAny_extend_loopS ((walk_l (prog := prog) (w := w) (a := a) (T := T) (es := es) (ord := ord) (by simp [hh]) na nT).toS) hz _ nf _ es.size 0 _ _ _ rfl (Nat.zero_le _) X4 g4 (ItemsOf.nil _) fun s' acc c hm hS' hacc => ?_⟩
  refine wpAny_bind (m := load s.heap.objs.size) (wpAny_load hS' ?_)
  have eo : acc.toList = ord := by
    have lo : ord.length = es.size := by rw [po.length_eq,List.length_map,Array.length_toList]
    obtain ⟨h5,h6⟩ := hacc
    apply List.ext_getElem?
    intro j
    by_cases hj : j < es.size
    · have hj' : j < acc.size := by omega
      rw [Array.getElem?_toList,Array.getElem?_eq_getElem hj']
      exact (h6 j _ (Array.getElem?_eq_getElem hj')).symm
    · rw [Array.getElem?_toList,Array.getElem?_eq_none (by omega),List.getElem?_eq_none (by omega)]
  obtain ⟨h',g',d',tk',os'⟩ := s'
  obtain rfl : g' = s.gens := hm.gens
  obtain rfl : d' = d := hm.drawn
  obtain rfl : os' = s.os := hm.os
  refine wpAny_pure ?_
  rw [eo]
  refine h h' d' tk' ord po (Heap.lt_size hS') fun b o e => hm.heap b o (fun z => ?_) ((sb.2 b fun z => ?_).trans (k12 b o e))
  · have lb := Heap.lt_size e
    rcases List.mem_cons.mp z with z | z
    · exact Nat.ne_of_lt lb z
    · exact Nat.ne_of_lt (Nat.lt_trans lb lS) (List.mem_singleton.mp z)
  · exact Nat.ne_of_lt (Heap.lt_size e) z
def vInt : Value → Int
  | .int n _ => n
  | _ => 0
theorem ints_vs : ∀ {vs : List Value},(∀ v ∈ vs,∃ n t,v = .int n t) → IntsAre vs (vs.map vInt)
  | [],_ => .nil
  | v :: vs,h => by
    obtain ⟨n,t,rfl⟩ := h v (by simp)
    exact .cons n t (ints_vs fun v hv => h v (List.mem_cons_of_mem _ hv))
theorem sorted_l {L : List Int} {Q : Value → Shared → Prop} (hh : A.handled = none) (hS : SetL prog w s.heap a L) (h64 : L.length < 64)
    (h : ∀ (h' : Heap) (d : Drawn) (tk : Nat) (r : Addr) (out : Array Value) (ns : List Int) (e : Nat),IntsAre out.toList ns → ns.Perm L → ns.Pairwise (· ≤ ·) → h'.get? r = some (seqObj "list" out e) → s.heap.objs.size ≤ r → (∀ b o,s.heap.get? b = some o → h'.get? b = some o) → Q (.ref r) { s with heap := h',drawn := d,toks := tk }) :
    wpAny (model prog w) A (call (.builtin "sorted") [.ref a]) Q E s := by
  obtain ⟨es,hA,rfl⟩ := hS
  have hel : ElemsOf (intKind prog w) es.toList := by
    obtain ⟨_,_,_,_,_,_,TB⟩ := hA
    exact TB.el
  rw [List.length_map,Array.length_toList] at h64
  refine Calls.call_function_entry kind_sorted plain_sorted entry_sorted (args_sorted1 _) ?_
  unfold Builtin.«sorted»
  refine wpAny_bind (m := checkCount "sorted" 1 1 _) (wpAny_pure ?_)
  refine wpAny_bind (collect_l (by simp [hh]) hA (Nat.le_trans (Nat.le_of_lt h64) (by decide)) fun h1 d tk vs p l1 k1 => ?_)
  have hi : ∀ v ∈ vs,∃ n t,v = .int n t := fun v hv => by
    obtain ⟨e,he,rfl⟩ := List.mem_map.mp (p.mem_iff.mp hv)
    obtain ⟨n,t,e1,_⟩ := el_int hel he
    exact ⟨n,t,e1⟩
  have pn : (vs.map vInt).Perm (es.toList.map enK) := by
    refine (p.map vInt).trans (List.Perm.of_eq ?_)
    rw [List.map_map]
    refine List.map_congr_left fun e he => ?_
    obtain ⟨n,t,e1,e2⟩ := el_int hel he
    show vInt e.2 = enK e
    rw [e2,e1]
    rfl
  have vl : vs.length < 64 := by
    rw [p.length_eq,List.length_map,Array.length_toList]
    exact h64
  refine wpAny_bind (wpAny_newList ?_ (Nat.le_trans (Nat.le_of_lt vl) (by decide)))
  have g : (h1.push (seqObj "list" vs.toArray 0)).get? h1.objs.size = some (seqObj "list" vs.toArray 0) := Heap.get?_push_size _ rfl
  refine wpAny_bind (wpAny_holding (wpAny_call_entry slot_list_sort ⟨_,g,rfl⟩ entry_list_sort (list_sort_tree (s := { s with heap := h1.push (seqObj "list" vs.toArray 0),drawn := d,toks := tk }) g (ints_vs hi) vl fun out ns' a1 a2 a3 => ⟨_,rfl,?_⟩) (args_list_sort _)))
  obtain ⟨e,he⟩ := sortedHeap_at (out := out) g
  refine wpAny_pure ⟨_,rfl,h _ d tk h1.objs.size out ns' e a1 (a2.trans pn) a3 he (Nat.le_of_lt l1) fun b o hb => ?_⟩
  have hb1 := k1 b o hb
  have lb := Heap.lt_size hb1
  rw [sortedHeap_old (Nat.ne_of_lt lb) (by rw [size_push']; exact Nat.lt_succ_of_lt lb)]
  exact Heap.get?_push_of_some _ hb1
end
theorem Inv.drew {X : Cx} {pins : List (Addr × Obj)} {σ : St} {H : Hp} {s : Shared} (I : Inv X pins σ H s) (d : Drawn) : Inv X pins σ H { s with drawn := d } := ⟨I.ok,I.os,I.bare,I.base,I.loc,I.cell,I.free,I.freeC,I.pin,I.hok,I.len⟩
def LS (P : Program) (w : World) (a : Addr) (L : List Int) : HO := .ext fun h => SetL P w h a L
def rSetW (P : Program) (w : World) (K : PySem.W.Frag) : List V → Hp → VK → Prop := fun xs H Q => ∃ (a : Addr) (ns : List Int),xs = [.ref a] ∧ SqL K H a (ns.map V.int) ∧ ns.length ≤ 1000 ∧ ∀ (l : Addr) (L : List Int),H l = none → L.Nodup → (∀ x,x ∈ L ↔ x ∈ ns) → Q (.ref l) (upd H l (LS P w l L))
theorem call_setW {X : Cx} (hc : X.calm = true) : CallR X (.type "set") (rSetW X.prog X.w X.K) := by
  intro pins s σ H xs us Q I r h
  obtain ⟨a,ns,rfl,hq,hl,q⟩ := h
  obtain ⟨u,rfl,rx⟩ := vals1 r
  cases rx
  obtain ⟨its,r',pl,hz⟩ := I.list hq
  have hlen := r'.length
  rw [List.length_map] at hlen
  refine set_list_l (ns := ns) (I.ok.hd hc) pl.isList (by simpa using ints_of_vals r') (by rw [List.size_toArray,← hlen]; exact Nat.lt_of_le_of_lt (Nat.succ_le_succ hl) (by decide)) fun h' tk L hS nd mem kp => ?_
  refine ⟨.ref s.heap.objs.size,_,I.laid (t' := tk) (o := LS X.prog X.w s.heap.objs.size L) (fun b o e => kp b o e) (Nat.le_refl _) ⟨hS,?_,fun _ _ p k => p.stay k⟩,rfl,q _ L (I.hok.fresh (Nat.le_refl _)) nd mem⟩
  obtain ⟨es,⟨o,_,_,ho,_⟩,_⟩ := hS
  exact ⟨o,ho⟩
def rSortS (P : Program) (w : World) : List V → Hp → VK → Prop := fun xs H Q => ∃ (a : Addr) (L : List Int),xs = [.ref a] ∧ H a = some (LS P w a L) ∧ L.length < 64 ∧ ∀ (l : Addr) (ns : List Int),H l = none → ns.Perm L → ns.Pairwise (· ≤ ·) → Q (.ref l) (upd H l (.lst (ns.map V.int)))
theorem call_sortS {X : Cx} (hc : X.calm = true) : CallR X (.builtin "sorted") (rSortS X.prog X.w) := by
  intro pins s σ H xs us Q I r h
  obtain ⟨a,L,rfl,ha,h64,q⟩ := h
  obtain ⟨u,rfl,rx⟩ := vals1 r
  cases rx
  have hS : SetL X.prog X.w s.heap a L := (I.hok a _ ha).1
  refine sorted_l (I.ok.hd hc) hS h64 fun h' d tk r out ns e a1 a2 a3 hr hle kp => ?_
  have hl2 := a2.length_eq
  refine ⟨.ref r,_,(I.drew d).laid (t' := tk) (o := .lst (ns.map V.int)) (fun b o e => kp b o e) hle ?_,rfl,q r ns (I.hok.fresh hle) a2 a3⟩
  refine ⟨by rw [List.length_map,hl2]; exact Nat.le_trans (Nat.le_of_lt h64) (by decide),out.toList,e,vals_of_ints a1,?_⟩
  rw [Array.toArray_toList]
  exact hr
end L2
namespace E1
open PySem L2
abbrev pw : Program := PySem.Challenge.pw_evenmeet_k89_whole_arcs_of_planes
def top (i : Nat) : Stmt := pw.main.body.getD i (.Pass ⟨0,0,0,0⟩)
abbrev sMarksOf : Stmt := top 2
abbrev sArcTold : Stmt := top 10
abbrev sGrownArc : Stmt := top 11
abbrev sTwoBeside : Stmt := top 12
abbrev sMeetingTold : Stmt := top 13
abbrev sThinnedSet : Stmt := top 14
abbrev sBlockAlone : Stmt := top 15
abbrev sMarkedOf : Stmt := top 16
abbrev sAllMarked : Stmt := top 17
abbrev sWhole : Stmt := top 19
abbrev sIsBelow : Stmt := top 20
abbrev sMust : Stmt := top 21
abbrev sFrom : Stmt := top 22
abbrev sPrimes : Stmt := top 23
abbrev sIsPrime : Stmt := top 24
abbrev sRowTimes : Stmt := top 26
abbrev sRowRest : Stmt := top 27
abbrev sRowFactor : Stmt := top 28
abbrev sTrimmed : Stmt := top 29
abbrev sDigitsOf : Stmt := top 30
abbrev sNumberOf : Stmt := top 31
abbrev sMustBeRow : Stmt := top 35
abbrev sSizeWithin : Stmt := top 36
abbrev sMustBePrime : Stmt := top 37
abbrev sMustBeNoProduct : Stmt := top 38
abbrev sJoined : Stmt := top 39
abbrev sPlaneOf : Stmt := top 41
abbrev sTriplesOf : Stmt := top 42
abbrev sPointsAcross : Stmt := top 43
abbrev sAddedProducts : Stmt := top 44
abbrev sFlatOf : Stmt := top 45
abbrev sCell : Stmt := top 47
abbrev sLNumbers : Stmt := top 48
abbrev sLAsked : Stmt := top 49
abbrev sLShown : Stmt := top 50
abbrev sLaw : Stmt := top 51
abbrev sMInit : Stmt := inClass (top 34) 0
abbrev sMSize : Stmt := inClass (top 34) 1
abbrev sMPlus : Stmt := inClass (top 34) 2
abbrev sMTimes : Stmt := inClass (top 34) 4
abbrev sMMustHave : Stmt := inClass (top 34) 8
abbrev sXInit : Stmt := inClass (top 7) 0
section
variable {P : Program} {w : World} {K : PySem.W.Frag} {mg : Str → Option Value} {base : Heap} {M C : Addr}
structure RefsX (K : PySem.W.Frag) (M C fI : Addr) (fd : FuncData) : Prop where
  nM : PySem.W.nsIn K mainGlobals "MeetError" = some (some (.ref M))
  nC : PySem.W.nsIn K mainGlobals "NoArc" = some (some (.ref C))
  nV : PySem.W.nsIn K mainGlobals "ValueError" = some none
  O : OwnX K C fI "block"
  B : BaseX K M
  F : FunD K "__init__" "NoArc.__init__" sXInit fI fd
  eM : PySem.W.ExcK K M
  eC : PySem.W.ExcD K C
  cl : PySem.W.ClsK K
  sub : PySem.W.mroIn K C (.ref M) = some true
  kC : PySem.W.kitOne K (.ref C) (.ref C) = some true
  kV : PySem.W.kitOne K (.ref C) (.type "ValueError") = some true
theorem refsX_mk {K : PySem.W.Frag} {M C fI N : Addr} {nm q : Str} {bs : List Value} {bm : List Value} {cd : ClassData} {oc tc kw doc pm cdv ct : Value} {dT : Addr} {tn : Nat} {tsl : Array (Option Value)} {td od an : Option Addr} {osl : Array (Option Value)} {hdct sn sub' ab col dd k0 k1 k2 k3 k5}
    (nM : PySem.W.nsIn K mainGlobals "MeetError" = some (some (.ref M)))
    (nC : PySem.W.nsIn K mainGlobals "NoArc" = some (some (.ref C)))
    (nV : PySem.W.nsIn K mainGlobals "ValueError" = some none)
    (lk : K.lookup C = some (excClassObj nm q C N bs bm hdct sn sub' ab col dd k0 k1 k2 k3 k5 newVE))
    (tl : PySem.W.tailIn K bmVE bm = true)
    (nk : PySem.W.nsOkIn K N = true)
    (ik : PySem.W.nsIn K N "__init__" = some (some (.ref fI)))
    (fn : PySem.W.isFn K (.ref fI) = true)
    (cls : PySem.W.clsIn K C = some cd)
    (ok : cd.mro.all okEntry = true)
    (obj : cd.mro.contains (.type "object") = true)
    (bex : cd.mro.contains (.type "BaseException") = true)
    (dct : cd.hasDict = true)
    (sa : PySem.W.findIn K (.ref C) (Str.ofString "__setattr__") = some (some (.builtin "object.__setattr__")))
    (fdl : PySem.W.findIn K (.ref C) "block" = some none)
    (kp : PySem.W.keepIn K (.ref C) = true)
    (sp : PySem.W.specialIn K (.ref M) (Str.ofString "__getattribute__") = some (some (.builtin "type.__getattribute__")))
    (rdM : PySem.W.readsIn K M (.type "type") = true)
    (fcM : PySem.W.findCls K (.ref M) (.type "type") (Str.ofString "__init__") = some (.val (.builtin "ValueError.__init__")))
    (lf : K.lookup fI = some ⟨oc,od,.func (PySem.W.fnOf "__init__" "NoArc.__init__" (defArgs sXInit) (defBody sXInit) (defScope sXInit) (.ref dT) kw doc pm an cdv ct),osl⟩)
    (lT : K.lookup dT = some ⟨tc,td,.seq #[.none] tn,tsl⟩)
    (cf : PySem.W.codeIn K cdv "NoArc.__init__" = true)
    (exM : PySem.W.excIn K M [.type "ValueError",.type "Exception",.type "BaseException",.type "object"] "ValueError.__new__" = true)
    (gaM : PySem.W.findIn K (.ref M) "__getattribute__" = some (some (.builtin "BaseException.__getattribute__")))
    (noM : PySem.W.findIn K (.ref M) "__getattr__" = some none)
    (clM : PySem.W.findIn K (.ref M) "__class__" = some (some (.builtin "object.__class__")))
    (obM : PySem.W.mroIn K M (.type "object") = some true)
    (beM : PySem.W.mroIn K M (.type "BaseException") = some true)
    (gaC : PySem.W.findIn K (.ref C) "__getattribute__" = some (some (.builtin "BaseException.__getattribute__")))
    (noC : PySem.W.findIn K (.ref C) "__getattr__" = some none)
    (clC : PySem.W.findIn K (.ref C) "__class__" = some (some (.builtin "object.__class__")))
    (obC : PySem.W.mroIn K C (.type "object") = some true)
    (beC : PySem.W.mroIn K C (.type "BaseException") = some true)
    (gt : PySem.W.specialIn K (.builtin "object.__class__") "__get__" = some (some (.builtin "getset_descriptor.__get__")))
    (tk : PySem.W.takesIn K (.builtin "object.__class__") = some true)
    (sub : PySem.W.mroIn K C (.ref M) = some true)
    (kC : PySem.W.kitOne K (.ref C) (.ref C) = some true)
    (kV : PySem.W.kitOne K (.ref C) (.type "ValueError") = some true)
    : ∃ (M C fI : Addr) (fd : FuncData),RefsX K M C fI fd :=
  ⟨M,C,fI,_,nM,nC,nV,⟨⟨nm,q,N,bs,bm,hdct,sn,sub',ab,col,dd,k0,k1,k2,k3,k5,lk,tl,nk,ik⟩,fn,⟨cd,cls,ok,obj,bex,dct,gaC,noC,sa⟩,fdl,kp⟩,⟨sp,rdM,fcM⟩,⟨⟨oc,od,dT,_,tn,kw,doc,pm,an,cdv,ct,osl,lT,rfl,rfl,lf,cf⟩⟩,⟨exM,gaM,noM,clM,obM,beM⟩,⟨⟨nm,q,N,bs,bm,hdct,sn,sub',ab,col,dd,k0,k1,k2,k3,k5,_,lk⟩,gaC,noC,clC,obC,beC⟩,⟨gt,tk⟩,sub,kC,kV⟩
structure MarksX (K : PySem.W.Frag) (mg : Str → Option Value) (M C fI : Addr) (fd : FuncData) : Prop where
  R : RefsX K M C fI fd
  mM : mg "MeetError" = some (.ref M)
  mC : mg "NoArc" = some (.ref C)
  mV : mg "ValueError" = none
theorem marksX_of {K : PySem.W.Frag} {h : Heap} {mg : Str → Option Value} {M C fI : Addr} {fd : FuncData} (X : K.In h) (G : h.Ns mainGlobals mg) (R : RefsX K M C fI fd) : MarksX K mg M C fI fd :=
  ⟨R,PySem.W.mg_of X G R.nM,PySem.W.mg_of X G R.nC,PySem.W.mg_none_of X G R.nV⟩
structure Bls (p : Nat) (b : List Nat) : Prop where
  so : b.Pairwise (· < ·)
  lt : ∀ x ∈ b,x < p
theorem Bls.nd {p : Nat} {b : List Nat} (h : Bls p b) : b.Nodup := by
  rw [List.nodup_iff_pairwise_ne]
  exact h.so.imp fun z => Nat.ne_of_lt z
theorem Bls.blk {p : Nat} {b : List Nat} (h : Bls p b) : Blk p b := ⟨h.nd,h.lt⟩
theorem blk_sorted {m : Nat} {b : List Nat} (h : Blk m b) (hs : b.Pairwise (· ≤ ·)) : Bls m b := by
  refine ⟨?_,h.lt⟩
  have hn := List.nodup_iff_pairwise_ne.mp h.nd
  exact (hs.and hn).imp fun ⟨z1,z2⟩ => Nat.lt_of_le_of_ne z1 z2
theorem scWhole : FnScope ["thing"] ["thing"] (defScope sWhole) := ⟨rfl,rfl,rfl,by decide +kernel,rfl,by decide +kernel,by decide +kernel⟩
theorem ok_whole {f : Addr} {fd : FuncData} (F : Fun K "is_whole" "is_whole" sWhole f fd) (T : TxtB mg) : FnOk P w K mg base CX0 1 f fd ["thing"] (spWhole K) := by
  refine F.okQ scWhole (fun vs H Q E h => ?_) (fun cdv A outer s H vs Q E hr h => ?_)
  · obtain ⟨v,b,rfl,_⟩ := h
    rfl
  · obtain ⟨v,b,rfl,hw,k⟩ := h
    refine ⟨_,qss_one (qs_ret (qe_and (qe_callB call_isinst (by rfl) T.isi PyProof.Rows.boot_isinstance (qac (qv 0) (qac (qe_bltn (v := .ty "int") rfl T.int PyProof.Rows.boot_int rfl) qa_nil)))
      (qe_one (qe_not (qe_callB call_isinst (by rfl) T.isi PyProof.Rows.boot_isinstance (qac (qv 0) (qac (qe_bltn (v := .ty "bool") rfl T.bool PyProof.Rows.boot_bool rfl) qa_nil))))))),?_⟩
    cases hw with
    | int i =>
      refine ⟨_,rfl,_,_,_,_,rfl,.int i,rel_ty (kit_int_int K),true,rfl,iteT ?_⟩
      exact ⟨_,rfl,_,_,_,_,rfl,.int i,rel_ty (kit_int_bool K),false,rfl,k⟩
    | bl x =>
      refine ⟨_,rfl,_,_,_,_,rfl,.bl x,rel_ty (kit_bool_int K),true,rfl,iteT ?_⟩
      exact ⟨_,rfl,_,_,_,_,rfl,.bl x,rel_ty (kit_bool_bool K),true,rfl,k⟩
    | odd ty kk =>
      exact ⟨_,rfl,_,_,_,_,rfl,ty,rel_ty kk,false,rfl,iteF k⟩
def spBelow : Sp := fun vs H Q _ => ∃ x m : Int,vs = [.int x,.int m] ∧ 0 ≤ x ∧ x < m ∧ Q (.bl true) H
theorem scIsBelow : FnScope ["thing", "many"] ["thing", "many"] (defScope sIsBelow) := ⟨rfl,rfl,rfl,by decide +kernel,rfl,by decide +kernel,by decide +kernel⟩
theorem ok_below {f : Addr} {fd : FuncData} (F : Fun K "is_below" "is_below" sIsBelow f fd) (pWhole : Pm P w K mg base CX0 1 "is_whole" ["thing"] (spWhole K)) : FnOk P w K mg base CX0 2 f fd ["thing", "many"] spBelow := by
  refine F.okQ scIsBelow (fun vs H Q E h => ?_) (fun cdv A outer s H vs Q E hr1 h => ?_)
  · obtain ⟨x,m,rfl,_⟩ := h
    rfl
  · obtain ⟨x,m,rfl,h0,h1,q⟩ := h
    refine ⟨_,(qss_one (qs_ret (qe_and (qe_callP pWhole hr1 rfl pass0 (qac (qv 0) qa_nil)) (qe_one (qe_chain op_le op_lt qe_int (qv 0) (qv 1)))))),?_⟩
    refine ⟨_,rfl,.int x,true,rfl,.int x,true,rfl,iteT ?_⟩
    refine ⟨_,rfl,_,_,rfl,rfl,_,rfl,ifT h0 ?_⟩
    exact ⟨_,rfl,_,_,rfl,rfl,blT h1 q⟩
def spCell2 (K : PySem.W.Frag) : Sp := fun vs H Q _ => ∃ (a : Addr) (ns : List Int) (k : Nat),vs = [.ref a,.int (k : Int)] ∧ SqL K H a (ns.map V.int) ∧ k ≤ 1000 ∧ ∀ (z : Int) (H' : Hp),Same H H' → Q (.int z) H'
theorem scCell : FnScope ["_law_script", "_law_k", "_law_state", "_law_cell_here"] ["_law_script", "_law_k"] (defScope sCell) := ⟨rfl,rfl,rfl,by decide +kernel,rfl,by decide +kernel,by decide +kernel⟩
theorem ok_cell2 {f : Addr} {fd : FuncData} (F : Fun K "_law_cell" "_law_cell" sCell f fd) (T : TxtB mg) : FnOk P w K mg base CX0 1 f fd ["_law_script", "_law_k"] (spCell2 K) := by
  refine F.okQ scCell (fun vs H Q E h => ?_) (fun cdv A outer s H vs Q E hr h => ?_)
  · obtain ⟨a,ns,k,rfl,_⟩ := h
    rfl
  · obtain ⟨a,ns,k,rfl,hS,hk,q⟩ := h
    refine ⟨_,(qss_cons (qs_if (qt_cmpR op_lt (qv 1) (qe_callB call_len_seq (by rfl) T.len PySem.boot_len (qac (qv 0) qa_nil)) (nomark _)) (qss_one (qs_ret (qe_ix ix_list (qv 0) (qv 1) (fun _ _ => rfl)))) qss_nil)
      (qss_cons (qs_set (i := 2) scCell.nd rfl (Or.inl rfl) (qe_op op_mod (qe_op op_mul qe_int (qe_op op_add (qe_op op_add (qe_op op_mul (qv 1) (qv 1)) (qe_op op_mul qe_int (qv 1))) qe_int)) qe_int))
      (qss_cons (qs_for PassesOwn.never rfl (qi_list (qe_slice sl_list (qv 0) qo_none (qo_some qe_int))) (qg_name (i := 3) scCell.nd rfl (Or.inl rfl))
        (qss_one (qs_set (i := 2) scCell.nd rfl (Or.inl rfl) (qe_op op_mod (qe_op op_add (qe_op op_mul (qv 2) qe_int) (qv 3)) qe_int))))
      (qss_one (qs_ret (qv 2)))))),?_⟩
    refine ⟨_,rfl,_,rfl,a,_,rfl,.inl hS,_,_,rfl,rfl,_,rfl,?_⟩
    refine ite2 (fun hc => ?_) (fun hc => ?_)
    · have hlt : k < ns.length := by
        have := of_decide_eq_true hc
        rw [List.length_map] at this
        omega
      refine ⟨_,rfl,_,rfl,a,_,_,V.int ns[k],rfl,rfl,hS,atI_nat (by rw [List.getElem?_map,List.getElem?_eq_getElem hlt]; rfl),q _ _ (Same.refl _)⟩
    · refine ⟨_,rfl,_,rfl,_,_,rfl,rfl,.inr ⟨by omega,by omega⟩,_,rfl,_,_,rfl,rfl,.inl ⟨by decide,by decide⟩,_,_,rfl,rfl,_,_,rfl,rfl,_,_,rfl,rfl,.inl ⟨by decide,by decide⟩,_,_,rfl,rfl,by show (0 : Int) < 2147483647; decide,?_⟩
      refine ⟨_,rfl,_,rfl,a,_,rfl,hS,fun l hl => ?_⟩
      refine ⟨l,rfl,⟨_,SqL.of upd_same⟩,for_list (K := K) (a := l) (xs := cutV (ns.map V.int) none (some 3)) (fun i σ H2 => H2 = upd H l (.lst (cutV (ns.map V.int) none (some 3))) ∧ ∃ (z : Int) (x3 : Option V),σ = [some (.ref a),some (.int k),some (.int z),x3]) ⟨rfl,_,_,rfl⟩ (fun i σ H2 _ ⟨e,_⟩ => SqL.of (e ▸ upd_same)) ?_ ?_⟩
      · rintro i v σ H2 hi ⟨rfl,z,x3,rfl⟩
        obtain ⟨c,rfl⟩ := cut_ints v (List.mem_of_getElem? hi)
        exact ⟨_,rfl,_,_,rfl,rfl,.inr ⟨by decide,by decide⟩,_,rfl,_,_,rfl,rfl,_,_,rfl,rfl,by show (0 : Int) < 2147483647; decide,rfl,_,_,rfl⟩
      · rintro σ H2 ⟨rfl,z,x3,rfl⟩
        exact ⟨_,rfl,q _ _ (same_new hl)⟩
theorem pickB {x y : Int} (b : Bool) : atI [V.int x,V.int y] (if b then 1 else 0) = some (V.int (if b then y else x)) := by cases b <;> rfl
def spNums : Sp := fun vs H Q _ => ∃ (c : Int) (m : Nat),vs = [.int c,.int (m : Nat)] ∧ m ≤ 1000 ∧ ∀ (l : Addr) (ns : List Int) (H' : Hp),H l = none → Same H H' → H' l = some (.lst (ns.map V.int)) → ns.length = m → (∀ x ∈ ns,0 ≤ x ∧ x < 2000000000) → Q (.ref l) H'
theorem scLNumbers : FnScope ["_law_cell_here", "_law_many", "_law_found", "_law_state", "_law_digits", "_law_k"] ["_law_cell_here", "_law_many"] (defScope sLNumbers) := ⟨rfl,rfl,rfl,by decide +kernel,rfl,by decide +kernel,by decide +kernel⟩
theorem ok_numbers {f : Addr} {fd : FuncData} (F : Fun K "_law_numbers" "_law_numbers" sLNumbers f fd) (T : TxtB mg) : FnOk P w K mg base CX0 1 f fd ["_law_cell_here", "_law_many"] spNums := by
  refine F.okQ scLNumbers (fun vs H Q E h => ?_) (fun cdv A outer s H vs Q E hr h => ?_)
  · obtain ⟨c,m,rfl,_⟩ := h
    rfl
  · obtain ⟨c,m,rfl,hm,q⟩ := h
    refine ⟨_,(qss_cons (qs_set (i := 2) scLNumbers.nd rfl (Or.inl rfl) (qe_lst qa_nil))
      (qss_cons (qs_set (i := 3) scLNumbers.nd rfl (Or.inl rfl) (qe_op op_mod (qe_op op_mul (qe_op op_add (qe_op op_mod (qv 0) qe_int) qe_int) qe_int) qe_int))
      (qss_cons (qs_set (i := 4) scLNumbers.nd rfl (Or.inl rfl) qe_int)
      (qss_cons (qs_if (QW.pt (qw_or (qt_cmpR op_lt (qv 0) qe_int (nomark _)) (qw_or1 (qt_cmpR op_ge (qv 0) (qe_op op_pow qe_int qe_int) (nomark _))))) (qss_one (qs_set (i := 4) scLNumbers.nd rfl (Or.inl rfl) (qe_callB call_abs (by rfl) T.abs PyProof.Rows.boot_abs (qac (qv 0) qa_nil)))) qss_nil)
      (qss_cons (qs_for PassesOwn.never rfl (qi_range1 rfl T.range (qac (qv 1) qa_nil)) (qg_name (i := 5) scLNumbers.nd rfl (Or.inl rfl))
        (qss_cons (qs_set (i := 3) scLNumbers.nd rfl (Or.inl rfl) (qe_op op_mod (qe_op op_add (qe_op op_add (qe_op op_mul (qv 3) (qe_op op_add (qe_op op_mod (qv 3) qe_int) qe_int)) (qe_op op_mul qe_int (qv 5))) qe_int) qe_int))
        (qss_cons (qs_expr (qe_bm PySem.F.plainAttrs_list PySem.F.slot_list_append PySem.F.type_list_append mt_append (qv 2) (qac (qe_ix ix_list (qe_lst (qac (qv 3) (qac (qe_op op_mod (qv 4) qe_int) qa_nil))) (qe_callTy call_int1 (by rfl) T.int PyProof.Rows.boot_int (qac (qe_cmpR op_gt (qv 4) qe_int (nomark _)) qa_nil)) (fun _ _ => rfl)) qa_nil)))
        (qss_one (qs_set (i := 4) scLNumbers.nd rfl (Or.inl rfl) (qe_op op_fdiv (qv 4) qe_int))))))
      (qss_one (qs_ret (qv 2)))))))),?_⟩
    refine ⟨by show 0 ≤ sizeLine; decide,fun l hl => ?_⟩
    have big : (0 : Int) < 1999999973 := by decide
    have c1 := Int.emod_nonneg c (show (1999999973 : Int) ≠ 0 by decide)
    have c2 := Int.emod_lt_of_pos c big
    refine ⟨_,rfl,_,_,rfl,rfl,(by show (0 : Int) < 1999999973; decide),_,_,rfl,rfl,_,_,rfl,rfl,.inr ⟨by decide,by decide⟩,_,_,rfl,rfl,(by show (0 : Int) < 1999999973; decide),?_⟩
    generalize hst : (c % 1999999973 + 31) * 765432101 % 1999999973 = st0
    have st1 : 0 ≤ st0 ∧ st0 < 1999999973 := by
      rw [← hst]
      exact ⟨Int.emod_nonneg _ (by decide),Int.emod_lt_of_pos _ (by decide)⟩
    refine ⟨_,rfl,_,_,rfl,rfl,_,rfl,?_⟩
    obtain ⟨dg,hdg,hw⟩ : ∃ dg : Int,0 ≤ dg ∧ ((c < 0 ∧ dg = (if c < 0 then -c else c)) ∨ (¬ c < 0 ∧ c ≥ 10 ^ (18 : Int).toNat ∧ dg = (if c < 0 then -c else c)) ∨ (¬ c < 0 ∧ ¬ c ≥ 10 ^ (18 : Int).toNat ∧ dg = 0)) := by
      by_cases h1 : c < 0
      · exact ⟨_,abs_nn c,.inl ⟨h1,rfl⟩⟩
      · by_cases h2 : c ≥ 10 ^ (18 : Int).toNat
        · exact ⟨_,abs_nn c,.inr (.inl ⟨h1,h2,rfl⟩)⟩
        · exact ⟨0,Int.le_refl 0,.inr (.inr ⟨h1,h2,rfl⟩)⟩
    rcases hw with ⟨h1,e⟩ | ⟨h1,h2,e⟩ | ⟨h1,h2,e⟩
    all_goals first | refine ifF h1 ⟨_,rfl,_,_,rfl,rfl,⟨by decide,by decide,by decide⟩,_,_,rfl,rfl,_,rfl,ifT h2 ⟨_,rfl,c,rfl,?_⟩⟩ | refine ifF h1 ⟨_,rfl,_,_,rfl,rfl,⟨by decide,by decide,by decide⟩,_,_,rfl,rfl,_,rfl,ifF h2 ?_⟩ | refine ifT h1 ⟨_,rfl,c,rfl,?_⟩
    all_goals
      refine ⟨_,rfl,((m : Nat) : Int),rfl,by omega,by omega,for_range (n := m) (fun i σ H2 => Same H H2 ∧ ∃ (ns : List Int) (sd dg : Int) (x : Option V),σ = [some (.int c),some (.int (m : Nat)),some (.ref l),some (.int sd),some (.int dg),x] ∧ H2 l = some (.lst (ns.map V.int)) ∧ ns.length = i ∧ (∀ x ∈ ns,0 ≤ x ∧ x < 2000000000) ∧ 0 ≤ sd ∧ sd < 1999999973 ∧ 0 ≤ dg)
        ⟨same_new hl,[],st0,dg,none,by rw [e,← hst]; rfl,upd_same,rfl,by simp,st1.1,st1.2,hdg⟩ ?_ ?_⟩
      · rintro i σ H2 hi ⟨s2,ns,sd,dg,x,rfl,hl2,hlen,hns,h1,h2,h3⟩
        have a1 := Int.emod_nonneg sd (show (65521 : Int) ≠ 0 by decide)
        have a2 := Int.emod_lt_of_pos sd (show (0 : Int) < 65521 by decide)
        refine ⟨_,rfl,_,rfl,_,_,rfl,rfl,(by show (0 : Int) < 65521; decide),_,_,rfl,rfl,_,_,rfl,rfl,.inl ⟨by omega,by omega⟩,_,rfl,_,_,rfl,rfl,.inl ⟨by decide,by decide⟩,_,_,rfl,rfl,_,_,rfl,rfl,_,_,rfl,rfl,(by show (0 : Int) < 1999999973; decide),?_⟩
        refine ⟨_,rfl,.inl ⟨rfl,_,SqL.of hl2⟩,_,rfl,_,rfl,_,_,rfl,rfl,(by show (0 : Int) < 1000000; decide),by show 2 ≤ sizeLine; decide,fun t ht => ?_⟩
        refine ⟨_,rfl,_,_,rfl,rfl,.inr ⟨_,rfl,t,_,_,_,rfl,rfl,SqL.of upd_same,pickB _,l,_,_,rfl,rfl,(same_new ht) _ _ hl2,?_,?_⟩⟩
        · rw [List.length_map,hlen]
          exact Nat.lt_of_lt_of_le hi (Nat.le_trans hm (by decide))
        refine ⟨_,rfl,_,_,rfl,rfl,⟨by decide,by decide⟩,same_upd (s2.trans (same_new ht)) hl,ns ++ [if decide (0 < dg) = true then dg % 1000000 else (sd * (sd % 65521 + 40487) + 7 * (0 + (i : Int)) + 5) % 1999999973],_,_,_,rfl,?_,?_,?_,?_,?_,?_⟩
        · rw [List.map_append]
          exact upd_same
        · rw [List.length_append,hlen]
          rfl
        · intro y hy
          rcases List.mem_append.mp hy with z | z
          · exact hns y z
          · rw [List.mem_singleton.mp z]
            split
            · exact ⟨Int.emod_nonneg _ (by decide),Int.lt_trans (Int.emod_lt_of_pos _ (by decide)) (by decide)⟩
            · exact ⟨Int.emod_nonneg _ (by decide),Int.lt_trans (Int.emod_lt_of_pos _ (by decide)) (by decide)⟩
        · exact Int.emod_nonneg _ (by decide)
        · exact Int.emod_lt_of_pos _ (by decide)
        · exact Int.ediv_nonneg h3 (by decide)
      · rintro σ H2 ⟨s2,ns,sd,dg,x,rfl,hl2,hlen,hns,_⟩
        exact ⟨_,rfl,q l ns H2 hl s2 hl2 hlen hns⟩
theorem comp_list {K : PySem.W.Frag} {a : Addr} {xs : List V} {g : TG} {tc : TT} {te : TE} {σ' : St} {H : Hp} {G : Addr → Hp → List V → Prop} (Pv : Nat → List V → Hp → Prop) (h0 : Pv 0 [] H) (hl : ∀ i ys H,i ≤ xs.length → Pv i ys H → SqL K H a xs)
    (hs : ∀ i x ys H (N : List V → Hp → Prop),xs[i]? = some x → Pv i ys H → (∀ ys' H',Pv (i + 1) ys' H' → N ys' H') → g x σ' H fun σ2 H4 => Weak σ' σ2 ∧ tc σ2 H4 fun b H5 => if b = true then te σ2 H5 fun y H6 => ys.length < sizeLine ∧ N (ys ++ [y]) H6 else N ys H5)
    (hd : ∀ ys H,Pv xs.length ys H → ys.length ≤ sizeLine ∧ ∀ p,H p = none → G p H ys) :
    ∃ W : Nat → Nat → List V → Hp → Prop,(∃ m,W 0 m [] H) ∧ ∀ i m ys H2,W i m ys H2 →
      ((Itl K a).stop i H2 ∧ ys.length ≤ sizeLine ∧ ∀ p,H2 p = none → G p H2 ys) ∨
      ((Itl K a).go i H2 ∧ ∀ x H3,(Itl K a).yld i H2 x H3 → g x σ' H3 fun σ2 H4 => Weak σ' σ2 ∧ tc σ2 H4 fun b H5 =>
        if b = true then te σ2 H5 fun y H6 => ys.length < sizeLine ∧ ∃ m',m' < m ∧ W (i + 1) m' (ys ++ [y]) H6 else ∃ m',m' < m ∧ W (i + 1) m' ys H5) := by
  refine ⟨fun i m ys H => m = xs.length - i ∧ i ≤ xs.length ∧ Pv i ys H,⟨xs.length,rfl,Nat.zero_le _,h0⟩,?_⟩
  rintro i m ys H2 ⟨rfl,hi,p⟩
  have q := hl i ys H2 hi p
  by_cases hlt : i < xs.length
  · refine .inr ⟨⟨xs,xs[i],q,by simp [hlt]⟩,fun x H' y => ?_⟩
    obtain ⟨e,y⟩ := y
    subst e
    exact hs i x ys _ (fun ys' H'' => ∃ m',m' < xs.length - i ∧ m' = xs.length - (i + 1) ∧ i + 1 ≤ xs.length ∧ Pv (i + 1) ys' H'') (y xs q) p (fun ys' H'' p' => ⟨_,by omega,rfl,hlt,p'⟩)
  · have e : i = xs.length := by omega
    subst e
    exact .inl ⟨⟨xs,q,Nat.le_refl _⟩,hd ys H2 p⟩
theorem comp_tup {K : PySem.W.Frag} {a : Addr} {xs : List V} {g : TG} {tc : TT} {te : TE} {σ' : St} {H : Hp} {G : Addr → Hp → List V → Prop} (Pv : Nat → List V → Hp → Prop) (h0 : Pv 0 [] H) (hl : ∀ i ys H,i ≤ xs.length → Pv i ys H → SqT K H a xs)
    (hs : ∀ i x ys H (N : List V → Hp → Prop),xs[i]? = some x → Pv i ys H → (∀ ys' H',Pv (i + 1) ys' H' → N ys' H') → g x σ' H fun σ2 H4 => Weak σ' σ2 ∧ tc σ2 H4 fun b H5 => if b = true then te σ2 H5 fun y H6 => ys.length < sizeLine ∧ N (ys ++ [y]) H6 else N ys H5)
    (hd : ∀ ys H,Pv xs.length ys H → ys.length ≤ sizeLine ∧ ∀ p,H p = none → G p H ys) :
    ∃ W : Nat → Nat → List V → Hp → Prop,(∃ m,W 0 m [] H) ∧ ∀ i m ys H2,W i m ys H2 →
      ((Itt K a).stop i H2 ∧ ys.length ≤ sizeLine ∧ ∀ p,H2 p = none → G p H2 ys) ∨
      ((Itt K a).go i H2 ∧ ∀ x H3,(Itt K a).yld i H2 x H3 → g x σ' H3 fun σ2 H4 => Weak σ' σ2 ∧ tc σ2 H4 fun b H5 =>
        if b = true then te σ2 H5 fun y H6 => ys.length < sizeLine ∧ ∃ m',m' < m ∧ W (i + 1) m' (ys ++ [y]) H6 else ∃ m',m' < m ∧ W (i + 1) m' ys H5) := by
  refine ⟨fun i m ys H => m = xs.length - i ∧ i ≤ xs.length ∧ Pv i ys H,⟨xs.length,rfl,Nat.zero_le _,h0⟩,?_⟩
  rintro i m ys H2 ⟨rfl,hi,p⟩
  have q := hl i ys H2 hi p
  by_cases hlt : i < xs.length
  · refine .inr ⟨⟨xs,xs[i],q,by simp [hlt]⟩,fun x H' y => ?_⟩
    obtain ⟨e,y⟩ := y
    subst e
    exact hs i x ys _ (fun ys' H'' => ∃ m',m' < xs.length - i ∧ m' = xs.length - (i + 1) ∧ i + 1 ≤ xs.length ∧ Pv (i + 1) ys' H'') (y xs q) p (fun ys' H'' p' => ⟨_,by omega,rfl,hlt,p'⟩)
  · have e : i = xs.length := by omega
    subst e
    exact .inl ⟨⟨xs,q,Nat.le_refl _⟩,hd ys H2 p⟩
theorem at_ok {ns : List Int} {i : Nat} (h : i < ns.length) : ∃ x : Int,atI (ns.map V.int) (i : Int) = some (.int x) ∧ x ∈ ns := ⟨ns[i],atI_nat (by rw [List.getElem?_map,List.getElem?_eq_getElem h]; rfl),List.getElem_mem h⟩
theorem inV_nats (p : Nat) : ∀ b : List Nat,inV (V.int ((p : Nat) : Int)) (nats b) = decide (p ∈ b)
  | [] => rfl
  | x :: b => by
    have ih := inV_nats p b
    unfold inV at ih ⊢
    unfold nats at ih ⊢
    rw [List.map_cons,List.any_cons,ih]
    by_cases h : x = p
    · subst h
      simp [eqV]
    · have : (eqV (V.int ((x : Nat) : Int)) (V.int ((p : Nat) : Int))) = false := by simp [eqV]; omega
      rw [this,Bool.false_or]
      simp [List.mem_cons,Ne.symm h]
theorem flat_nats (b : List Nat) : (nats b).all flatV = true := by simp [nats,flatV]
def LayA (H : Hp) (t : Addr) (m : Nat) (bs : List (List Nat)) : Prop := ∃ (l : Addr) (ws : List V),H t = some (.tup [.int (m : Nat),.ref l]) ∧ H l = some (.tup ws) ∧ TpAt H ws bs ∧ bs.length ≤ 200
theorem take_snoc {α : Type} {bs : List α} {i : Nat} {b : α} (h : bs[i]? = some b) : bs.take (i + 1) = bs.take i ++ [b] := by
  rw [List.take_add_one,h,Option.toList_some]
def trimL (l : List Nat) : List Nat := (l.reverse.dropWhile (fun x => decide (x = 0))).reverse
theorem trim_zero (l : List Nat) : trimL (l ++ [0]) = trimL l := by
  unfold trimL
  simp
theorem trim_keep (l : List Nat) {x : Nat} (h : x ≠ 0) : trimL (l ++ [x]) = l ++ [x] := by
  unfold trimL
  simp [h]
theorem trim_mem {l : List Nat} {x : Nat} (h : x ∈ trimL l) : x ∈ l := by
  unfold trimL at h
  rw [List.mem_reverse] at h
  exact List.mem_reverse.mp ((List.dropWhile_sublist _).subset h)
theorem trim_le (l : List Nat) : (trimL l).length ≤ l.length := by
  unfold trimL
  rw [List.length_reverse]
  exact Nat.le_trans (List.dropWhile_sublist _).length_le (by rw [List.length_reverse]; exact Nat.le_refl _)
theorem eqv_intsQ : ∀ L M : List Nat,PyData.eqvAll (L.map fun p => PyData.int ((p : Nat) : Int)) (M.map fun p => PyData.int ((p : Nat) : Int)) = decide (L = M)
  | [],[] => by simp [PyData.eqvAll]
  | [],_ :: _ => by simp [PyData.eqvAll]
  | _ :: _,[] => by simp [PyData.eqvAll]
  | x :: L,y :: M => by
    have ih := eqv_intsQ L M
    simp only [List.map_cons,PyData.eqvAll,PyData.eqv,ih]
    by_cases h : x = y
    · subst h
      simp
    · have : ¬ ((x : Int) = (y : Int)) := by omega
      simp [h,this]
theorem eqv_tupQ (L M : List Nat) : PyData.eqv (dTup L) (dTup M) = decide (L = M) := by
  simp only [dTup,PyData.eqv]
  exact eqv_intsQ L M
theorem shaped_tupQ (L : List Nat) : PySem.SeqAt.shaped (dTup L) = true := by
  unfold PySem.SeqAt.shaped dTup
  rw [Bool.and_eq_true]
  refine ⟨by simp only [PyData.canLay0]; exact lay_ints' L,decide_eq_true ?_⟩
  have := depth_ints' L
  simp only [PyData.depth]
  omega
theorem isD_tupQ {K : PySem.W.Frag} {H : Hp} {a : Addr} {L : List Nat} (h : H a = some (.tup (nats L))) : IsD K H (dTup L) (.ref a) := by
  simp only [dTup,IsD]
  exact ⟨a,_,rfl,SqT.of h,ints_isD' L⟩
theorem ejT {i j : Int} {A B : Prop} (h : i = j) (k : A) : if decide (V.int i = V.int j) = true then A else B := by
  rw [if_pos (by simp [h])]
  exact k
theorem ejF {i j : Int} {A B : Prop} (h : i ≠ j) (k : B) : if decide (V.int i = V.int j) = true then A else B := by
  rw [if_neg (by simp [h])]
  exact k
theorem nat_atQ {r : List Nat} {k : Nat} (hk : k < r.length) : atI (nats r) ((k : Nat) : Int) = some (.int ((r.getD k 0 : Nat) : Int)) := by
  refine atI_nat ?_
  unfold nats
  rw [List.getElem?_map,List.getElem?_eq_getElem hk]
  simp [hk]
theorem take_last {l : List Nat} {m : Nat} (h0 : 0 < m) (hm : m ≤ l.length) : l.take m = l.take (m - 1) ++ [l.getD (m - 1) 0] := by
  obtain ⟨j,rfl⟩ : ∃ j,m = j + 1 := ⟨m - 1,by omega⟩
  have hj : j < l.length := by omega
  rw [show j + 1 - 1 = j by omega,List.take_add_one,List.getElem?_eq_getElem hj]
  simp [hj]
def spTrim : Sp := fun vs H Q _ => ∃ (a : Addr) (l : List Nat),vs = [.ref a] ∧ H a = some (.lst (nats l)) ∧ l.length ≤ 100 ∧ ∀ (t : Addr) (H' : Hp),H t = none → Same H H' → H' t = some (.tup (nats (trimL l))) → Q (.ref t) H'
theorem scTrimmed : FnScope ["digits", "many"] ["digits"] (defScope sTrimmed) := ⟨rfl,rfl,rfl,by decide +kernel,rfl,by decide +kernel,by decide +kernel⟩
theorem ok_trimmed {f : Addr} {fd : FuncData} (F : Fun K "trimmed" "trimmed" sTrimmed f fd) (T : TxtB mg) : FnOk P w K mg base CX0 1 f fd ["digits"] spTrim := by
  refine F.okQ scTrimmed (fun vs H Q E h => ?_) (fun cdv A outer s H vs Q E hr h => ?_)
  · obtain ⟨a,l,rfl,_⟩ := h
    rfl
  · obtain ⟨a,l,rfl,ha,hl,q⟩ := h
    refine ⟨_,(qss_cons (qs_set (i := 1) scTrimmed.nd rfl (Or.inl rfl) (qe_callB call_len_seq (by rfl) T.len PySem.boot_len (qac (qv 0) qa_nil)))
      (qss_cons (qs_while PassesOwn.never (QW.pt (qw_and (qt_cmpR op_gt (qv 1) qe_int (nomark _)) (qw_and1 (qt_cmpR op_eq (qe_ix ix_list (qv 0) (qe_op op_sub (qv 1) qe_int) (fun _ _ => rfl)) qe_int (nomark _)))))
        (qss_one (qs_aug (i := 1) scTrimmed.nd rfl (Or.inl rfl) qe_int ip_sub)))
      (qss_one (qs_ret (qe_callTy call_tuple_of (by rfl) T.tup (by decide +kernel) (qac (qe_slice sl_list (qv 0) qo_none (qo_some (qv 1))) qa_nil)))))),?_⟩
    refine ⟨_,rfl,a,_,rfl,.inl (SqL.of ha),?_⟩
    rw [nats_len]
    refine while_w (fun σ H2 => H2 = H ∧ ∃ m : Nat,σ = [some (.ref a),some (.int ((m : Nat) : Int))] ∧ m ≤ l.length ∧ trimL (l.take m) = trimL l)
      (fun σ _ => match σ with | [_,some (.int m)] => m.toNat | _ => 0) ⟨rfl,l.length,rfl,Nat.le_refl _,by rw [List.take_length]⟩ ?_
    rintro mm σ H2 ⟨rfl,m,rfl,hm,htr⟩ hmm
    refine ⟨_,rfl,_,_,rfl,rfl,_,rfl,?_⟩
    have ecut : cutV (nats l) none (some ((m : Nat) : Int)) = nats (l.take m) := by
      rw [cut_le]
      unfold nats
      rw [List.map_take]
    refine ite2 (fun h1 => ?_) (fun h1 => ?_)
    · have h1' : 0 < m := by
        have : (0 : Int) < ((m : Nat) : Int) := of_decide_eq_true h1
        omega
      have e1 : atI (nats l) (((m : Nat) : Int) - 1) = some (.int ((l.getD (m - 1) 0 : Nat) : Int)) := by
        rw [show ((m : Nat) : Int) - 1 = ((m - 1 : Nat) : Int) by omega]
        exact nat_atQ (by omega)
      refine ⟨_,rfl,_,rfl,_,_,rfl,rfl,a,_,_,_,rfl,rfl,SqL.of ha,e1,rfl,_,rfl,?_⟩
      by_cases hz : l.getD (m - 1) 0 = 0
      · refine ejT (show ((l.getD (m - 1) 0 : Nat) : Int) = 0 by omega) (WTurn.of ?_)
        refine ⟨_,rfl,_,_,rfl,rfl,⟨rfl,m - 1,by rw [show ((m - 1 : Nat) : Int) = ((m : Nat) : Int) - 1 by omega]; rfl,by omega,?_⟩,?_⟩
        · rw [← htr,take_last h1' hm,hz,trim_zero]
        · rw [hmm]
          show (((m : Nat) : Int) - 1).toNat < (((m : Nat) : Int)).toNat
          omega
      · refine ejF (show ((l.getD (m - 1) 0 : Nat) : Int) ≠ 0 by omega) ?_
        refine ⟨_,rfl,_,rfl,_,rfl,a,_,rfl,SqL.of ha,fun b hb => ⟨b,_,rfl,.inl ⟨SqL.of upd_same,fun t ht => ?_⟩⟩⟩
        rw [ecut] at ht ⊢
        refine q t _ ((same_new hb).free ht) ((same_new hb).trans (same_new ht)) ?_
        rw [upd_same,← htr,take_last h1' hm,trim_keep _ hz]
    · have h1' : m = 0 := by
        have : ¬ (0 : Int) < ((m : Nat) : Int) := fun z => h1 (decide_eq_true z)
        omega
      subst h1'
      refine iteF ?_
      refine ⟨_,rfl,_,rfl,_,rfl,a,_,rfl,SqL.of ha,fun b hb => ⟨b,_,rfl,.inl ⟨SqL.of upd_same,fun t ht => ?_⟩⟩⟩
      rw [ecut] at ht ⊢
      refine q t _ ((same_new hb).free ht) ((same_new hb).trans (same_new ht)) ?_
      rw [upd_same,← htr]
      rfl
def red (p v t d : Nat) : Nat := (((v : Nat) : Int) - ((t : Nat) : Int) * ((d : Nat) : Int)) % ((p : Nat) : Int) |>.toNat
theorem red_int {p v t d : Nat} (hp : 0 < p) : (((v : Nat) : Int) - ((t : Nat) : Int) * ((d : Nat) : Int)) % ((p : Nat) : Int) = ((red p v t d : Nat) : Int) ∧ red p v t d < p := by
  have h1 := Int.emod_nonneg (((v : Nat) : Int) - ((t : Nat) : Int) * ((d : Nat) : Int)) (show ((p : Nat) : Int) ≠ 0 by omega)
  have h2 := Int.emod_lt_of_pos (((v : Nat) : Int) - ((t : Nat) : Int) * ((d : Nat) : Int)) (show (0 : Int) < ((p : Nat) : Int) by omega)
  unfold red
  exact ⟨by omega,by omega⟩
def stepJ (p : Nat) (b : List Nat) (s t : Nat) (l : List Nat) (j : Nat) : List Nat := l.mapIdx fun i v => if s ≤ i ∧ i < s + j then red p v t (b.getD (i - s) 0) else v
theorem stepJ_len (p : Nat) (b : List Nat) (s t : Nat) (l : List Nat) (j : Nat) : (stepJ p b s t l j).length = l.length := by
  unfold stepJ
  rw [List.length_mapIdx]
theorem stepJ_get {p : Nat} {b : List Nat} {s t : Nat} {l : List Nat} {j i : Nat} (h : i < (stepJ p b s t l j).length) (h' : i < l.length) : (stepJ p b s t l j)[i] = if s ≤ i ∧ i < s + j then red p l[i] t (b.getD (i - s) 0) else l[i] := List.getElem_mapIdx ..
theorem stepJ_zero (p : Nat) (b : List Nat) (s t : Nat) (l : List Nat) : stepJ p b s t l 0 = l := by
  apply List.ext_getElem
  · rw [stepJ_len]
  · intro i h1 h2
    rw [stepJ_get h1 h2,if_neg (by omega)]
theorem stepJ_at {p : Nat} {b : List Nat} {s t : Nat} {l : List Nat} {j : Nat} (h : s + j < l.length) : (stepJ p b s t l j).getD (s + j) 0 = l.getD (s + j) 0 := by
  have h2 : s + j < (stepJ p b s t l j).length := by rw [stepJ_len]; exact h
  rw [List.getD_eq_getElem?_getD,List.getD_eq_getElem?_getD,List.getElem?_eq_getElem h2,List.getElem?_eq_getElem h]
  show (stepJ p b s t l j)[s + j] = l[s + j]
  rw [stepJ_get h2 h,if_neg (by omega)]
theorem stepJ_succ {p : Nat} {b : List Nat} {s t : Nat} {l : List Nat} {j : Nat} (h : s + j < l.length) : (stepJ p b s t l j).set (s + j) (red p (l.getD (s + j) 0) t (b.getD j 0)) = stepJ p b s t l (j + 1) := by
  apply List.ext_getElem
  · rw [List.length_set,stepJ_len,stepJ_len]
  · intro i h1 h2
    have hi : i < l.length := by
      rw [stepJ_len] at h2
      exact h2
    rw [List.getElem_set,stepJ_get h2 hi]
    by_cases e : s + j = i
    · subst e
      rw [if_pos rfl,if_pos (by omega),show s + j - s = j by omega]
      simp [h]
    · rw [if_neg e,stepJ_get (by rw [stepJ_len]; exact hi) hi]
      by_cases e2 : s ≤ i ∧ i < s + j
      · rw [if_pos e2,if_pos (by omega)]
      · rw [if_neg e2,if_neg (by omega)]
theorem stepJ_lt {p : Nat} {b : List Nat} {s t : Nat} {l : List Nat} {j B : Nat} (hp : 0 < p) (hB : p ≤ B) (hl : ∀ x ∈ l,x < B) : ∀ x ∈ stepJ p b s t l j,x < B := by
  intro x hx
  obtain ⟨i,hi,rfl⟩ := List.mem_iff_getElem.mp hx
  have hi2 : i < l.length := by
    rw [stepJ_len] at hi
    exact hi
  rw [stepJ_get hi hi2]
  by_cases e : s ≤ i ∧ i < s + j
  · rw [if_pos e]
    exact Nat.lt_of_lt_of_le (red_int hp).2 hB
  · rw [if_neg e]
    exact hl _ (List.getElem_mem hi2)
def stepL (p : Nat) (b l : List Nat) : List Nat := stepJ p b (l.length - b.length) (l.getD (l.length - 1) 0) l.dropLast (b.length - 1)
theorem stepL_len (p : Nat) (b l : List Nat) : (stepL p b l).length = l.length - 1 := by
  unfold stepL
  rw [stepJ_len,List.length_dropLast]
def restN (p : Nat) (b : List Nat) : Nat → List Nat → List Nat
  | 0,l => l
  | n + 1,l => restN p b n (stepL p b l)
def restF (p : Nat) (b l : List Nat) : List Nat := restN p b (l.length + 1 - b.length) l
theorem restF_step {p : Nat} {b l : List Nat} (h0 : 0 < l.length) (h : b.length ≤ l.length) : restF p b (stepL p b l) = restF p b l := by
  unfold restF
  rw [stepL_len,show l.length + 1 - b.length = (l.length - 1 + 1 - b.length) + 1 by omega]
  rfl
theorem restF_end {p : Nat} {b l : List Nat} (h : l.length < b.length) : restF p b l = l := by
  unfold restF
  rw [show l.length + 1 - b.length = 0 by omega]
  rfl
def spRest : Sp := fun vs H Q _ => ∃ (a b : Addr) (p : Nat) (one by' : List Nat),vs = [.int ((p : Nat) : Int),.ref a,.ref b] ∧ H a = some (.tup (nats one)) ∧ H b = some (.tup (nats by')) ∧ 1 ≤ p ∧ p ≤ 31 ∧ one.length ≤ 60 ∧ 1 ≤ by'.length ∧ by'.length ≤ 60 ∧ (∀ x ∈ one,x < 32) ∧ ∀ (t : Addr) (H' : Hp),H t = none → Same H H' → H' t = some (.tup (nats (trimL (restF p by' one)))) → Q (.ref t) H'
theorem nats_setQ (l : List Nat) (i x : Nat) : (nats l).set i (.int ((x : Nat) : Int)) = nats (l.set i x) := by
  unfold nats
  rw [List.map_set]
theorem nats_drop (l : List Nat) : (nats l).dropLast = nats l.dropLast := by
  unfold nats
  rw [List.map_dropLast]
theorem ixN_nat {n k : Nat} (h : k < n) : ixN n ((k : Nat) : Int) = some k := by
  unfold ixN
  rw [if_pos (by omega),if_pos (by omega),Int.toNat_natCast]
theorem scRowRest : FnScope ["p", "one", "by", "left", "top", "start", "place", "digit"] ["p", "one", "by"] (defScope sRowRest) := ⟨rfl,rfl,rfl,by decide +kernel,rfl,by decide +kernel,by decide +kernel⟩
theorem cut_but {b : List Nat} (h : 1 ≤ b.length) : cutV (nats b) none (some (-1)) = nats b.dropLast := by
  unfold cutV
  have e1 : HT.sIx (nats b).length 0 none = 0 := by simp [HT.sIx]
  have e2 : HT.sIx (nats b).length (nats b).length (some (-1)) = b.length - 1 := by
    rw [nats_len]
    simp [HT.sIx]
    omega
  rw [e1,e2,List.drop_zero,Nat.sub_zero,List.dropLast_eq_take]
  unfold nats
  rw [List.map_take]
theorem not_all {n : Nat} (h : 1 ≤ n) : ¬ (HT.sIx n 0 none = 0 ∧ HT.sIx n n (some (-1)) = n) := by
  rintro ⟨_,z⟩
  simp [HT.sIx] at z
  omega
theorem ok_rest {f : Addr} {fd : FuncData} (F : Fun K "row_rest" "row_rest" sRowRest f fd) (T : TxtB mg) (pTrimmed : Pm P w K mg base CX0 1 "trimmed" ["digits"] spTrim) : FnOk P w K mg base CX0 2 f fd ["p", "one", "by"] spRest := by
  refine F.okQ scRowRest (fun vs H Q E h => ?_) (fun cdv A outer s H vs Q E hr1 h => ?_)
  · obtain ⟨a,b,p,one,by',rfl,_⟩ := h
    rfl
  · obtain ⟨a,b,p,one,by',rfl,ha,hb,hp1,hp31,ho60,hb1,hb60,ho,q⟩ := h
    refine ⟨_,(qss_cons (qs_set (i := 3) scRowRest.nd rfl (Or.inl rfl) (qe_callTy call_list_of (by rfl) T.lst (by decide +kernel) (qac (qv 1) qa_nil)))
      (qss_cons (qs_while PassesOwn.never (qt_cmpR op_ge (qe_callB call_len_seq (by rfl) T.len PySem.boot_len (qac (qv 3) qa_nil)) (qe_callB call_len_seq (by rfl) T.len PySem.boot_len (qac (qv 2) qa_nil)) (nomark _))
        (qss_cons (qs_set (i := 4) scRowRest.nd rfl (Or.inl rfl) (qe_bm0 PySem.F.plainAttrs_list PySem.F.slot_list_pop PySem.F.type_list_pop mt_pop (qv 3)))
        (qss_cons (qs_set (i := 5) scRowRest.nd rfl (Or.inl rfl) (qe_op op_sub (qe_op op_add (qe_callB call_len_seq (by rfl) T.len PySem.boot_len (qac (qv 3) qa_nil)) qe_int) (qe_callB call_len_seq (by rfl) T.len PySem.boot_len (qac (qv 2) qa_nil))))
        (qss_one (qs_for PassesOwn.never rfl (qi_enumK rfl T.enu (qe_slice sl_tup (qv 2) qo_none (qo_some (qe_un un_neg qe_int))) (qv 5)) (qg_tup rfl (qgs_cons (qg_name (i := 6) scRowRest.nd rfl (Or.inl rfl)) (qgs_cons (qg_name (i := 7) scRowRest.nd rfl (Or.inl rfl)) qgs_nil)))
          (qss_one (qs_asg (qe_op op_mod (qe_op op_sub (qe_ix ix_list (qv 3) (qv 6) (fun _ _ => rfl)) (qe_op op_mul (qv 4) (qv 7))) (qv 0)) (qg_sub (qv 3) (qv 6) set_list))))))))
      (qss_one (qs_ret (qe_callP pTrimmed hr1 rfl pass0 (qac (qv 3) qa_nil)))))),?_⟩
    refine ⟨_,rfl,a,_,rfl,.inr (SqT.of ha),fun g hg => ?_⟩
    refine while_w (fun σ H2 => Same H H2 ∧ ∃ (l : List Nat) (x4 x5 x6 x7 : Option V),σ = [some (.int ((p : Nat) : Int)),some (.ref a),some (.ref b),some (.ref g),x4,x5,x6,x7] ∧ H2 g = some (.lst (nats l)) ∧ restF p by' l = restF p by' one ∧ l.length ≤ 60 ∧ ∀ x ∈ l,x < 32)
      (fun _ H2 => match H2 g with | some (.lst xs) => xs.length | _ => 0) ⟨same_new hg,one,none,none,none,none,rfl,upd_same,rfl,ho60,ho⟩ ?_
    rintro mm σ H2 ⟨s2,l,x4,x5,x6,x7,rfl,hg2,hre,hl60,hl32⟩ hmm
    have hb2 := s2 _ _ hb
    refine ⟨_,rfl,g,_,rfl,.inl (SqL.of hg2),_,rfl,b,_,rfl,.inr (SqT.of hb2),_,_,rfl,rfl,_,rfl,?_⟩
    refine ite2 (fun h1 => WTurn.of ?_) (fun h1 => ?_)
    · have h1' : by'.length ≤ l.length := by
        have := of_decide_eq_true h1
        rw [nats_len,nats_len] at this
        omega
      have hl0 : 0 < l.length := by omega
      have e1 : (nats l)[(nats l).length - 1]? = some (.int ((l.getD (l.length - 1) 0 : Nat) : Int)) := by
        rw [nats_len]
        unfold nats
        rw [List.getElem?_map,List.getElem?_eq_getElem (by omega)]
        simp [show l.length - 1 < l.length by omega]
      refine ⟨_,rfl,.inl ⟨rfl,_,SqL.of hg2⟩,g,_,_,rfl,rfl,hg2,e1,?_⟩
      rw [nats_drop]
      have s3 : Same H (upd H2 g (.lst (nats l.dropLast))) := same_upd s2 hg
      have hg3 : upd H2 g (.lst (nats l.dropLast)) g = some (.lst (nats l.dropLast)) := upd_same
      generalize upd H2 g (.lst (nats l.dropLast)) = H3 at s3 hg3 ⊢
      refine ⟨_,rfl,g,_,rfl,.inl (SqL.of hg3),_,_,rfl,rfl,_,rfl,b,_,rfl,.inr (SqT.of (s3 _ _ hb)),_,_,rfl,rfl,?_⟩
      dsimp only
      rw [nats_len,nats_len,List.length_dropLast,show ((l.length - 1 : Nat) : Int) + 1 - ((by'.length : Nat) : Int) = ((l.length - by'.length : Nat) : Int) by omega]
      refine ⟨_,rfl,1,rfl,_,rfl,b,_,rfl,SqT.of (s3 _ _ hb),by rw [nats_len]; exact not_all hb1,fun c hc => ?_⟩
      rw [show cutV (nats by') none (some (-1)) = nats by'.dropLast from cut_but hb1]
      have w4 := same_new (o := .tup (nats by'.dropLast)) hc
      have s4 := s3.trans w4
      have hg4 := w4 _ _ hg3
      have hc4 : upd H3 c (.tup (nats by'.dropLast)) c = some (.tup (nats by'.dropLast)) := upd_same
      have hcg : g ≠ c := ne_of_none hg3 hc
      generalize upd H3 c (.tup (nats by'.dropLast)) = H4 at s4 hg4 hc4 ⊢
      refine ⟨_,rfl,c,l.length - by'.length,rfl,rfl,by omega,⟨_,SqT.of hc4⟩,for_enumK (k0 := l.length - by'.length) (K := K) (xs := nats by'.dropLast) (fun j σ H5 => Same H H5 ∧ H5 c = some (.tup (nats by'.dropLast)) ∧ (∃ x6 x7,σ = [some (.int ((p : Nat) : Int)),some (.ref a),some (.ref b),some (.ref g),some (.int ((l.getD (l.length - 1) 0 : Nat) : Int)),some (.int ((l.length - by'.length : Nat) : Int)),x6,x7]) ∧ H5 g = some (.lst (nats (stepJ p by' (l.length - by'.length) (l.getD (l.length - 1) 0) l.dropLast j)))) ⟨s4,hc4,⟨_,_,rfl⟩,by rw [stepJ_zero]; exact hg4⟩ (fun j σ H5 _ ⟨_,e,_⟩ => SqT.of e) ?_ ?_⟩
      · rintro j v T1 σ H5 hj ⟨s5,hc5,⟨x6,x7,rfl⟩,hg5⟩ hT1
        obtain ⟨y,hy,rfl⟩ := L2.nats_get hj
        have hjl := (List.getElem?_eq_some_iff.mp hy).1
        rw [List.length_dropLast] at hjl
        have hyb : by'.getD j 0 = y := by
          rw [List.getD_eq_getElem?_getD]
          rw [List.dropLast_eq_take,List.getElem?_take_of_lt (by omega)] at hy
          rw [hy]
          rfl
        have w5 := same_new (o := .tup [V.int ((l.length - by'.length + j : Nat) : Int),V.int ((y : Nat) : Int)]) hT1
        refine ⟨T1,_,rfl,SqT.of upd_same,rfl,_,_,rfl,_,_,rfl,rfl,?_⟩
        have s6 := s5.trans w5
        have hc6 := w5 _ _ hc5
        have hg6 := w5 _ _ hg5
        generalize upd H5 T1 (.tup [V.int ((l.length - by'.length + j : Nat) : Int),V.int ((y : Nat) : Int)]) = H6 at s6 hc6 hg6 ⊢
        have hix : l.length - by'.length + j < l.dropLast.length := by rw [List.length_dropLast]; omega
        have e2 : atI (nats (stepJ p by' (l.length - by'.length) (l.getD (l.length - 1) 0) l.dropLast j)) ((l.length - by'.length + j : Nat) : Int) = some (.int ((l.dropLast.getD (l.length - by'.length + j) 0 : Nat) : Int)) := by
          rw [nat_atQ (by rw [stepJ_len]; exact hix),stepJ_at hix]
        have htop : l.getD (l.length - 1) 0 < 32 := by
          rw [List.getD_eq_getElem?_getD,List.getElem?_eq_getElem (by omega)]
          exact hl32 _ (List.getElem_mem _)
        obtain ⟨r1,r2⟩ := red_int (p := p) (v := l.dropLast.getD (l.length - by'.length + j) 0) (t := l.getD (l.length - 1) 0) (d := y) (by omega)
        refine ⟨_,rfl,_,rfl,g,_,_,_,rfl,rfl,SqL.of hg6,e2,_,rfl,_,rfl,_,_,rfl,rfl,.inl ⟨by omega,by omega⟩,_,_,rfl,rfl,_,rfl,_,_,rfl,rfl,by omega,_,rfl,_,rfl,g,_,_,l.length - by'.length + j,rfl,rfl,hg6,by rw [nats_len,stepJ_len]; exact ixN_nat hix,?_⟩
        have hcg6 : c ≠ g := Ne.symm hcg
        have key : (nats (stepJ p by' (l.length - by'.length) (l.getD (l.length - 1) 0) l.dropLast j)).set (l.length - by'.length + j) (V.int ((((l.dropLast.getD (l.length - by'.length + j) 0 : Nat) : Int) - ((l.getD (l.length - 1) 0 : Nat) : Int) * ((y : Nat) : Int)) % ((p : Nat) : Int))) = nats (stepJ p by' (l.length - by'.length) (l.getD (l.length - 1) 0) l.dropLast (j + 1)) := by
          rw [r1,nats_setQ,← hyb,stepJ_succ hix]
        refine ⟨same_upd s6 hg,by rw [upd_ne hcg6]; exact hc6,⟨_,_,rfl⟩,?_⟩
        rw [upd_same]
        exact congrArg (fun z => some (HO.lst z)) key
      · rintro σ H5 ⟨s5,hc5,⟨x6,x7,rfl⟩,hg5⟩
        rw [nats_len,List.length_dropLast] at hg5
        have hst : stepJ p by' (l.length - by'.length) (l.getD (l.length - 1) 0) l.dropLast (by'.length - 1) = stepL p by' l := rfl
        rw [hst] at hg5
        refine ⟨⟨s5,stepL p by' l,_,_,_,_,rfl,hg5,by rw [restF_step hl0 h1',hre],by rw [stepL_len]; omega,?_⟩,?_⟩
        · exact stepJ_lt (by omega) (by omega) fun x hx => hl32 x (List.dropLast_subset _ hx)
        · rw [hmm,hg2]
          show (match H5 g with | some (.lst xs) => xs.length | _ => 0) < _
          rw [hg5]
          show (nats (stepL p by' l)).length < (nats l).length
          rw [nats_len,nats_len,stepL_len]
          omega
    · have h1' : l.length < by'.length := by
        have : ¬ ((nats by').length : Int) ≤ ((nats l).length : Int) := fun z => h1 (decide_eq_true z)
        rw [nats_len,nats_len] at this
        omega
      refine ⟨_,rfl,g,l,rfl,hg2,by omega,fun t H3 ht s3 ht3 => ?_⟩
      refine q t H3 (s2.free ht) (s2.trans s3) ?_
      rw [← hre,restF_end h1']
      exact ht3
def csL (one other : List Nat) (k i : Nat) : List Nat := ((List.range i).filter fun j => decide (j ≤ k ∧ k < j + other.length)).map fun j => one.getD j 0 * other.getD (k - j) 0
theorem csL_snoc (one other : List Nat) (k i : Nat) : csL one other k (i + 1) = csL one other k i ++ if i ≤ k ∧ k < i + other.length then [one.getD i 0 * other.getD (k - i) 0] else [] := by
  unfold csL
  rw [List.range_succ,List.filter_append,List.map_append]
  by_cases h : i ≤ k ∧ k < i + other.length
  · rw [if_pos h]
    simp [h]
  · rw [if_neg h]
    simp [h]
def convL (p : Nat) (one other : List Nat) : List Nat := (List.range (one.length + other.length)).map fun k => (csL one other k one.length).sum % p
def spProd : Sp := fun vs H Q _ => ∃ (a b : Addr) (p : Nat) (one other : List Nat),vs = [.int ((p : Nat) : Int),.ref a,.ref b] ∧ H a = some (.tup (nats one)) ∧ H b = some (.tup (nats other)) ∧ 1 ≤ p ∧ p ≤ 31 ∧ one.length ≤ 20 ∧ other.length ≤ 20 ∧ (∀ x ∈ one,x < 32) ∧ (∀ x ∈ other,x < 32) ∧ ∀ (t : Addr) (H' : Hp),H t = none → Same H H' → H' t = some (.tup (nats (trimL (convL p one other)))) → Q (.ref t) H'
def sumTo : Nat → (Nat → Int) → Int
  | 0,_ => 0
  | n + 1,f => sumTo n f + f n
theorem sumTo_congr {f g : Nat → Int} : ∀ {n : Nat},(∀ i,i < n → f i = g i) → sumTo n f = sumTo n g
  | 0,_ => rfl
  | n + 1,h => by
    rw [sumTo,sumTo,sumTo_congr fun i hi => h i (by omega),h n (by omega)]
theorem sumTo_add (f g : Nat → Int) : ∀ n,sumTo n (fun i => f i + g i) = sumTo n f + sumTo n g
  | 0 => rfl
  | n + 1 => by
    rw [sumTo,sumTo,sumTo,sumTo_add f g n]
    omega
theorem sumTo_mul (c : Int) (f : Nat → Int) : ∀ n,sumTo n (fun i => c * f i) = c * sumTo n f
  | 0 => by simp [sumTo]
  | n + 1 => by
    rw [sumTo,sumTo,sumTo_mul c f n,Int.mul_add]
theorem sumTo_zero {f : Nat → Int} : ∀ {n : Nat},(∀ i,i < n → f i = 0) → sumTo n f = 0
  | 0,_ => rfl
  | n + 1,h => by
    rw [sumTo,sumTo_zero fun i hi => h i (by omega),h n (by omega)]
    rfl
theorem sumTo_tail {n : Nat} {f : Nat → Int} (h : ∀ i,n ≤ i → f i = 0) : ∀ k,sumTo (n + k) f = sumTo n f
  | 0 => rfl
  | k + 1 => by
    rw [← Nat.add_assoc,sumTo,sumTo_tail h k,h _ (by omega),Int.add_zero]
theorem sumTo_shift (s : Nat) (f : Nat → Int) : ∀ n,sumTo (s + n) (fun i => if s ≤ i then f i else 0) = sumTo n (fun m => f (s + m))
  | 0 => sumTo_zero fun i hi => if_neg (by omega)
  | n + 1 => by
    rw [← Nat.add_assoc,sumTo,sumTo_shift s f n,sumTo,if_pos (by omega)]
def Cg (p : Nat) (x y : Int) : Prop := ∃ c : Int,x = y + (p : Int) * c
theorem Cg.refl {p : Nat} (x : Int) : Cg p x x := ⟨0,by simp⟩
theorem Cg.of_eq {p : Nat} {x y : Int} (h : x = y) : Cg p x y := h ▸ Cg.refl x
theorem Cg.symm {p : Nat} {x y : Int} (h : Cg p x y) : Cg p y x := by
  obtain ⟨c,h⟩ := h
  exact ⟨-c,by rw [h,Int.mul_neg]; omega⟩
theorem Cg.trans {p : Nat} {x y z : Int} (h : Cg p x y) (h2 : Cg p y z) : Cg p x z := by
  obtain ⟨c,h⟩ := h
  obtain ⟨d,h2⟩ := h2
  exact ⟨c + d,by rw [h,h2,Int.mul_add]; omega⟩
theorem Cg.add {p : Nat} {x y z u : Int} (h : Cg p x y) (h2 : Cg p z u) : Cg p (x + z) (y + u) := by
  obtain ⟨c,h⟩ := h
  obtain ⟨d,h2⟩ := h2
  exact ⟨c + d,by rw [h,h2,Int.mul_add]; omega⟩
theorem Cg.mul {p : Nat} {x y : Int} (h : Cg p x y) (z : Int) : Cg p (x * z) (y * z) := by
  obtain ⟨c,h⟩ := h
  exact ⟨c * z,by rw [h,Int.add_mul,Int.mul_assoc]⟩
theorem Cg.sum {p : Nat} {f g : Nat → Int} : ∀ {n : Nat},(∀ i,i < n → Cg p (f i) (g i)) → Cg p (sumTo n f) (sumTo n g)
  | 0,_ => Cg.refl _
  | n + 1,h => (Cg.sum fun i hi => h i (by omega)).add (h n (by omega))
theorem Cg.mod {p : Nat} (x : Int) : Cg p (x % (p : Int)) x := ⟨-(x / (p : Int)),by
  have := Int.mul_ediv_add_emod x (p : Int)
  rw [Int.mul_neg]
  omega⟩
theorem Cg.eq {p : Nat} {x y : Nat} (h : Cg p (x : Int) (y : Int)) (hx : x < p) (hy : y < p) : x = y := by
  obtain ⟨c,h⟩ := h
  have h1 : (x : Int) % (p : Int) = (y : Int) % (p : Int) := by
    rw [h,Int.add_mul_emod_self_left]
  rw [Int.emod_eq_of_lt (by omega) (by omega),Int.emod_eq_of_lt (by omega) (by omega)] at h1
  omega
def tabX (b : List Nat) (d k : Nat) : Nat → Nat → Int
  | 0,i => if i = k then 1 else 0
  | n + 1,i => if i = n + d then -(sumTo d fun m => ((b.getD m 0 : Nat) : Int) * tabX b d k n (n + m)) else tabX b d k n i
theorem tabX_keep {b : List Nat} {d k n i : Nat} (h : i < n + d) : ∀ j,tabX b d k (n + j) i = tabX b d k n i
  | 0 => rfl
  | j + 1 => by
    rw [← Nat.add_assoc,tabX,if_neg (by omega),tabX_keep h j]
def Xv (b : List Nat) (d k i : Nat) : Int := tabX b d k i i
theorem tab_Xv {b : List Nat} {d k n i : Nat} (hd : 1 ≤ d) (h : i < n + d) : tabX b d k n i = Xv b d k i := by
  unfold Xv
  rcases Nat.le_total n i with z | z
  · have := tabX_keep (b := b) (k := k) h (i - n)
    rw [show n + (i - n) = i by omega] at this
    exact this.symm
  · have := tabX_keep (b := b) (d := d) (k := k) (n := i) (i := i) (by omega) (n - i)
    rw [show i + (n - i) = n by omega] at this
    exact this
theorem Xv_rec {b : List Nat} {d k : Nat} (hd : 1 ≤ d) (n : Nat) : Xv b d k (n + d) = -(sumTo d fun m => ((b.getD m 0 : Nat) : Int) * Xv b d k (n + m)) := by
  rw [← tab_Xv (n := n + 1) hd (by omega),tabX,if_pos rfl]
  congr 1
  exact sumTo_congr fun m hm => by rw [tab_Xv hd (by omega)]
def bsI (b : List Nat) (s i : Nat) : Int := if s ≤ i then ((b.getD (i - s) 0 : Nat) : Int) else 0
theorem getD_out {l : List Nat} {i : Nat} (h : l.length ≤ i) : l.getD i 0 = 0 := by
  rw [List.getD_eq_getElem?_getD,List.getElem?_eq_none h]
  rfl
theorem getD_in {l : List Nat} {i : Nat} (h : i < l.length) : l.getD i 0 = l[i] := by
  rw [List.getD_eq_getElem?_getD,List.getElem?_eq_getElem h]
  rfl
theorem bs_sum {b : List Nat} {d k s : Nat} (hd : 1 ≤ d) (hb : b.length = d + 1) (h1 : b.getD d 0 = 1) (hs : s + d < 60) : sumTo 60 (fun i => bsI b s i * Xv b d k i) = 0 := by
  have e1 : sumTo 60 (fun i => bsI b s i * Xv b d k i) = sumTo (s + (60 - s)) (fun i => if s ≤ i then ((b.getD (i - s) 0 : Nat) : Int) * Xv b d k i else 0) := by
    rw [show s + (60 - s) = 60 by omega]
    refine sumTo_congr fun i _ => ?_
    unfold bsI
    by_cases z : s ≤ i
    · rw [if_pos z,if_pos z]
    · rw [if_neg z,if_neg z,Int.zero_mul]
  rw [e1,sumTo_shift]
  have e2 : sumTo (60 - s) (fun m => ((b.getD (s + m - s) 0 : Nat) : Int) * Xv b d k (s + m)) = sumTo (d + 1 + (60 - s - (d + 1))) (fun m => ((b.getD m 0 : Nat) : Int) * Xv b d k (s + m)) := by
    rw [show d + 1 + (60 - s - (d + 1)) = 60 - s by omega]
    refine sumTo_congr fun m _ => ?_
    rw [show s + m - s = m by omega]
  rw [e2,sumTo_tail (fun i hi => by rw [getD_out (by omega)]; simp),sumTo,h1,Xv_rec hd]
  omega
def Ev (b : List Nat) (d k : Nat) (l : List Nat) : Int := sumTo 60 fun i => ((l.getD i 0 : Nat) : Int) * Xv b d k i
theorem step_cg {p : Nat} {b l : List Nat} {d n : Nat} (hp : 1 ≤ p) (hb : b.length = d + 1) (h1 : b.getD d 0 = 1) (hl : l.length = n + 1) (hn : d ≤ n) (i : Nat) : Cg p (((stepL p b l).getD i 0 : Nat) : Int) (((l.getD i 0 : Nat) : Int) + bsI b (n - d) i * -((l.getD n 0 : Nat) : Int)) := by
  have hsl : (stepL p b l).length = n := by rw [stepL_len,hl]; rfl
  rcases Nat.lt_trichotomy i n with z | z | z
  · have hi : i < (stepL p b l).length := by omega
    have hdl : i < l.dropLast.length := by rw [List.length_dropLast,hl]; exact z
    rw [getD_in hi]
    unfold stepL at hi ⊢
    rw [stepJ_get hi hdl,List.getElem_dropLast,show l.length - b.length = n - d by omega,show l.getD (l.length - 1) 0 = l.getD n 0 by rw [hl]; rfl,show n - d + (b.length - 1) = n by omega]
    unfold bsI
    by_cases zz : n - d ≤ i
    · rw [if_pos ⟨zz,z⟩,if_pos zz,getD_in (show i < l.length by omega),← (red_int hp).1]
      refine (Cg.mod _).trans (Cg.of_eq ?_)
      rw [Int.mul_neg,Int.mul_comm]
      omega
    · rw [if_neg (fun q => zz q.1),if_neg zz,getD_in (show i < l.length by omega)]
      exact Cg.of_eq (by simp)
  · subst z
    rw [getD_out (by omega)]
    unfold bsI
    rw [if_pos (by omega),show i - (i - d) = d by omega,h1]
    exact Cg.of_eq (by simp; omega)
  · rw [getD_out (by omega),getD_out (show l.length ≤ i by omega)]
    unfold bsI
    rw [if_pos (by omega),getD_out (by omega)]
    exact Cg.of_eq (by simp)
theorem step_ev {p : Nat} {b l : List Nat} {d k : Nat} (hp : 1 ≤ p) (hd : 1 ≤ d) (hb : b.length = d + 1) (h1 : b.getD d 0 = 1) (hl : l.length ≤ 60) (hn : d + 1 ≤ l.length) : Cg p (Ev b d k (stepL p b l)) (Ev b d k l) := by
  obtain ⟨n,hn'⟩ : ∃ n,l.length = n + 1 := ⟨l.length - 1,by omega⟩
  have e : Ev b d k l = sumTo 60 (fun i => (((l.getD i 0 : Nat) : Int) + bsI b (n - d) i * -((l.getD n 0 : Nat) : Int)) * Xv b d k i) := by
    have e1 : sumTo 60 (fun i => (((l.getD i 0 : Nat) : Int) + bsI b (n - d) i * -((l.getD n 0 : Nat) : Int)) * Xv b d k i) = sumTo 60 (fun i => ((l.getD i 0 : Nat) : Int) * Xv b d k i + -((l.getD n 0 : Nat) : Int) * (bsI b (n - d) i * Xv b d k i)) := by
      refine sumTo_congr fun i _ => ?_
      rw [Int.add_mul,Int.mul_comm (bsI b (n - d) i),Int.mul_assoc]
    rw [e1,sumTo_add,sumTo_mul,bs_sum hd hb h1 (by omega),Int.mul_zero,Int.add_zero]
    rfl
  rw [e]
  exact Cg.sum fun i _ => (step_cg hp hb h1 hn' (by omega) i).mul _
theorem rest_facts {p : Nat} {b : List Nat} {d : Nat} (hp : 1 ≤ p) (hd : 1 ≤ d) (hb : b.length = d + 1) (h1 : b.getD d 0 = 1) : ∀ n l,l.length + 1 = b.length + n → l.length ≤ 60 → (∀ x ∈ l,x < p) → (restN p b n l).length ≤ d ∧ (∀ x ∈ restN p b n l,x < p) ∧ ∀ k,Cg p (Ev b d k (restN p b n l)) (Ev b d k l)
  | 0,l,h,_,hx => ⟨by rw [restN]; omega,hx,fun k => Cg.refl _⟩
  | n + 1,l,h,hl,hx => by
    have hsl := stepL_len p b l
    obtain ⟨q1,q2,q3⟩ := rest_facts hp hd hb h1 n (stepL p b l) (by omega) (by omega) (stepJ_lt (by omega) (Nat.le_refl p) fun x hx' => hx x (List.dropLast_subset _ hx'))
    exact ⟨q1,q2,fun k => (q3 k).trans (step_ev hp hd hb h1 hl (by omega))⟩
theorem restF_facts {p : Nat} {b l : List Nat} {d : Nat} (hp : 1 ≤ p) (hd : 1 ≤ d) (hb : b.length = d + 1) (h1 : b.getD d 0 = 1) (hl : l.length ≤ 60) (hx : ∀ x ∈ l,x < p) : (restF p b l).length ≤ d ∧ (∀ x ∈ restF p b l,x < p) ∧ ∀ k,Cg p (Ev b d k (restF p b l)) (Ev b d k l) := by
  by_cases z : l.length < b.length
  · rw [restF_end z]
    exact ⟨by omega,hx,fun k => Cg.refl _⟩
  · exact rest_facts hp hd hb h1 (l.length + 1 - b.length) l (by omega) hl hx
def Tight (l : List Nat) : Prop := l = [] ∨ l.getD (l.length - 1) 0 ≠ 0
theorem rev_cases (l : List Nat) : l = [] ∨ ∃ m x,l = m ++ [x] := by
  rcases List.eq_nil_or_concat l with h | ⟨m,x,h⟩
  · exact .inl h
  · exact .inr ⟨m,x,by rw [h,List.concat_eq_append]⟩
theorem trim_facts : ∀ (n : Nat) (l : List Nat),l.length = n → Tight (trimL l) ∧ ∀ i,(trimL l).getD i 0 = l.getD i 0
  | 0,l,h => by
    have : l = [] := List.length_eq_zero_iff.mp h
    subst this
    exact ⟨.inl rfl,fun i => rfl⟩
  | n + 1,l,h => by
    rcases rev_cases l with rfl | ⟨m,x,rfl⟩
    · cases h
    · rw [List.length_append] at h
      have hm : m.length = n := by
        have : m.length + 1 = n + 1 := h
        omega
      by_cases hx : x = 0
      · subst hx
        rw [trim_zero]
        obtain ⟨q1,q2⟩ := trim_facts n m hm
        refine ⟨q1,fun i => ?_⟩
        rw [q2]
        rcases Nat.lt_trichotomy i m.length with z | z | z
        · rw [List.getD_eq_getElem?_getD,List.getD_eq_getElem?_getD,List.getElem?_append_left z]
        · subst z
          rw [getD_out (Nat.le_refl _),List.getD_eq_getElem?_getD,List.getElem?_append_right (Nat.le_refl _),Nat.sub_self]
          rfl
        · rw [getD_out (by omega),getD_out (by rw [List.length_append]; show m.length + 1 ≤ i; omega)]
      · rw [trim_keep m hx]
        refine ⟨.inr ?_,fun i => rfl⟩
        rw [List.length_append,show m.length + [x].length - 1 = m.length from rfl,List.getD_eq_getElem?_getD,List.getElem?_append_right (Nat.le_refl _),Nat.sub_self]
        exact hx
theorem trim_at (l : List Nat) (i : Nat) : (trimL l).getD i 0 = l.getD i 0 := (trim_facts _ l rfl).2 i
theorem tight_le {l m : List Nat} (hl : Tight l) (h : ∀ i,l.getD i 0 = m.getD i 0) : l.length ≤ m.length := by
  rcases hl with rfl | hl
  · exact Nat.zero_le _
  · rcases Nat.lt_or_ge m.length l.length with z | z
    · rw [h,getD_out (by omega)] at hl
      exact absurd rfl hl
    · exact z
theorem trim_ext {l m : List Nat} (h : ∀ i,l.getD i 0 = m.getD i 0) : trimL l = trimL m := by
  obtain ⟨a1,a2⟩ := trim_facts _ l rfl
  obtain ⟨b1,b2⟩ := trim_facts _ m rfl
  have hh : ∀ i,(trimL l).getD i 0 = (trimL m).getD i 0 := fun i => by rw [a2,b2,h]
  have h1 := tight_le a1 hh
  have h2 := tight_le b1 fun i => (hh i).symm
  apply List.ext_getElem (by omega)
  intro i z1 z2
  have := hh i
  rw [getD_in z1,getD_in z2] at this
  exact this
theorem cs_sum (one other : List Nat) (k : Nat) : ∀ n,(((csL one other k n).sum : Nat) : Int) = sumTo n fun j => ((one.getD j 0 : Nat) : Int) * bsI other j k
  | 0 => rfl
  | n + 1 => by
    rw [csL_snoc,List.sum_append,sumTo,← cs_sum one other k n]
    unfold bsI
    by_cases h : n ≤ k ∧ k < n + other.length
    · rw [if_pos h,if_pos h.1]
      simp
    · rw [if_neg h]
      by_cases h2 : n ≤ k
      · rw [if_pos h2,getD_out (l := other) (by omega)]
        simp
      · rw [if_neg h2]
        simp
theorem conv_cg {p : Nat} (one other : List Nat) (i : Nat) : Cg p (((convL p one other).getD i 0 : Nat) : Int) (sumTo one.length fun j => ((one.getD j 0 : Nat) : Int) * bsI other j i) := by
  have hlen : (convL p one other).length = one.length + other.length := by
    unfold convL
    rw [List.length_map,List.length_range]
  by_cases h : i < one.length + other.length
  · rw [getD_in (by omega)]
    unfold convL
    rw [List.getElem_map,List.getElem_range,← cs_sum]
    exact Int.natCast_emod _ _ ▸ Cg.mod _
  · rw [getD_out (by omega),sumTo_zero fun j hj => ?_]
    · exact Cg.refl _
    · unfold bsI
      rw [if_pos (by omega),getD_out (l := other) (by omega)]
      simp
theorem new_both {H : Hp} {a : Addr} {o : HO} (h : H a = none) : Same H (upd H a o) ∧ upd H a o a = some o := ⟨same_new h,upd_same⟩
def prN (one other : List Nat) (i j k : Nat) : Nat := (csL one other k i).sum + if i ≤ k ∧ k < i + j then one.getD i 0 * other.getD (k - i) 0 else 0
def prL (one other : List Nat) (i j : Nat) : List Nat := (List.range (one.length + other.length)).map (prN one other i j)
theorem prL_len (one other : List Nat) (i j : Nat) : (prL one other i j).length = one.length + other.length := by
  unfold prL
  rw [List.length_map,List.length_range]
theorem prL_el {one other : List Nat} {i j k : Nat} (h : k < (prL one other i j).length) : (prL one other i j)[k] = prN one other i j k := by
  simp [prL]
theorem prL_get {one other : List Nat} {i j k : Nat} (h : k < one.length + other.length) : (prL one other i j).getD k 0 = prN one other i j k := by
  rw [getD_in (by rw [prL_len]; exact h)]
  unfold prL
  rw [List.getElem_map,List.getElem_range]
theorem prL_row (one other : List Nat) (i : Nat) : prL one other i other.length = prL one other (i + 1) 0 := by
  unfold prL
  apply List.map_congr_left
  intro k _
  unfold prN
  rw [csL_snoc,List.sum_append,if_neg (c := i + 1 ≤ k ∧ k < i + 1 + 0) (by omega)]
  by_cases h : i ≤ k ∧ k < i + other.length
  · rw [if_pos h,if_pos h]
    simp
  · rw [if_neg h,if_neg h]
    simp
theorem prL_step {one other : List Nat} {i j : Nat} (hi : i < one.length) (hj : j < other.length) : (prL one other i j).set (i + j) (prN one other i j (i + j) + one.getD i 0 * other.getD j 0) = prL one other i (j + 1) := by
  apply List.ext_getElem
  · rw [List.length_set,prL_len,prL_len]
  · intro k h1 h2
    rw [prL_len] at h2
    rw [List.getElem_set,prL_el,prL_el]
    unfold prN
    by_cases e : i + j = k
    · subst e
      rw [if_pos rfl,if_neg (by omega),if_pos (by omega),show i + j - i = j by omega]
      omega
    · rw [if_neg e]
      by_cases e2 : i ≤ k ∧ k < i + j
      · rw [if_pos e2,if_pos (by omega)]
      · rw [if_neg e2,if_neg (by omega)]
theorem prL_zero (one other : List Nat) : prL one other 0 0 = List.replicate (one.length + other.length) 0 := by
  rw [List.eq_replicate_iff]
  refine ⟨prL_len ..,fun b hb => ?_⟩
  unfold prL at hb
  obtain ⟨k,_,rfl⟩ := List.mem_map.mp hb
  unfold prN
  rw [if_neg (by omega)]
  rfl
theorem pr_conv (p : Nat) (one other : List Nat) : (prL one other one.length 0).map (fun x => x % p) = convL p one other := by
  unfold prL convL
  rw [List.map_map]
  apply List.map_congr_left
  intro k _
  show prN one other one.length 0 k % p = _
  unfold prN
  rw [if_neg (by omega)]
  rfl
theorem rep_flatQ : ∀ n : Nat,(List.replicate n [V.int 0]).flatten = nats (List.replicate n 0)
  | 0 => rfl
  | n + 1 => by
    rw [List.replicate_succ,List.flatten_cons,rep_flatQ n,List.replicate_succ]
    rfl
theorem nats_map_take {xs : List Nat} {i x : Nat} (f : Nat → Nat) (h : xs[i]? = some x) : nats ((xs.take i).map f) ++ [V.int ((f x : Nat) : Int)] = nats ((xs.take (i + 1)).map f) := by
  rw [take_snoc h,List.map_append,List.map_cons,List.map_nil,nats_snoc]
theorem scRowTimes : FnScope ["p", "one", "other", "product", "place", "digit", "further", "factor"] ["p", "one", "other"] (defScope sRowTimes) := ⟨rfl,rfl,rfl,by decide +kernel,rfl,by decide +kernel,by decide +kernel⟩
theorem ok_times {f : Addr} {fd : FuncData} (F : Fun K "row_times" "row_times" sRowTimes f fd) (T : TxtB mg) (pTrimmed : Pm P w K mg base CX0 1 "trimmed" ["digits"] spTrim) : FnOk P w K mg base CX0 2 f fd ["p", "one", "other"] spProd := by
  refine F.okQ scRowTimes (fun vs H Q E h => ?_) (fun cdv A outer s H vs Q E hr1 h => ?_)
  · obtain ⟨a,b,p,one,other,rfl,_⟩ := h
    rfl
  · obtain ⟨a,b,p,one,other,rfl,ha,hb,hp1,hp31,ho20,ht20,ho,ht,q⟩ := h
    refine ⟨_,(qss_cons (qs_set (i := 3) scRowTimes.nd rfl (Or.inl rfl) (qe_op op_mulL (qe_lst (qac qe_int qa_nil)) (qe_op op_add (qe_callB call_len_seq (by rfl) T.len PySem.boot_len (qac (qv 1) qa_nil)) (qe_callB call_len_seq (by rfl) T.len PySem.boot_len (qac (qv 2) qa_nil)))))
      (qss_cons (qs_for PassesOwn.never rfl (qi_enumT rfl T.enu (qac (qv 1) qa_nil)) (qg_tup rfl (qgs_cons (qg_name (i := 4) scRowTimes.nd rfl (Or.inl rfl)) (qgs_cons (qg_name (i := 5) scRowTimes.nd rfl (Or.inl rfl)) qgs_nil)))
        (qss_one (qs_for PassesOwn.never rfl (qi_enumT rfl T.enu (qac (qv 2) qa_nil)) (qg_tup rfl (qgs_cons (qg_name (i := 6) scRowTimes.nd rfl (Or.inl rfl)) (qgs_cons (qg_name (i := 7) scRowTimes.nd rfl (Or.inl rfl)) qgs_nil)))
          (qss_one (qs_augS (qv 3) (qe_op op_add (qv 4) (qv 6)) get_listN (qe_op op_mul (qv 5) (qv 7)) ip_add set_list)))))
      (qss_one (qs_ret (qe_callP pTrimmed hr1 rfl pass0 (qac (qe_comp (g := gName 0) (N := ["digit", "p"]) (src := [none,some 0]) rfl (comp_scope (defScope sRowTimes) ["p", "one", "other", "product", "place", "digit", "further", "factor"] rfl rfl (by decide +kernel) rfl) (qi_list (qv 3)) (fun _ _ _ _ _ => (qg_name (i := 0) (show (["digit", "p"] : List Str).Nodup by decide +kernel) rfl (Or.inl rfl) (Or.inr rfl))) (fun _ _ _ _ _ => qif_nil) (fun _ _ _ _ _ => (qe_op op_mod (qv 0) (qv 1)))) qa_nil)))))),?_⟩
    refine ⟨by show 1 ≤ sizeLine; decide,fun d hd => ?_⟩
    have w1 := same_new (o := .lst [V.int 0]) hd
    refine ⟨_,rfl,a,_,rfl,.inr (SqT.of (w1 _ _ ha)),_,rfl,b,_,rfl,.inr (SqT.of (w1 _ _ hb)),_,_,rfl,rfl,d,[V.int 0],((one.length + other.length : Nat) : Int),rfl,?_,SqL.of upd_same,by omega,by omega,by rw [List.length_singleton,Int.toNat_natCast]; omega,fun l hl => ?_⟩
    · show V.int ((((nats one).length : Nat) : Int) + (((nats other).length : Nat) : Int)) = _
      rw [nats_len,nats_len,show ((one.length : Nat) : Int) + ((other.length : Nat) : Int) = ((one.length + other.length : Nat) : Int) by omega]
    rw [Int.toNat_natCast,rep_flatQ,← prL_zero one other]
    obtain ⟨w2,hl2⟩ := new_both (o := .lst (nats (prL one other 0 0))) hl
    have hl0 : H l = none := w1.free hl
    have s2 := w1.trans w2
    generalize upd _ l _ = H2 at hl2 s2 ⊢
    refine ⟨_,rfl,a,rfl,⟨_,SqT.of (s2 _ _ ha)⟩,for_enumT (K := K) (xs := nats one) (fun i σ H3 => Same H H3 ∧ (∃ x4 x5 x6 x7,σ = [some (.int ((p : Nat) : Int)),some (.ref a),some (.ref b),some (.ref l),x4,x5,x6,x7]) ∧ H3 l = some (.lst (nats (prL one other i 0)))) ⟨s2,⟨none,none,none,none,rfl⟩,hl2⟩ (fun i σ H3 _ ⟨e,_⟩ => SqT.of (e _ _ ha)) ?_ ?_⟩
    · rintro i v T1 σ H3 hi ⟨s3,⟨x4,x5,x6,x7,rfl⟩,hl3⟩ hT1
      obtain ⟨x,hx,rfl⟩ := L2.nats_get hi
      have hil := (List.getElem?_eq_some_iff.mp hx).1
      obtain ⟨w4,hT4⟩ := new_both (o := .tup [.int ((i : Nat) : Int),.int ((x : Nat) : Int)]) hT1
      have s4 := s3.trans w4
      have hl4 := w4 _ _ hl3
      have hxe : one.getD i 0 = x := by rw [List.getD_eq_getElem?_getD,hx]; rfl
      refine ⟨T1,_,rfl,SqT.of upd_same,rfl,_,_,rfl,_,_,rfl,rfl,?_⟩
      generalize upd _ T1 _ = H4 at hT4 s4 hl4 ⊢
      refine ⟨_,rfl,b,rfl,⟨_,SqT.of (s4 _ _ hb)⟩,for_enumT (K := K) (xs := nats other) (fun j σ H5 => Same H H5 ∧ (∃ x6 x7,σ = [some (.int ((p : Nat) : Int)),some (.ref a),some (.ref b),some (.ref l),some (.int ((i : Nat) : Int)),some (.int ((x : Nat) : Int)),x6,x7]) ∧ H5 l = some (.lst (nats (prL one other i j)))) ⟨s4,⟨_,_,rfl⟩,hl4⟩ (fun j σ H5 _ ⟨e,_⟩ => SqT.of (e _ _ hb)) ?_ ?_⟩
      · rintro j v T2 σ H5 hj ⟨s5,⟨x6,x7,rfl⟩,hl5⟩ hT2
        obtain ⟨y,hy,rfl⟩ := L2.nats_get hj
        have hjl := (List.getElem?_eq_some_iff.mp hy).1
        obtain ⟨w6,hT6⟩ := new_both (o := .tup [.int ((j : Nat) : Int),.int ((y : Nat) : Int)]) hT2
        have s6 := s5.trans w6
        have hl6 := w6 _ _ hl5
        have hye : other.getD j 0 = y := by rw [List.getD_eq_getElem?_getD,hy]; rfl
        have hx32 := ho x (List.mem_of_getElem? hx)
        have hy32 := ht y (List.mem_of_getElem? hy)
        refine ⟨T2,_,rfl,SqT.of upd_same,rfl,_,_,rfl,_,_,rfl,rfl,?_⟩
        generalize upd _ T2 _ = H6 at hT6 s6 hl6 ⊢
        have hij : i + j < one.length + other.length := by omega
        have hat : atI (nats (prL one other i j)) ((i + j : Nat) : Int) = some (.int ((prN one other i j (i + j) : Nat) : Int)) := by
          rw [nat_atQ (by rw [prL_len]; exact hij),prL_get hij]
        have eij : ((i : Nat) : Int) + ((j : Nat) : Int) = ((i + j : Nat) : Int) := by omega
        refine ⟨_,rfl,_,rfl,_,rfl,_,_,rfl,rfl,l,_,_,_,rfl,rfl,SqL.of hl6,by omega,by rw [eij]; exact hat,_,rfl,_,rfl,_,_,rfl,rfl,.inl ⟨by omega,by omega⟩,_,_,rfl,rfl,l,_,_,i + j,rfl,rfl,hl6,by rw [eij,nats_len,prL_len]; exact ixN_nat hij,?_⟩
        have key : (nats (prL one other i j)).set (i + j) (V.int (((prN one other i j (i + j) : Nat) : Int) + ((x : Nat) : Int) * ((y : Nat) : Int))) = nats (prL one other i (j + 1)) := by
          rw [← prL_step hil hjl,← nats_setQ,hxe,hye]
          simp
        refine ⟨same_upd s6 hl0,⟨_,_,rfl⟩,?_⟩
        rw [upd_same]
        exact congrArg (fun z => some (HO.lst z)) key
      · rintro σ H5 ⟨s5,⟨x6,x7,rfl⟩,hl5⟩
        refine ⟨s5,⟨_,_,_,_,rfl⟩,?_⟩
        rw [nats_len,prL_row] at hl5
        exact hl5
    · rintro σ H3 ⟨s3,⟨x4,x5,x6,x7,rfl⟩,hl3⟩
      rw [nats_len] at hl3
      refine ⟨_,rfl,l,rfl,⟨_,SqL.of hl3⟩,comp_list (K := K) (xs := nats (prL one other one.length 0)) (fun i zs H4 => H4 = H3 ∧ zs = nats (((prL one other one.length 0).take i).map fun x => x % p)) ⟨rfl,rfl⟩ (fun i zs H4 _ ⟨e,_⟩ => SqL.of (e ▸ hl3)) ?_ ?_⟩
      · rintro i v zs H4 N hi ⟨rfl,rfl⟩ nx
        obtain ⟨x,hx,rfl⟩ := L2.nats_get hi
        have hil := (List.getElem?_eq_some_iff.mp hx).1
        rw [prL_len] at hil
        refine ⟨Weak.set (by intro v z; cases z),⟨_,rfl,_,rfl,_,_,rfl,rfl,(show (0 : Int) < ((p : Nat) : Int) by omega),?_,nx _ _ ⟨rfl,?_⟩⟩⟩
        · rw [nats_len,List.length_map,List.length_take]
          exact Nat.lt_of_le_of_lt (Nat.min_le_left ..) (Nat.lt_of_lt_of_le (show i < 40 by omega) (by decide))
        · rw [← nats_map_take (fun x => x % p) hx]
          rfl
      · rintro zs H4 ⟨rfl,rfl⟩
        rw [show (nats (prL one other one.length 0)).length = (prL one other one.length 0).length from nats_len _,List.take_length,pr_conv]
        have hcl : (convL p one other).length = one.length + other.length := by
          unfold convL
          rw [List.length_map,List.length_range]
        refine ⟨by rw [nats_len,hcl]; exact Nat.le_trans (show _ ≤ 40 by omega) (by decide),fun r hr' => ?_⟩
        have w5 := same_new (o := .lst (nats (convL p one other))) hr'
        refine ⟨r,convL p one other,rfl,upd_same,by omega,fun t H5 ht3 s5 h5 => ?_⟩
        exact q t H5 ((s3.trans w5).free ht3) ((s3.trans w5).trans s5) h5
theorem conv_len (p : Nat) (one other : List Nat) : (convL p one other).length = one.length + other.length := by
  unfold convL
  rw [List.length_map,List.length_range]
theorem conv_lt {p : Nat} (hp : 1 ≤ p) (one other : List Nat) : ∀ x ∈ trimL (convL p one other),x < p := by
  intro x hx
  have := trim_mem hx
  unfold convL at this
  obtain ⟨k,_,rfl⟩ := List.mem_map.mp this
  exact Nat.mod_lt _ hp
theorem conv_le (p : Nat) (one other : List Nat) : (trimL (convL p one other)).length ≤ one.length + other.length := by
  rw [← conv_len p one other]
  exact trim_le _
def digN (p : Nat) : Nat → Nat → List Nat
  | 0,_ => []
  | n + 1,x => (x % p) :: digN p n (x / p)
theorem digN_len (p : Nat) : ∀ n x,(digN p n x).length = n
  | 0,_ => rfl
  | n + 1,x => by rw [digN,List.length_cons,digN_len p n]
theorem digN_lt {p : Nat} (hp : 0 < p) : ∀ n x,∀ y ∈ digN p n x,y < p
  | 0,_,y,h => by cases h
  | n + 1,x,y,h => by
    rcases List.mem_cons.mp h with rfl | h
    · exact Nat.mod_lt _ hp
    · exact digN_lt hp n _ y h
theorem digN_snoc (p : Nat) : ∀ n x,digN p (n + 1) x = digN p n x ++ [x / p ^ n % p]
  | 0,x => by simp [digN]
  | n + 1,x => by
    rw [digN,digN_snoc p n (x / p),digN,List.cons_append,Nat.div_div_eq_div_mul,Nat.pow_succ,Nat.mul_comm p]
theorem digN_top {p : Nat} (hp : 2 ≤ p) : ∀ s x,x < p ^ s → digN p (s + 1) (p ^ s + x) = digN p s x ++ [1]
  | 0,x,h => by
    have : x = 0 := by simpa using h
    subst this
    simp [digN]
    exact Nat.mod_eq_of_lt (by omega)
  | s + 1,x,h => by
    have hp0 : 0 < p := by omega
    have h2 : x / p < p ^ s := by
      rw [Nat.div_lt_iff_lt_mul hp0,← Nat.pow_succ]
      exact h
    have e1 : (p ^ (s + 1) + x) % p = x % p := by
      rw [Nat.pow_succ,Nat.mul_add_mod_self_right]
    have e2 : (p ^ (s + 1) + x) / p = p ^ s + x / p := by
      rw [Nat.pow_succ,Nat.mul_comm,Nat.mul_add_div hp0]
    rw [digN,e1,e2,digN_top hp s (x / p) h2]
    rfl
def fac (p s x : Nat) : List Nat := digN p s x ++ [1]
def Dv (p : Nat) (row : List Nat) : Option (List Nat) → Prop
  | none => ∀ s x,1 ≤ s → s ≤ (row.length - 1) / 2 → x < p ^ s → trimL (restF p (fac p s x) row) ≠ []
  | some b => ∃ s x,1 ≤ s ∧ s ≤ (row.length - 1) / 2 ∧ x < p ^ s ∧ b = fac p s x ∧ trimL (restF p b row) = []
def DvAt (H : Hp) (v : V) : Option (List Nat) → Prop
  | none => v = .non
  | some b => ∃ t,v = .ref t ∧ H t = some (.tup (nats b))
theorem pow_le6 {p s : Nat} (hp : p ≤ 31) (hs : s ≤ 6) : p ^ s ≤ 887503681 := by
  have h1 : p ^ s ≤ 31 ^ s := Nat.pow_le_pow_left hp s
  have h2 : 31 ^ s ≤ 31 ^ 6 := Nat.pow_le_pow_right (by decide) hs
  exact Nat.le_trans h1 (Nat.le_trans h2 (by decide))
theorem pow_le {p s : Nat} (hp : p ≤ 31) (hs : s ≤ 4) : p ^ s ≤ 923521 := by
  have h1 : p ^ s ≤ 31 ^ s := Nat.pow_le_pow_left hp s
  have h2 : 31 ^ s ≤ 31 ^ 4 := Nat.pow_le_pow_right (by decide) hs
  exact Nat.le_trans h1 (Nat.le_trans h2 (by decide))
def spDv : Sp := fun vs H Q _ => ∃ (a : Addr) (p : Nat) (row : List Nat),vs = [.int ((p : Nat) : Int),.ref a] ∧ H a = some (.tup (nats row)) ∧ 2 ≤ p ∧ p ≤ 31 ∧ row.length ≤ 9 ∧ (∀ x ∈ row,x < 32) ∧ ∀ v o H',Same H H' → Dv p row o → DvAt H' v o → Q v H'
def spDigits : Sp := fun vs H Q _ => ∃ (p n s : Nat),vs = [.int ((p : Nat) : Int),.int ((n : Nat) : Int)] ∧ 2 ≤ p ∧ p ≤ 31 ∧ s ≤ 4 ∧ p ^ s ≤ n ∧ n < 2 * p ^ s ∧ ∀ (t : Addr) (H' : Hp),H t = none → Same H H' → H' t = some (.tup (nats (digN p (s + 1) n))) → Q (.ref t) H'
theorem scDigitsOf : FnScope ["p", "number", "digits", "left"] ["p", "number"] (defScope sDigitsOf) := ⟨rfl,rfl,rfl,by decide +kernel,rfl,by decide +kernel,by decide +kernel⟩
theorem ok_digits {f : Addr} {fd : FuncData} (F : Fun K "digits_of" "digits_of" sDigitsOf f fd) (T : TxtB mg) : FnOk P w K mg base CX0 1 f fd ["p", "number"] spDigits := by
  refine F.okQ scDigitsOf (fun vs H Q E h => ?_) (fun cdv A outer s H vs Q E hr h => ?_)
  · obtain ⟨p,n,s,rfl,_⟩ := h
    rfl
  · obtain ⟨p,n,k,rfl,hp2,hp31,hk4,hn1,hn2,q⟩ := h
    refine ⟨_,(qss_cons (qs_set (i := 2) scDigitsOf.nd rfl (Or.inl rfl) (qe_lst qa_nil))
      (qss_cons (qs_set (i := 3) scDigitsOf.nd rfl (Or.inl rfl) (qv 1))
      (qss_cons (qs_while PassesOwn.never (qt_cmpR op_gt (qv 3) qe_int (nomark _))
        (qss_cons (qs_expr (qe_bm PySem.F.plainAttrs_list PySem.F.slot_list_append PySem.F.type_list_append mt_append (qv 2) (qac (qe_op op_mod (qv 3) (qv 0)) qa_nil)))
        (qss_one (qs_set (i := 3) scDigitsOf.nd rfl (Or.inl rfl) (qe_op op_fdiv (qv 3) (qv 0))))))
      (qss_one (qs_ret (qe_callTy call_tuple_of (by rfl) T.tup (by decide +kernel) (qac (qv 2) qa_nil))))))),?_⟩
    refine ⟨by show 0 ≤ sizeLine; decide,fun l hl => ⟨_,rfl,?_⟩⟩
    refine while_w (fun σ H2 => Same H H2 ∧ ∃ j : Nat,j ≤ k + 1 ∧ σ = [some (.int ((p : Nat) : Int)),some (.int ((n : Nat) : Int)),some (.ref l),some (.int ((n / p ^ j : Nat) : Int))] ∧ H2 l = some (.lst (nats (digN p j n))))
      (fun σ _ => match σ with | [_,_,_,some (.int m)] => m.toNat | _ => 0) ⟨same_new hl,0,by omega,by rw [Nat.pow_zero,Nat.div_one]; rfl,upd_same⟩ ?_
    rintro mm σ H2 ⟨s2,j,hj,rfl,hl2⟩ hmm
    refine ⟨_,rfl,_,_,rfl,rfl,_,rfl,?_⟩
    refine ite2 (fun h1 => WTurn.of ?_) (fun h1 => ?_)
    · have h1' : 0 < n / p ^ j := by
        have : (0 : Int) < ((n / p ^ j : Nat) : Int) := of_decide_eq_true h1
        omega
      have hjk : j ≤ k := by
        rcases Nat.lt_or_ge k j with z | z
        · exfalso
          have e : j = k + 1 := by omega
          subst e
          have : n / p ^ (k + 1) = 0 := by
            apply Nat.div_eq_of_lt
            rw [Nat.pow_succ]
            exact Nat.lt_of_lt_of_le hn2 (by rw [Nat.mul_comm]; exact Nat.mul_le_mul_left _ hp2)
          omega
        · exact z
      have e1 : ((n / p ^ j : Nat) : Int) % ((p : Nat) : Int) = ((n / p ^ j % p : Nat) : Int) := by simp
      have e2 : ((n / p ^ j : Nat) : Int) / ((p : Nat) : Int) = ((n / p ^ (j + 1) : Nat) : Int) := by
        rw [Nat.pow_succ,← Nat.div_div_eq_div_mul]
        simp
      refine ⟨_,rfl,.inl ⟨rfl,_,SqL.of hl2⟩,_,rfl,_,rfl,_,_,rfl,rfl,by omega,l,_,.int ((n / p ^ j % p : Nat) : Int),rfl,?_,hl2,by rw [nats_len,digN_len]; exact Nat.lt_of_le_of_lt (show j ≤ 5 by omega) (by decide),?_⟩
      · show [V.int (((n / p ^ j : Nat) : Int) % ((p : Nat) : Int))] = _
        rw [e1]
      refine ⟨_,rfl,_,rfl,_,_,rfl,rfl,⟨by omega,by omega⟩,?_⟩
      show (Same H _ ∧ ∃ j' : Nat,j' ≤ k + 1 ∧ [some (V.int ((p : Nat) : Int)),some (V.int ((n : Nat) : Int)),some (V.ref l),some (V.int (((n / p ^ j : Nat) : Int) / ((p : Nat) : Int)))] = _ ∧ _) ∧ (((n / p ^ j : Nat) : Int) / ((p : Nat) : Int)).toNat < mm
      rw [e2]
      refine ⟨⟨same_upd s2 hl,j + 1,by omega,rfl,?_⟩,?_⟩
      · rw [upd_same,digN_snoc,nats_snoc]
      · rw [hmm]
        show ((n / p ^ (j + 1) : Nat) : Int).toNat < ((n / p ^ j : Nat) : Int).toNat
        rw [Int.toNat_natCast,Int.toNat_natCast,Nat.pow_succ,← Nat.div_div_eq_div_mul]
        exact Nat.div_lt_self h1' (by omega)
    · have h1' : n / p ^ j = 0 := by
        have : ¬ (0 : Int) < ((n / p ^ j : Nat) : Int) := fun z => h1 (decide_eq_true z)
        generalize n / p ^ j = z at this ⊢
        omega
      have hjk : j = k + 1 := by
        rcases Nat.lt_or_ge k j with z | z
        · omega
        · exfalso
          have : 0 < n / p ^ j := Nat.div_pos (Nat.le_trans (Nat.pow_le_pow_right (by omega) z) hn1) (Nat.pow_pos (by omega))
          rw [h1'] at this
          exact Nat.lt_irrefl 0 this
      subst hjk
      exact ⟨_,rfl,l,_,rfl,.inl ⟨SqL.of hl2,fun t ht => q t _ (s2.free ht) (s2.trans (same_new ht)) upd_same⟩⟩
theorem fac_len (p s x : Nat) : (fac p s x).length = s + 1 := by
  unfold fac
  rw [List.length_append,digN_len]
  rfl
theorem half_int (n : Nat) : (((n : Nat) : Int) - 1) / 2 = (((n - 1) / 2 : Nat) : Int) ∨ ((((n : Nat) : Int) - 1) / 2).toNat = (n - 1) / 2 := by
  by_cases h : n = 0
  · subst h
    exact .inr (by decide)
  · exact .inl (by omega)
theorem scRowFactor : FnScope ["p", "row", "power", "higher", "number", "factor"] ["p", "row"] (defScope sRowFactor) := ⟨rfl,rfl,rfl,by decide +kernel,rfl,by decide +kernel,by decide +kernel⟩
theorem ok_factor {f : Addr} {fd : FuncData} (F : Fun K "row_factor" "row_factor" sRowFactor f fd) (T : TxtB mg) (pDigitsOf : Pm P w K mg base CX0 1 "digits_of" ["p", "number"] spDigits) (pRowRest : Pm P w K mg base CX0 2 "row_rest" ["p", "one", "by"] spRest) : FnOk P w K mg base CX0 3 f fd ["p", "row"] spDv := by
  refine F.okQ scRowFactor (fun vs H Q E h => ?_) (fun cdv A outer s H vs Q E hr2 h => ?_)
  · obtain ⟨a,p,row,rfl,_⟩ := h
    rfl
  · obtain ⟨a,p,row,rfl,ha,hp2,hp31,hr9,hrow,q⟩ := h
    have hr1 := hr2.mono (show 1 ≤ 2 by decide)
    refine ⟨_,(qss_cons (qs_set (i := 2) scRowFactor.nd rfl (Or.inl rfl) qe_int)
      (qss_cons (qs_for PassesOwn.never rfl (qi_range1 rfl T.range (qac (qe_op op_fdiv (qe_op op_sub (qe_callB call_len_seq (by rfl) T.len PySem.boot_len (qac (qv 1) qa_nil)) qe_int) qe_int) qa_nil)) (qg_name (i := 3) scRowFactor.nd rfl (Or.inl rfl))
        (qss_cons (qs_set (i := 2) scRowFactor.nd rfl (Or.inl rfl) (qe_op op_mul (qv 2) (qv 0)))
        (qss_one (qs_for PassesOwn.never rfl (qi_range2 rfl T.range (qac (qv 2) (qac (qe_op op_mul qe_int (qv 2)) qa_nil))) (qg_name (i := 4) scRowFactor.nd rfl (Or.inl rfl))
          (qss_cons (qs_set (i := 5) scRowFactor.nd rfl (Or.inl rfl) (qe_callP pDigitsOf hr1 rfl pass0 (qac (qv 0) (qac (qv 4) qa_nil))))
          (qss_one (qs_if (qt_cmpR (op_eqD hr2.units) (qe_callP pRowRest hr2 rfl pass0 (qac (qv 0) (qac (qv 1) (qac (qv 5) qa_nil)))) (qe_tup qa_nil) (nomark _)) (qss_one (qs_ret (qv 5))) qss_nil)))))))
      (qss_one (qs_ret qe_non)))),?_⟩
    have hM : ((((row.length : Nat) : Int) - 1) / 2).toNat = (row.length - 1) / 2 := by
      rcases half_int row.length with z | z
      · rw [z,Int.toNat_natCast]
      · exact z
    refine ⟨_,rfl,a,_,rfl,.inr (SqT.of ha),_,_,rfl,rfl,_,_,rfl,rfl,⟨by decide,by decide⟩,(((row.length : Nat) : Int) - 1) / 2,by rw [nats_len],by omega,by omega,?_⟩
    rw [hM]
    refine for_range (lo := 0) (n := (row.length - 1) / 2) (fun i σ H2 => Same H H2 ∧ (∃ x3 x4 x5,σ = [some (.int ((p : Nat) : Int)),some (.ref a),some (.int ((p ^ i : Nat) : Int)),x3,x4,x5]) ∧ ∀ s x,1 ≤ s → s ≤ i → x < p ^ s → trimL (restF p (fac p s x) row) ≠ []) ⟨Same.refl _,⟨none,none,none,rfl⟩,fun s x z1 z2 => by omega⟩ ?_ ?_
    · rintro i σ H2 hi ⟨s2,⟨x3,x4,x5,rfl⟩,hno⟩
      have hi4 : i + 1 ≤ 4 := by omega
      have hpw := pow_le hp31 (show i ≤ 4 by omega)
      have hpw1 := pow_le hp31 hi4
      have hps : ((p ^ i : Nat) : Int) * ((p : Nat) : Int) = ((p ^ (i + 1) : Nat) : Int) := by
        rw [Nat.pow_succ]
        simp
      refine ⟨_,rfl,_,rfl,_,_,rfl,rfl,.inl ⟨by omega,by omega⟩,?_⟩
      dsimp only
      rw [hps]
      refine ⟨_,rfl,_,rfl,_,_,rfl,rfl,.inl ⟨by decide,by decide⟩,((p ^ (i + 1) : Nat) : Int),2 * ((p ^ (i + 1) : Nat) : Int),rfl,⟨by omega,by omega,by omega,by omega⟩,?_⟩
      rw [show (2 * ((p ^ (i + 1) : Nat) : Int) - ((p ^ (i + 1) : Nat) : Int)).toNat = p ^ (i + 1) by omega]
      refine for_range (lo := ((p ^ (i + 1) : Nat) : Int)) (n := p ^ (i + 1)) (fun x σ H3 => Same H H3 ∧ (∃ x3 x4 x5,σ = [some (.int ((p : Nat) : Int)),some (.ref a),some (.int ((p ^ (i + 1) : Nat) : Int)),x3,x4,x5]) ∧ ∀ y,y < x → trimL (restF p (fac p (i + 1) y) row) ≠ []) ⟨s2,⟨_,_,_,rfl⟩,fun y z => by omega⟩ ?_ ?_
      · rintro x σ H3 hx ⟨s3,⟨x3,x4,x5,rfl⟩,hno2⟩
        rw [show ((p ^ (i + 1) : Nat) : Int) + ((x : Nat) : Int) = ((p ^ (i + 1) + x : Nat) : Int) by omega]
        refine ⟨_,rfl,_,rfl,p,p ^ (i + 1) + x,i + 1,rfl,hp2,hp31,hi4,by omega,by omega,fun t H4 ht s4 ht4 => ?_⟩
        rw [show digN p (i + 1 + 1) (p ^ (i + 1) + x) = fac p (i + 1) x from digN_top hp2 (i + 1) x hx] at ht4
        refine ⟨_,rfl,_,rfl,_,rfl,a,t,p,row,fac p (i + 1) x,rfl,(s3.trans s4) _ _ ha,ht4,by omega,hp31,by omega,by rw [fac_len]; omega,by rw [fac_len]; omega,hrow,fun u H5 hu s5 hu5 => ?_⟩
        refine ⟨by show 0 ≤ sizeLine; decide,fun e he => ?_⟩
        have w6 := same_new (o := .tup []) he
        refine ⟨dTup (trimL (restF p (fac p (i + 1) x) row)),dTup [],isD_tupQ (w6 _ _ hu5),isD_tupQ upd_same,shaped_tupQ _,shaped_tupQ _,_,rfl,?_⟩
        show if PyData.eqv (dTup (trimL (restF p (fac p (i + 1) x) row))) (dTup []) = true then _ else _
        rw [eqv_tupQ]
        have s35 := s3.trans (s4.trans (s5.trans w6))
        refine ite2 (fun h1 => ?_) (fun h1 => ?_)
        · exact ⟨_,rfl,q _ (some (fac p (i + 1) x)) _ s35 ⟨i + 1,x,by omega,by omega,hx,rfl,of_decide_eq_true h1⟩ ⟨t,rfl,(s5.trans w6) _ _ ht4⟩⟩
        · refine ⟨s35,⟨_,_,_,rfl⟩,fun y hy => ?_⟩
          by_cases e2 : y = x
          · subst e2
            exact fun z => h1 (decide_eq_true z)
          · exact hno2 y (by omega)
      · rintro σ H3 ⟨s3,⟨x3,x4,x5,rfl⟩,hno2⟩
        refine ⟨s3,⟨_,_,_,rfl⟩,fun s x z1 z2 z3 => ?_⟩
        by_cases e2 : s = i + 1
        · subst e2
          exact hno2 x z3
        · exact hno s x z1 (by omega) z3
    · rintro σ H2 ⟨s2,⟨x3,x4,x5,rfl⟩,hno⟩
      exact q _ none _ s2 hno rfl
theorem Dv.sides {p : Nat} {row : List Nat} {b : List Nat} (h : Dv p row (some b)) : ¬ Dv p row none := by
  obtain ⟨s,x,h1,h2,h3,rfl,h4⟩ := h
  exact fun z => z s x h1 h2 h3 h4
def spMustN : Sp := fun vs H Q _ => ∃ i : Int,vs = [.int i] ∧ Q .non H
def spFromN : Sp := fun vs H Q _ => ∃ m i : Int,vs = [.int m,.int i] ∧ m ≤ i ∧ Q .non H
def spPrimesN : Sp := fun vs H Q _ => ∃ n : Nat,vs = [.int (n : Nat)] ∧ 1 ≤ n ∧ n < 2 ^ 60 ∧ ∀ l ws L H',H l = none → Same H H' → H' l = some (.lst ws) → TupsAt H' ws L → EM.Fac n L → Q (.ref l) H'
theorem scMust : FnScope ["thing"] ["thing"] (defScope sMust) := ⟨rfl,rfl,rfl,by decide +kernel,rfl,by decide +kernel,by decide +kernel⟩
theorem ok_mustN {f : Addr} {fd : FuncData} (F : Fun K "must_be_whole" "must_be_whole" sMust f fd) (pWhole : Pm P w K mg base CX0 1 "is_whole" ["thing"] (spWhole K)) : FnOk P w K mg base CX0 2 f fd ["thing"] spMustN := by
  refine F.okQ scMust (fun vs H Q E h => ?_) (fun cdv A outer s H vs Q E hr h => ?_)
  · obtain ⟨i,rfl,_⟩ := h
    rfl
  · obtain ⟨i,rfl,q⟩ := h
    refine ⟨_,(qss_one (qs_if (qt_not (qt_val (qe_callP pWhole hr rfl pass0 (qac (qv 0) qa_nil)))) qss_never qss_nil)),?_⟩
    exact ⟨_,rfl,.int i,true,rfl,.int i,true,rfl,iteF q⟩
theorem scFrom : FnScope ["least", "thing"] ["least", "thing"] (defScope sFrom) := ⟨rfl,rfl,rfl,by decide +kernel,rfl,by decide +kernel,by decide +kernel⟩
theorem ok_fromN {f : Addr} {fd : FuncData} (F : Fun K "must_be_from" "must_be_from" sFrom f fd) (pMust : Pm P w K mg base CX0 2 "must_be_whole" ["thing"] spMustN) : FnOk P w K mg base CX0 3 f fd ["least", "thing"] spFromN := by
  refine F.okQ scFrom (fun vs H Q E h => ?_) (fun cdv A outer s H vs Q E hr h => ?_)
  · obtain ⟨m,i,rfl,_⟩ := h
    rfl
  · obtain ⟨m,i,rfl,hi,q⟩ := h
    refine ⟨_,qss_cons (qs_expr (qe_callP pMust hr rfl pass0 (qac (qv 1) qa_nil))) (qss_one (qs_if (qt_cmpR op_lt (qv 1) (qv 0) (nomark _)) qss_never qss_nil)),?_⟩
    refine ⟨_,rfl,i,rfl,_,rfl,_,rfl,_,_,rfl,rfl,_,rfl,?_⟩
    rw [decide_eq_false (by omega)]
    exact iteF q
theorem scPrimes : FnScope ["n", "found", "left", "p", "often"] ["n"] (defScope sPrimes) := ⟨rfl,rfl,rfl,by decide +kernel,rfl,by decide +kernel,by decide +kernel⟩
theorem ok_primes {f fF : Addr} {fd fdF : FuncData} (F : Fun K "primes_of" "primes_of" sPrimes f fd) (FF : Fun K "must_be_from" "must_be_from" sFrom fF fdF) (bF : Binds K fdF ["least", "thing"] []) (mF : mg "must_be_from" = some (.ref fF))
    (GF : FnOk P w K mg base CX0 3 fF fdF ["least", "thing"] spFromN) : FnOk P w K mg base CX0 4 f fd ["n"] spPrimesN := by
  refine F.okQ scPrimes (fun vs H Q E h => ?_) (fun cdv A outer s H vs Q E hr h => ?_)
  · obtain ⟨n,rfl,_⟩ := h; rfl
  · refine ⟨_,qss_cons (qs_expr (qe_call GF hr rfl mF FF.kp bF .nil pass0 (qac qe_int (qac (qv 0) qa_nil))))
      ((qss_cons (qs_set (i := 1) scPrimes.nd rfl (Or.inl rfl) (qe_lst qa_nil))
      (qss_cons (qs_set (i := 2) scPrimes.nd rfl (Or.inl rfl) (qv 0))
      (qss_cons (qs_set (i := 3) scPrimes.nd rfl (Or.inl rfl) qe_int)
      (qss_cons (qs_while PassesOwn.never (qt_cmpR op_le (qe_op op_mul (qv 3) (qv 3)) (qv 2) (nomark _))
        (qss_cons (qs_set (i := 4) scPrimes.nd rfl (Or.inl rfl) qe_int)
        (qss_cons (qs_while PassesOwn.never (qt_cmpR op_eq (qe_op op_mod (qv 2) (qv 3)) qe_int (nomark _))
          (qss_cons (qs_set (i := 2) scPrimes.nd rfl (Or.inl rfl) (qe_op op_fdiv (qv 2) (qv 3)))
          (qss_one (qs_aug (i := 4) scPrimes.nd rfl (Or.inl rfl) qe_int ip_add))))
        (qss_cons (qs_if (qt_cmpR op_gt (qv 4) qe_int (nomark _)) (qss_one (qs_expr (qe_bm PySem.F.plainAttrs_list PySem.F.slot_list_append PySem.F.type_list_append mt_append (qv 1) (qac (qe_tup (qac (qv 3) (qac (qv 4) qa_nil))) qa_nil)))) qss_nil)
        (qss_one (qs_aug (i := 3) scPrimes.nd rfl (Or.inl rfl) qe_int ip_add))))))
      (qss_cons (qs_if (qt_cmpR op_gt (qv 2) qe_int (nomark _)) (qss_one (qs_expr (qe_bm PySem.F.plainAttrs_list PySem.F.slot_list_append PySem.F.type_list_append mt_append (qv 1) (qac (qe_tup (qac (qv 2) (qac qe_int qa_nil))) qa_nil)))) qss_nil)
      (qss_one (qs_ret (qv 1))))))))),?_⟩
    obtain ⟨n,rfl,h1,hn,k⟩ := h
    · refine ⟨_,rfl,1,_,rfl,by omega,?_⟩
      refine ⟨by show 0 ≤ sizeLine; decide,fun l hl => ?_⟩
      refine ⟨_,rfl,?_⟩
      refine while_w (fun σ H2 => ∃ (p left : Nat) (ws : List V) (L : List (Nat × Nat)) (x : Option V),σ = [some (.int (n : Nat)),some (.ref l),some (.int (left : Nat)),some (.int (p : Nat)),x] ∧
          EM.FacTo n p left L ∧ Same H H2 ∧ H2 l = some (.lst ws) ∧ TupsAt H2 ws L ∧ p ≤ 2 ^ 31)
        (fun σ _ => match σ with | [_,_,some (.int left),some (.int p),_] => (left - p).toNat | _ => 0)
        ⟨2,n,[],[],none,rfl,EM.FacTo.start h1,same_new hl,upd_same,trivial,by decide⟩ ?_
      rintro m σ H2 ⟨p,left,ws,L,x,rfl,F2,s2,hl2,t2,hp31⟩ hm
      refine ⟨_,rfl,_,rfl,_,_,rfl,rfl,.inl ⟨by omega,by omega⟩,_,rfl,_,_,rfl,rfl,_,rfl,?_⟩
      refine ite2 (fun hc => WTurn.of ?_) (fun hc => ?_)
      · have hc' : p * p ≤ left := by
          have := of_decide_eq_true hc
          exact Int.ofNat_le.mp (by rw [Int.natCast_mul]; exact this)
        have hp30 := EM.root_lt hc' (Nat.lt_of_le_of_lt F2.le hn)
        have h2p := EM.two_le_self F2.two hc'
        have htwo := F2.two
        -- the inner loop
        refine while_w (fun σ H3 => H3 = H2 ∧ ∃ (lf of : Nat),σ = [some (.int (n : Nat)),some (.ref l),some (.int (lf : Nat)),some (.int (p : Nat)),some (.int (of : Nat))] ∧ left = lf * p ^ of)
          (fun σ _ => match σ with | [_,_,some (.int lf),_,_] => lf.toNat | _ => 0)
          ⟨rfl,left,0,rfl,by rw [Nat.pow_zero,Nat.mul_one]⟩ ?_
        rintro m' σ H3 ⟨rfl,lf,of,rfl,hlf⟩ hm'
        have hlf0 : 1 ≤ lf := by
          rcases Nat.eq_zero_or_pos lf with z | z
          · have := F2.pos
            rw [hlf,z,Nat.zero_mul] at this
            omega
          · exact z
        refine ⟨_,rfl,_,rfl,_,_,rfl,rfl,by omega,rfl,_,rfl,?_⟩
        refine ite2 (fun hd => WTurn.of ?_) (fun hd => ?_)
        · have hd' : lf % p = 0 := by
            have := V.int.inj (of_decide_eq_true hd)
            omega
          have hdv : p ∣ lf := Nat.dvd_of_mod_eq_zero hd'
          refine ⟨_,rfl,_,rfl,_,_,rfl,rfl,⟨by omega,by omega⟩,_,rfl,_,_,rfl,rfl,⟨rfl,lf / p,of + 1,?_,?_⟩,?_⟩
          · rfl
          · rw [Nat.pow_succ,Nat.mul_comm (p ^ of) p,← Nat.mul_assoc,Nat.div_mul_cancel hdv]
            exact hlf
          · rw [hm']
            show ((lf : Int) / (p : Int)).toNat < (lf : Int).toNat
            have e : (lf : Int) / (p : Int) = ((lf / p : Nat) : Int) := rfl
            rw [e]
            have := Nat.div_lt_self hlf0 (show 1 < p by omega)
            omega
        · have hnd : ¬ p ∣ lf := fun z => hd (by
            have := Nat.mod_eq_zero_of_dvd z
            refine decide_eq_true (congrArg V.int ?_)
            omega)
          refine ⟨_,rfl,_,_,rfl,rfl,_,rfl,?_⟩
          refine ite2 (fun ho => ?_) (fun ho => ?_)
          · have ho' : 1 ≤ of := by
              have := of_decide_eq_true ho
              omega
            have F3 := F2.some hlf ho' hnd
            refine ⟨_,rfl,.inl ⟨rfl,_,SqL.of hl2⟩,_,rfl,_,rfl,by show 2 ≤ sizeLine; decide,fun t ht => ?_⟩
            have nlt : l ≠ t := ne_of_none hl2 ht
            refine ⟨l,ws,_,rfl,rfl,by rw [upd_ne nlt]; exact hl2,?_,?_⟩
            · rw [t2.len]
              exact Nat.lt_trans (F2.short hn) (by decide)
            refine ⟨_,rfl,_,_,rfl,rfl,⟨p + 1,lf,ws ++ [.ref t],L ++ [(p,of)],some (.int (of : Nat)),?_,F3,?_,upd_same,?_,by omega⟩,?_⟩
            · rfl
            · exact same_upd (s2.trans (same_new ht)) hl
            · refine TupsAt.upd (ys := ws) (by rw [upd_ne nlt]; exact hl2) (TupsAt.snoc (x := (p,of)) upd_same (t2.same (same_new ht)))
            · rw [hm]
              show ((lf : Int) - ((p : Int) + 1)).toNat < ((left : Int) - (p : Int)).toNat
              have : lf ≤ left := hlf ▸ Nat.le_mul_of_pos_right _ (Nat.pow_pos (by omega))
              omega
          · have ho' : of = 0 := by
              have : ¬ (0 < (of : Int)) := fun z => ho (decide_eq_true z)
              omega
            subst ho'
            rw [Nat.pow_zero,Nat.mul_one] at hlf
            subst hlf
            refine ⟨_,rfl,_,_,rfl,rfl,⟨p + 1,left,ws,L,_,rfl,F2.none hnd,s2,hl2,t2,by omega⟩,?_⟩
            rw [hm]
            show ((left : Int) - ((p : Int) + 1)).toNat < ((left : Int) - (p : Int)).toNat
            omega
      · have hc' : left < p * p := by
          have h3 : ¬ ((p : Int) * (p : Int) ≤ (left : Int)) := fun z => hc (decide_eq_true z)
          refine Nat.lt_of_not_le fun z => h3 ?_
          rw [← Int.natCast_mul]
          exact Int.ofNat_le.mpr z
        refine ⟨_,rfl,_,_,rfl,rfl,_,rfl,?_⟩
        refine ite2 (fun ho => ?_) (fun ho => ?_)
        · have ho' : 1 < left := by
            have := of_decide_eq_true ho
            omega
          have F3 := F2.last hc' ho'
          refine ⟨_,rfl,.inl ⟨rfl,_,SqL.of hl2⟩,_,rfl,by show 2 ≤ sizeLine; decide,fun t ht => ?_⟩
          have nlt : l ≠ t := ne_of_none hl2 ht
          refine ⟨l,ws,_,rfl,rfl,by rw [upd_ne nlt]; exact hl2,?_,?_⟩
          · rw [t2.len]
            exact Nat.lt_trans (F2.short hn) (by decide)
          refine ⟨_,rfl,k l (ws ++ [.ref t]) (L ++ [(left,1)]) _ hl (same_upd (s2.trans (same_new ht)) hl) upd_same ?_ F3⟩
          exact TupsAt.upd (ys := ws) (by rw [upd_ne nlt]; exact hl2) (TupsAt.snoc (x := (left,1)) upd_same (t2.same (same_new ht)))
        · have ho' : ¬ 1 < left := fun z => ho (decide_eq_true (by omega))
          exact ⟨_,rfl,k l ws L H2 hl s2 hl2 t2 (F2.done ho')⟩
theorem scIsPrime : FnScope ["p"] ["p"] (defScope sIsPrime) := ⟨rfl,rfl,rfl,by decide +kernel,rfl,by decide +kernel,by decide +kernel⟩
theorem ok_isprime {f : Addr} {fd : FuncData} (F : Fun K "is_prime" "is_prime" sIsPrime f fd) (pPrimes : Pm P w K mg base CX0 4 "primes_of" ["n"] spPrimesN) : FnOk P w K mg base CX0 5 f fd ["p"] spIsPrime := by
  refine F.okQ scIsPrime (fun vs H Q E h => ?_) (fun cdv A outer s H vs Q E hr h => ?_)
  · obtain ⟨i,rfl,_⟩ := h
    rfl
  · obtain ⟨i,rfl,hi,k⟩ := h
    refine ⟨_,(qss_one (qs_ret (qe_and (qe_cmpR op_gt (qv 0) qe_int (nomark _)) (qe_one (qe_cmpR (op_eqD hr.units) (qe_callP pPrimes hr rfl pass0 (qac (qv 0) qa_nil)) (qe_lst (qac (qe_tup (qac (qv 0) (qac qe_int qa_nil))) qa_nil)) (nomark _)))))),?_⟩
    refine ⟨_,rfl,_,_,rfl,rfl,_,rfl,?_⟩
    by_cases h1 : (1 : Int) < i
    · refine ifT h1 ?_
      obtain ⟨n,rfl⟩ : ∃ n : Nat,i = n := ⟨i.toNat,by omega⟩
      refine ⟨_,rfl,n,rfl,by omega,by omega,fun l ws L H1 hl s1 hl1 t1 F1 => ?_⟩
      refine ⟨_,rfl,by show 2 ≤ sizeLine; decide,fun t ht => ⟨by show 1 ≤ sizeLine; decide,fun m hm => ?_⟩⟩
      have s2 := same_new (o := .tup [.int (n : Nat),.int 1]) ht
      have s3 := same_new (o := .lst [.ref t]) hm
      have s4 := s2.trans s3
      refine ⟨.list (L.map ptup),.list ([(n,1)].map ptup),?_,?_,shaped_ptups _,shaped_ptups _,?_⟩
      · simp only [IsD]
        exact ⟨l,ws,rfl,SqL.of (s4 _ _ hl1),tups_isD (t1.same s4)⟩
      · simp only [IsD]
        exact ⟨m,[.ref t],rfl,SqL.of upd_same,tups_isD (ws := [.ref t]) (L := [(n,1)]) ⟨⟨t,rfl,s3 _ _ upd_same⟩,trivial⟩⟩
      · refine k _ _ (s1.trans s4) ?_
        show PyData.eqv _ _ = true ↔ _
        simp only [PyData.eqv,eqv_ptups,decide_eq_true_eq]
        constructor
        · rintro rfl
          exact ⟨n,rfl,F1.pr_of⟩
        · rintro ⟨p,e,hp⟩
          have : p = n := by omega
          subst this
          exact F1.of_pr hp
    · refine ifF h1 ?_
      refine k false H (Same.refl H) ⟨fun z => (nomatch z),fun ⟨p,e,hp⟩ => ?_⟩
      have := hp.1
      omega
def numL (p : Nat) : List Nat → Nat
  | [] => 0
  | d :: l => numL p l * p + d
theorem numL_lt {p : Nat} (hp : 1 ≤ p) : ∀ {l : List Nat},(∀ x ∈ l,x < p) → numL p l < p ^ l.length
  | [],_ => by simp [numL]
  | d :: l,h => by
    have h1 := numL_lt hp (l := l) fun x hx => h x (List.mem_cons_of_mem _ hx)
    have h2 := h d (List.mem_cons_self ..)
    rw [numL,List.length_cons,Nat.pow_succ]
    have h3 : (numL p l + 1) * p ≤ p ^ l.length * p := Nat.mul_le_mul_right _ h1
    rw [Nat.add_mul] at h3
    omega
def sumP (p : Nat) (c : Nat → Nat) : Nat → Nat
  | 0 => 0
  | i + 1 => sumP p c i + c i * p ^ i
theorem numL_snoc (p x : Nat) : ∀ l : List Nat,numL p (l ++ [x]) = numL p l + x * p ^ l.length
  | [] => by simp [numL]
  | d :: l => by
    rw [List.cons_append,numL,numL_snoc p x l,numL,List.length_cons,Nat.pow_succ,Nat.add_mul,Nat.mul_assoc]
    omega
theorem numL_map (p : Nat) (c : Nat → Nat) : ∀ d,numL p ((List.range d).map c) = sumP p c d
  | 0 => rfl
  | d + 1 => by
    rw [List.range_succ,List.map_append,List.map_cons,List.map_nil,numL_snoc,numL_map p c d,List.length_map,List.length_range]
    rfl
theorem sumP_lt {p : Nat} {c : Nat → Nat} {d : Nat} (hp : 1 ≤ p) (h : ∀ i,c i < p) : sumP p c d < p ^ d := by
  rw [← numL_map]
  have := numL_lt hp (l := (List.range d).map c) (fun x hx => by
    obtain ⟨i,_,rfl⟩ := List.mem_map.mp hx
    exact h i)
  rwa [List.length_map,List.length_range] at this
theorem sumP_tail {p : Nat} {c : Nat → Nat} {i : Nat} (h : ∀ j,i ≤ j → c j = 0) : ∀ k,sumP p c (i + k) = sumP p c i
  | 0 => rfl
  | k + 1 => by
    rw [← Nat.add_assoc,sumP,sumP_tail h k,h (i + k) (by omega),Nat.zero_mul,Nat.add_zero]
theorem drop_cons {l : List Nat} {i : Nat} (h : i < l.length) : l.drop i = l[i] :: l.drop (i + 1) := (List.getElem_cons_drop h).symm
def spNum : Sp := fun vs H Q _ => ∃ (a : Addr) (p : Nat) (l : List Nat),vs = [.int ((p : Nat) : Int),.ref a] ∧ H a = some (.tup (nats l)) ∧ 1 ≤ p ∧ p ≤ 31 ∧ l.length ≤ 6 ∧ (∀ x ∈ l,x < p) ∧ Q (.int ((numL p l : Nat) : Int)) H
theorem numL_drop_le {p : Nat} {l : List Nat} (hp : 1 ≤ p) (hp31 : p ≤ 31) (h6 : l.length ≤ 6) (hx : ∀ x ∈ l,x < p) (k : Nat) : numL p (l.drop k) ≤ 887503681 := by
  have h1 := numL_lt hp (l := l.drop k) fun x h => hx x (List.mem_of_mem_drop h)
  have h2 := pow_le6 (s := (l.drop k).length) hp31 (by rw [List.length_drop]; omega)
  omega
theorem scNumberOf : FnScope ["p", "digits", "number", "digit"] ["p", "digits"] (defScope sNumberOf) := ⟨rfl,rfl,rfl,by decide +kernel,rfl,by decide +kernel,by decide +kernel⟩
theorem ok_num {f : Addr} {fd : FuncData} (F : Fun K "number_of" "number_of" sNumberOf f fd) (hR : mg "reversed" = none) : FnOk P w K mg base CX0 1 f fd ["p", "digits"] spNum := by
  refine F.okQ scNumberOf (fun vs H Q E h => ?_) (fun cdv A outer s H vs Q E hr h => ?_)
  · obtain ⟨a,p,l,rfl,_⟩ := h
    rfl
  · obtain ⟨a,p,l,rfl,ha,hp1,hp31,h6,hx,q⟩ := h
    refine ⟨_,(qss_cons (qs_set (i := 2) scNumberOf.nd rfl (Or.inl rfl) qe_int)
      (qss_cons (qs_for PassesOwn.never rfl (qi_revT rfl hR (qac (qv 1) qa_nil)) (qg_name (i := 3) scNumberOf.nd rfl (Or.inl rfl))
        (qss_one (qs_set (i := 2) scNumberOf.nd rfl (Or.inl rfl) (qe_op op_add (qe_op op_mul (qv 2) (qv 0)) (qv 3)))))
      (qss_one (qs_ret (qv 2))))),?_⟩
    refine ⟨_,rfl,a,nats l,rfl,SqT.of ha,for_rev (K := K) (xs := nats l) (fun i σ H2 => H2 = H ∧ ∃ x3,σ = [some (.int ((p : Nat) : Int)),some (.ref a),some (.int ((numL p (l.drop (l.length - i)) : Nat) : Int)),x3]) ⟨rfl,none,by rw [Nat.sub_zero,List.drop_length]; rfl⟩ (fun i σ H2 _ ⟨e,_⟩ => SqT.of (e ▸ ha)) ?_ ?_⟩
    · rintro i v σ H2 hi ⟨rfl,x3,rfl⟩
      have hil : i < l.length := by
        have := (List.getElem?_eq_some_iff.mp hi).1
        rwa [List.length_reverse,nats_len] at this
      rw [List.getElem?_reverse (by rw [nats_len]; exact hil),nats_len] at hi
      obtain ⟨x,hx',rfl⟩ := L2.nats_get hi
      have hb := numL_drop_le hp1 hp31 h6 hx (l.length - i)
      have hxp := hx x (List.mem_of_getElem? hx')
      have e1 : l.drop (l.length - (i + 1)) = x :: l.drop (l.length - i) := by
        have z := drop_cons (l := l) (i := l.length - 1 - i) (by omega)
        rw [show l.length - 1 - i + 1 = l.length - i by omega] at z
        rw [show l.length - (i + 1) = l.length - 1 - i by omega,z]
        have := (List.getElem?_eq_some_iff.mp hx').2
        rw [this]
      refine ⟨_,rfl,_,rfl,_,_,rfl,rfl,.inl ⟨by omega,by omega⟩,_,rfl,_,_,rfl,rfl,rfl,some (.int ((x : Nat) : Int)),?_⟩
      rw [e1,numL]
      simp
    · rintro σ H2 ⟨rfl,x3,rfl⟩
      refine ⟨_,rfl,?_⟩
      rw [nats_len,Nat.sub_self,List.drop_zero]
      exact q
theorem digN_get (p : Nat) : ∀ (n x i : Nat),(digN p n x).getD i 0 = if i < n then x / p ^ i % p else 0
  | 0,x,i => by simp [digN]
  | n + 1,x,0 => by simp [digN]
  | n + 1,x,i + 1 => by
    rw [digN,List.getD_cons_succ,digN_get p n,Nat.div_div_eq_div_mul,Nat.pow_succ,Nat.mul_comm p]
    by_cases h : i < n
    · rw [if_pos h,if_pos (by omega)]
    · rw [if_neg h,if_neg (by omega)]
theorem tight_eq {l m : List Nat} (hl : Tight l) (hm : Tight m) (h : ∀ i,l.getD i 0 = m.getD i 0) : l = m := by
  have h1 := tight_le hl h
  have h2 := tight_le hm fun i => (h i).symm
  apply List.ext_getElem (by omega)
  intro i z1 z2
  have := h i
  rw [getD_in z1,getD_in z2] at this
  exact this
theorem dig_zero {p n j i : Nat} (h : n / p ^ j = 0) (hji : j ≤ i) : n / p ^ i % p = 0 := by
  have : n / p ^ i = 0 := by
    rw [show i = j + (i - j) by omega,Nat.pow_add,← Nat.div_div_eq_div_mul,h,Nat.zero_div]
  rw [this,Nat.zero_mod]
theorem dig_trim {p n j d : Nat} (hp : 2 ≤ p) (hd : n < p ^ d) (h0 : n / p ^ j = 0) (h1 : j = 0 ∨ n / p ^ (j - 1) ≠ 0) : digN p j n = trimL (digN p d n) := by
  have hdz : n / p ^ d = 0 := Nat.div_eq_of_lt hd
  refine tight_eq ?_ (trim_facts _ _ rfl).1 fun i => ?_
  · rcases h1 with rfl | h1
    · exact .inl rfl
    · right
      have hj : 1 ≤ j := by
        rcases Nat.eq_zero_or_pos j with z | z
        · subst z
          exact absurd h0 h1
        · exact z
      rw [digN_len,digN_get,if_pos (by omega)]
      have : n / p ^ (j - 1) < p := by
        rw [Nat.div_lt_iff_lt_mul (Nat.pow_pos (by omega))]
        have h2 : n < p ^ j := by
          rcases Nat.lt_or_ge n (p ^ j) with z | z
          · exact z
          · have := Nat.div_pos z (Nat.pow_pos (show 0 < p by omega))
            omega
        rw [Nat.mul_comm,← Nat.pow_succ,show (j - 1).succ = j by omega]
        exact h2
      rw [Nat.mod_eq_of_lt this]
      exact h1
  · rw [trim_at,digN_get,digN_get]
    by_cases c1 : i < j
    · by_cases c2 : i < d
      · rw [if_pos c1,if_pos c2]
      · rw [if_pos c1,if_neg c2,dig_zero hdz (by omega)]
    · by_cases c2 : i < d
      · rw [if_neg c1,if_pos c2,dig_zero h0 (by omega)]
      · rw [if_neg c1,if_neg c2]
def spDigG : Sp := fun vs H Q _ => ∃ (p n d : Nat),vs = [.int ((p : Nat) : Int),.int ((n : Nat) : Int)] ∧ 2 ≤ p ∧ p ≤ 31 ∧ d ≤ 6 ∧ n < p ^ d ∧ ∀ (t : Addr) (H' : Hp),H t = none → Same H H' → H' t = some (.tup (nats (trimL (digN p d n)))) → Q (.ref t) H'
theorem ok_digG {f : Addr} {fd : FuncData} (F : Fun K "digits_of" "digits_of" sDigitsOf f fd) (T : TxtB mg) : FnOk P w K mg base CX0 1 f fd ["p", "number"] spDigG := by
  refine F.okQ scDigitsOf (fun vs H Q E h => ?_) (fun cdv A outer s H vs Q E hr h => ?_)
  · obtain ⟨p,n,s,rfl,_⟩ := h
    rfl
  · obtain ⟨p,n,d,rfl,hp2,hp31,hd6,hnd,q⟩ := h
    refine ⟨_,(qss_cons (qs_set (i := 2) scDigitsOf.nd rfl (Or.inl rfl) (qe_lst qa_nil))
      (qss_cons (qs_set (i := 3) scDigitsOf.nd rfl (Or.inl rfl) (qv 1))
      (qss_cons (qs_while PassesOwn.never (qt_cmpR op_gt (qv 3) qe_int (nomark _))
        (qss_cons (qs_expr (qe_bm PySem.F.plainAttrs_list PySem.F.slot_list_append PySem.F.type_list_append mt_append (qv 2) (qac (qe_op op_mod (qv 3) (qv 0)) qa_nil)))
        (qss_one (qs_set (i := 3) scDigitsOf.nd rfl (Or.inl rfl) (qe_op op_fdiv (qv 3) (qv 0))))))
      (qss_one (qs_ret (qe_callTy call_tuple_of (by rfl) T.tup (by decide +kernel) (qac (qv 2) qa_nil))))))),?_⟩
    refine ⟨by show 0 ≤ sizeLine; decide,fun l hl => ⟨_,rfl,?_⟩⟩
    refine while_w (fun σ H2 => Same H H2 ∧ ∃ j : Nat,(j = 0 ∨ n / p ^ (j - 1) ≠ 0) ∧ j ≤ d ∧ σ = [some (.int ((p : Nat) : Int)),some (.int ((n : Nat) : Int)),some (.ref l),some (.int ((n / p ^ j : Nat) : Int))] ∧ H2 l = some (.lst (nats (digN p j n))))
      (fun σ _ => match σ with | [_,_,_,some (.int m)] => m.toNat | _ => 0) ⟨same_new hl,0,.inl rfl,by omega,by rw [Nat.pow_zero,Nat.div_one]; rfl,upd_same⟩ ?_
    rintro mm σ H2 ⟨s2,j,hj1,hj,rfl,hl2⟩ hmm
    refine ⟨_,rfl,_,_,rfl,rfl,_,rfl,?_⟩
    refine ite2 (fun h1 => WTurn.of ?_) (fun h1 => ?_)
    · have h1' : 0 < n / p ^ j := by
        have : (0 : Int) < ((n / p ^ j : Nat) : Int) := of_decide_eq_true h1
        omega
      have hjk : j < d := by
        rcases Nat.lt_or_ge j d with z | z
        · exact z
        · have e : j = d := by omega
          subst e
          rw [Nat.div_eq_of_lt hnd] at h1'
          exact absurd h1' (Nat.lt_irrefl _)
      have e1 : ((n / p ^ j : Nat) : Int) % ((p : Nat) : Int) = ((n / p ^ j % p : Nat) : Int) := by simp
      have e2 : ((n / p ^ j : Nat) : Int) / ((p : Nat) : Int) = ((n / p ^ (j + 1) : Nat) : Int) := by
        rw [Nat.pow_succ,← Nat.div_div_eq_div_mul]
        simp
      refine ⟨_,rfl,.inl ⟨rfl,_,SqL.of hl2⟩,_,rfl,_,rfl,_,_,rfl,rfl,by omega,l,_,.int ((n / p ^ j % p : Nat) : Int),rfl,?_,hl2,by rw [nats_len,digN_len]; exact Nat.lt_of_le_of_lt (show j ≤ 6 by omega) (by decide),?_⟩
      · show [V.int (((n / p ^ j : Nat) : Int) % ((p : Nat) : Int))] = _
        rw [e1]
      refine ⟨_,rfl,_,rfl,_,_,rfl,rfl,⟨by omega,by omega⟩,?_⟩
      show (Same H _ ∧ ∃ j' : Nat,(j' = 0 ∨ n / p ^ (j' - 1) ≠ 0) ∧ j' ≤ d ∧ [some (V.int ((p : Nat) : Int)),some (V.int ((n : Nat) : Int)),some (V.ref l),some (V.int (((n / p ^ j : Nat) : Int) / ((p : Nat) : Int)))] = _ ∧ _) ∧ (((n / p ^ j : Nat) : Int) / ((p : Nat) : Int)).toNat < mm
      rw [e2]
      refine ⟨⟨same_upd s2 hl,j + 1,.inr (by rw [Nat.add_sub_cancel]; exact Nat.ne_of_gt h1'),by omega,rfl,?_⟩,?_⟩
      · rw [upd_same,digN_snoc,nats_snoc]
      · rw [hmm]
        show ((n / p ^ (j + 1) : Nat) : Int).toNat < ((n / p ^ j : Nat) : Int).toNat
        rw [Int.toNat_natCast,Int.toNat_natCast,Nat.pow_succ,← Nat.div_div_eq_div_mul]
        exact Nat.div_lt_self h1' (by omega)
    · have h1' : n / p ^ j = 0 := by
        have : ¬ (0 : Int) < ((n / p ^ j : Nat) : Int) := fun z => h1 (decide_eq_true z)
        generalize n / p ^ j = z at this ⊢
        omega
      rw [dig_trim hp2 hnd h1' hj1] at hl2
      exact ⟨_,rfl,l,_,rfl,.inl ⟨SqL.of hl2,fun t ht => q t _ (s2.free ht) (s2.trans (same_new ht)) upd_same⟩⟩
theorem cint_mk {K : PySem.W.Frag} {x : Str} {n : Int} {t : Tok} (h : PySem.W.nsIn K mainGlobals x = some (some (.int n t))) : ∃ t,PySem.W.nsIn K mainGlobals x = some (some (.int n t)) := ⟨t,h⟩
def cj (p : Nat) (sg : Int) (a b i : Nat) : Nat := ((((a / p ^ i : Nat) : Int) + sg * ((b / p ^ i : Nat) : Int)) % ((p : Nat) : Int)).toNat
theorem cj_int {p : Nat} (hp : 1 ≤ p) (sg : Int) (a b i : Nat) : (((a / p ^ i : Nat) : Int) + sg * ((b / p ^ i : Nat) : Int)) % ((p : Nat) : Int) = ((cj p sg a b i : Nat) : Int) ∧ cj p sg a b i < p := by
  unfold cj
  generalize ((a / p ^ i : Nat) : Int) + sg * ((b / p ^ i : Nat) : Int) = z
  have h1 := Int.emod_nonneg z (show ((p : Nat) : Int) ≠ 0 by omega)
  have h2 := Int.emod_lt_of_pos z (show (0 : Int) < ((p : Nat) : Int) by omega)
  exact ⟨by omega,by omega⟩
theorem div_zero_of {p n j i : Nat} (h : n / p ^ j = 0) (hji : j ≤ i) : n / p ^ i = 0 := by
  rw [show i = j + (i - j) by omega,Nat.pow_add,← Nat.div_div_eq_div_mul,h,Nat.zero_div]
theorem cj_zero {p : Nat} {sg : Int} {a b j i : Nat} (h1 : a / p ^ j = 0) (h2 : b / p ^ j = 0) (hji : j ≤ i) : cj p sg a b i = 0 := by
  unfold cj
  rw [div_zero_of h1 hji,div_zero_of h2 hji]
  simp
def joinV (p : Nat) (sg : Int) (d a b : Nat) : Nat := sumP p (cj p sg a b) d
theorem joinV_lt {p : Nat} {sg : Int} {d a b : Nat} (hp : 1 ≤ p) : joinV p sg d a b < p ^ d := sumP_lt hp fun i => (cj_int hp sg a b i).2
def spJoin : Sp := fun vs H Q _ => ∃ (p d a b : Nat) (sg : Int),vs = [.int ((p : Nat) : Int),.int ((a : Nat) : Int),.int ((b : Nat) : Int),.int sg] ∧ 2 ≤ p ∧ p ≤ 31 ∧ d ≤ 6 ∧ a < p ^ d ∧ b < p ^ d ∧ (sg = 1 ∨ sg = -1) ∧ Q (.int ((joinV p sg d a b : Nat) : Int)) H
theorem scJoined : FnScope ["p", "a", "b", "sign", "number", "power", "one", "other"] ["p", "a", "b", "sign"] (defScope sJoined) := ⟨rfl,rfl,rfl,by decide +kernel,rfl,by decide +kernel,by decide +kernel⟩
theorem ok_join {f : Addr} {fd : FuncData} (F : Fun K "joined" "joined" sJoined f fd) : FnOk P w K mg base CX0 1 f fd ["p", "a", "b", "sign"] spJoin := by
  refine F.okQ scJoined (fun vs H Q E h => ?_) (fun cdv A outer s H vs Q E hr h => ?_)
  · obtain ⟨p,d,a,b,sg,rfl,_⟩ := h
    rfl
  · obtain ⟨p,d,a,b,sg,rfl,hp2,hp31,hd6,ha,hb,hsg,q⟩ := h
    refine ⟨_,(qss_cons (qs_set (i := 4) scJoined.nd rfl (Or.inl rfl) qe_int)
      (qss_cons (qs_set (i := 5) scJoined.nd rfl (Or.inl rfl) qe_int)
      (qss_cons (qs_set (i := 6) scJoined.nd rfl (Or.inl rfl) (qv 1))
      (qss_cons (qs_set (i := 7) scJoined.nd rfl (Or.inl rfl) (qv 2))
      (qss_cons (qs_while PassesOwn.never (QW.pt (qw_or (qt_cmpR op_gt (qv 6) qe_int (nomark _)) (qw_or1 (qt_cmpR op_gt (qv 7) qe_int (nomark _)))))
        (qss_cons (qs_aug (i := 4) scJoined.nd rfl (Or.inl rfl) (qe_op op_mul (qe_op op_mod (qe_op op_add (qv 6) (qe_op op_mul (qv 3) (qv 7))) (qv 0)) (qv 5)) ip_add)
        (qss_cons (qs_set (i := 5) scJoined.nd rfl (Or.inl rfl) (qe_op op_mul (qv 5) (qv 0)))
        (qss_cons (qs_set (i := 6) scJoined.nd rfl (Or.inl rfl) (qe_op op_fdiv (qv 6) (qv 0)))
        (qss_one (qs_set (i := 7) scJoined.nd rfl (Or.inl rfl) (qe_op op_fdiv (qv 7) (qv 0))))))))
      (qss_one (qs_ret (qv 4)))))))),?_⟩
    have hpd := pow_le6 hp31 hd6
    refine ⟨_,rfl,_,rfl,?_⟩
    refine while_w (fun σ H2 => H2 = H ∧ ∃ j : Nat,j ≤ d ∧ σ = [some (.int ((p : Nat) : Int)),some (.int ((a : Nat) : Int)),some (.int ((b : Nat) : Int)),some (.int sg),some (.int ((sumP p (cj p sg a b) j : Nat) : Int)),some (.int ((p ^ j : Nat) : Int)),some (.int ((a / p ^ j : Nat) : Int)),some (.int ((b / p ^ j : Nat) : Int))])
      (fun σ _ => match σ with | [_,_,_,_,_,_,some (.int m),some (.int n)] => m.toNat + n.toNat | _ => 0) ⟨rfl,0,by omega,by rw [Nat.pow_zero,Nat.div_one,Nat.div_one]; rfl⟩ ?_
    rintro mm σ H2 ⟨rfl,j,hj,rfl⟩ hmm
    have hpj := pow_le6 (s := j) hp31 (by omega)
    have step : 0 < a / p ^ j ∨ 0 < b / p ^ j → j < d := fun z => by
      rcases Nat.lt_or_ge j d with y | y
      · exact y
      · exfalso
        have e : j = d := by omega
        subst e
        rw [Nat.div_eq_of_lt ha,Nat.div_eq_of_lt hb] at z
        omega
    obtain ⟨e0,c1⟩ := cj_int (show 1 ≤ p by omega) sg a b j
    have eP : ((p ^ j : Nat) : Int) * ((p : Nat) : Int) = ((p ^ (j + 1) : Nat) : Int) := by rw [Nat.pow_succ]; simp
    have eA : ((a / p ^ j : Nat) : Int) / ((p : Nat) : Int) = ((a / p ^ (j + 1) : Nat) : Int) := by
      rw [Nat.pow_succ,← Nat.div_div_eq_div_mul]
      simp
    have eB : ((b / p ^ j : Nat) : Int) / ((p : Nat) : Int) = ((b / p ^ (j + 1) : Nat) : Int) := by
      rw [Nat.pow_succ,← Nat.div_div_eq_div_mul]
      simp
    have eS : ((sumP p (cj p sg a b) j : Nat) : Int) + ((cj p sg a b j : Nat) : Int) * ((p ^ j : Nat) : Int) = ((sumP p (cj p sg a b) (j + 1) : Nat) : Int) := by
      rw [sumP]
      simp
    have hb31 : b / p ^ j ≤ 887503681 := Nat.le_trans (Nat.div_le_self ..) (by omega)
    have fin : (0 < a / p ^ j ∨ 0 < b / p ^ j) → (H2 = H2 ∧ ∃ i : Nat,i ≤ d ∧ [some (.int ((p : Nat) : Int)),some (.int ((a : Nat) : Int)),some (.int ((b : Nat) : Int)),some (.int sg),some (V.int (((sumP p (cj p sg a b) j : Nat) : Int) + (((a / p ^ j : Nat) : Int) + sg * ((b / p ^ j : Nat) : Int)) % ((p : Nat) : Int) * ((p ^ j : Nat) : Int))),some (V.int (((p ^ j : Nat) : Int) * ((p : Nat) : Int))),some (V.int (((a / p ^ j : Nat) : Int) / ((p : Nat) : Int))),some (V.int (((b / p ^ j : Nat) : Int) / ((p : Nat) : Int)))] = [some (.int ((p : Nat) : Int)),some (.int ((a : Nat) : Int)),some (.int ((b : Nat) : Int)),some (.int sg),some (.int ((sumP p (cj p sg a b) i : Nat) : Int)),some (.int ((p ^ i : Nat) : Int)),some (.int ((a / p ^ i : Nat) : Int)),some (.int ((b / p ^ i : Nat) : Int))]) ∧
        (((a / p ^ j : Nat) : Int) / ((p : Nat) : Int)).toNat + (((b / p ^ j : Nat) : Int) / ((p : Nat) : Int)).toNat < mm := fun z => by
      have hjd := step z
      rw [e0,eS,eP,eA,eB]
      refine ⟨⟨rfl,j + 1,by omega,rfl⟩,?_⟩
      rw [hmm]
      show ((a / p ^ (j + 1) : Nat) : Int).toNat + ((b / p ^ (j + 1) : Nat) : Int).toNat < ((a / p ^ j : Nat) : Int).toNat + ((b / p ^ j : Nat) : Int).toNat
      rw [Int.toNat_natCast,Int.toNat_natCast,Int.toNat_natCast,Int.toNat_natCast,Nat.pow_succ,← Nat.div_div_eq_div_mul,← Nat.div_div_eq_div_mul]
      have l1 : ∀ x : Nat,x / p ≤ x := fun x => Nat.div_le_self ..
      have l2 : ∀ x : Nat,0 < x → x / p < x := fun x hx => Nat.div_lt_self hx (by omega)
      have := l1 (a / p ^ j)
      have := l1 (b / p ^ j)
      rcases z with z | z
      · have := l2 _ z
        omega
      · have := l2 _ z
        omega
    have hm64 : -(2 ^ 64 : Int) ≤ sg ∧ sg ≤ 2 ^ 64 := by rcases hsg with rfl | rfl <;> exact ⟨by decide,by decide⟩
    have hmod : (((a / p ^ j : Nat) : Int) + sg * ((b / p ^ j : Nat) : Int)) % ((p : Nat) : Int) = ((cj p sg a b j : Nat) : Int) := e0
    refine ⟨_,rfl,_,_,rfl,rfl,_,rfl,?_⟩
    by_cases h1 : 0 < a / p ^ j
    · refine ifT (by omega) (WTurn.of ?_)
      refine ⟨_,rfl,_,rfl,_,rfl,_,rfl,_,_,rfl,rfl,.inl ⟨by rcases hsg with rfl | rfl <;> decide,by rcases hsg with rfl | rfl <;> decide⟩,_,_,rfl,rfl,_,rfl,_,_,rfl,rfl,by omega,_,rfl,_,_,rfl,rfl,.inl ⟨by rw [hmod]; omega,by rw [hmod]; omega⟩,_,_,rfl,rfl,?_⟩
      exact ⟨_,rfl,_,rfl,_,_,rfl,rfl,.inl ⟨by omega,by omega⟩,_,rfl,_,rfl,_,_,rfl,rfl,⟨by omega,by omega⟩,_,rfl,_,rfl,_,_,rfl,rfl,⟨by omega,by omega⟩,fin (.inl h1)⟩
    · refine ifF (by omega) ⟨_,rfl,_,_,rfl,rfl,_,rfl,?_⟩
      by_cases h2 : 0 < b / p ^ j
      · refine ifT (by omega) (WTurn.of ?_)
        refine ⟨_,rfl,_,rfl,_,rfl,_,rfl,_,_,rfl,rfl,.inl ⟨by rcases hsg with rfl | rfl <;> decide,by rcases hsg with rfl | rfl <;> decide⟩,_,_,rfl,rfl,_,rfl,_,_,rfl,rfl,by omega,_,rfl,_,_,rfl,rfl,.inl ⟨by rw [hmod]; omega,by rw [hmod]; omega⟩,_,_,rfl,rfl,?_⟩
        exact ⟨_,rfl,_,rfl,_,_,rfl,rfl,.inl ⟨by omega,by omega⟩,_,rfl,_,rfl,_,_,rfl,rfl,⟨by omega,by omega⟩,_,rfl,_,rfl,_,_,rfl,rfl,⟨by omega,by omega⟩,fin (.inr h2)⟩
      · refine ifF (by omega) ⟨_,rfl,?_⟩
        have e : sumP p (cj p sg a b) j = joinV p sg d a b := by
          unfold joinV
          rw [show d = j + (d - j) by omega,sumP_tail (fun i hi => cj_zero (Nat.eq_zero_of_not_pos h1) (Nat.eq_zero_of_not_pos h2) hi)]
        rw [e]
        exact q
structure FOk (p : Nat) (row : List Nat) : Prop where
  p2 : 2 ≤ p
  p31 : p ≤ 31
  pr : EM.IsPr p
  l2 : 2 ≤ row.length
  l6 : row.length ≤ 6
  lt : ∀ x ∈ row,x < p
  top : row.getD (row.length - 1) 0 = 1
  few : p ^ (row.length - 1) ≤ 32
  no : Dv p row none
def spMRow : Sp := fun vs H Q _ => ∃ (a : Addr) (p : Nat) (row : List Nat),vs = [.int ((p : Nat) : Int),.ref a] ∧ H a = some (.tup (nats row)) ∧ FOk p row ∧ ∀ H',Same H H' → Q .non H'
theorem scMustBeRow : FnScope ["p", "row"] ["p", "row"] (defScope sMustBeRow) := ⟨rfl,rfl,rfl,by decide +kernel,rfl,by decide +kernel,by decide +kernel⟩
theorem rep_true (n : Nat) : (List.replicate n true).all id = true := by simp
theorem ok_mrow {f : Addr} {fd : FuncData} (F : Fun K "must_be_row" "must_be_row" sMustBeRow f fd) (T : TxtB mg) (pWhole : Pm P w K mg base CX0 1 "is_whole" ["thing"] (spWhole K)) (pIsBelow : Pm P w K mg base CX0 2 "is_below" ["thing", "many"] spBelow) : FnOk P w K mg base CX0 3 f fd ["p", "row"] spMRow := by
  refine F.okQ scMustBeRow (fun vs H Q E h => ?_) (fun cdv A outer s H vs Q E hr2 h => ?_)
  · obtain ⟨a,p,row,rfl,_⟩ := h
    rfl
  · obtain ⟨a,p,row,rfl,ha,O,q⟩ := h
    have hr1 := hr2.mono (show 1 ≤ 2 by decide)
    have hp2 := O.p2
    have hl2 := O.l2
    have hl6 := O.l6
    refine ⟨_,(qss_cons (qs_if (QW.pt (qw_or (qt_not (qt_val (qe_callP pWhole hr1 rfl pass0 (qac (qv 0) qa_nil)))) (qw_or (qt_cmpR op_lt (qv 0) qe_int (nomark _)) (qw_or (qt_not (qt_val (qe_callB call_isinst (by rfl) T.isi PyProof.Rows.boot_isinstance (qac (qv 1) (qac (qe_bltn (v := .ty "tuple") rfl T.tup (by decide +kernel) rfl) qa_nil))))) (qw_or1 (qt_cmpR op_lt (qe_callB call_len_seq (by rfl) T.len PySem.boot_len (qac (qv 1) qa_nil)) qe_int (nomark _))))))) qss_never qss_nil)
      (qss_one (qs_if (QW.pt (qw_or (qt_not (qt_val (qe_callB (call_all rfl) (by rfl) T.all (by decide +kernel) (qac (qe_comp (g := gName 0) (N := ["digit", "p"]) (src := [none,some 0]) rfl (comp_scope (defScope sMustBeRow) ["p", "row"] rfl rfl (by decide +kernel) rfl) (qi_tup (qv 1)) (fun _ _ _ _ _ => (qg_name (i := 0) (show (["digit", "p"] : List Str).Nodup by decide +kernel) rfl (Or.inl rfl) (Or.inr rfl))) (fun _ _ _ _ _ => qif_nil) (fun _ _ _ _ _ => (qe_callP pIsBelow hr2 rfl pass0 (qac (qv 0) (qac (qv 1) qa_nil))))) qa_nil)))) (qw_or1 (qt_cmpR op_ne (qe_ix ix_tup (qv 1) (qe_un un_neg qe_int) (fun _ _ => rfl)) qe_int (nomark _))))) qss_never qss_nil))),?_⟩
    refine ⟨_,rfl,.int _,true,rfl,.int _,true,rfl,iteF ?_⟩
    refine ⟨_,rfl,_,_,rfl,rfl,_,rfl,ifF (by omega) ?_⟩
    refine ⟨_,rfl,_,_,_,_,rfl,.tup ha,rel_ty (kit_tup_tup K),true,rfl,iteF ?_⟩
    refine ⟨_,rfl,a,_,rfl,.inr (SqT.of ha),_,_,rfl,rfl,_,rfl,ifF (by rw [nats_len]; omega) ?_⟩
    refine ⟨_,rfl,a,rfl,⟨_,SqT.of ha⟩,comp_tup (K := K) (xs := nats row) (fun i zs H2 => H2 = H ∧ zs = (List.replicate i true).map V.bl) ⟨rfl,rfl⟩ (fun i zs H2 _ ⟨e,_⟩ => SqT.of (e ▸ ha)) ?_ ?_⟩
    · rintro i v zs H2 N hi ⟨rfl,rfl⟩ nx
      obtain ⟨x,hx,rfl⟩ := L2.nats_get hi
      have hxp := O.lt x (List.mem_of_getElem? hx)
      have hil := (List.getElem?_eq_some_iff.mp hx).1
      refine ⟨Weak.set (by intro v z; cases z),⟨_,rfl,_,rfl,_,_,rfl,by omega,by omega,by rw [List.length_map,List.length_replicate]; exact Nat.lt_of_le_of_lt (show i ≤ 6 by omega) (by decide),nx _ _ ⟨rfl,?_⟩⟩⟩
      rw [List.replicate_succ',List.map_append]
      rfl
    · rintro zs H2 ⟨rfl,rfl⟩
      refine ⟨by rw [List.length_map,List.length_replicate,nats_len]; exact Nat.le_trans hl6 (by decide),fun r hr' => ?_⟩
      have w1 := same_new (o := .lst ((List.replicate (nats row).length true).map V.bl)) hr'
      refine ⟨r,_,rfl,SqL.of upd_same,_,rfl,?_⟩
      rw [rep_true]
      refine iteF ?_
      have hlast : atI (nats row) (-1) = some (.int 1) := by
        have h1 := List.dropLast_concat_getLast (l := row) (fun z => by rw [z] at hl2; simp at hl2)
        have h2 := O.top
        rw [List.getD_eq_getElem?_getD,List.getElem?_eq_getElem (show row.length - 1 < row.length by omega)] at h2
        have h3 : row.getLast (fun z => by rw [z] at hl2; simp at hl2) = 1 := by rw [List.getLast_eq_getElem]; exact h2
        rw [← h1,nats_snoc,atI_last,h3]
        rfl
      refine ⟨_,rfl,_,rfl,a,_,-1,.int 1,rfl,rfl,SqT.of (w1 _ _ ha),hlast,rfl,_,rfl,iteF (q _ w1)⟩
theorem not_wholeT {n c : Nat} (h : c < n) : ¬ (HT.sIx n 0 (some (((c : Nat) : Int) + 1)) = 0 ∧ HT.sIx n n none = n) := by
  rintro ⟨h1,_⟩
  rw [show ((c : Nat) : Int) + 1 = ((c + 1 : Nat) : Int) by omega,HT.sIx_nat] at h1
  omega
def spSize : Sp := fun vs H Q _ => ∃ (a : Addr) (p : Nat) (row : List Nat),vs = [.int ((p : Nat) : Int),.ref a] ∧ H a = some (.tup (nats row)) ∧ FOk p row ∧ ∀ H',Same H H' → Q (.int ((p ^ (row.length - 1) : Nat) : Int)) H'
theorem scSizeWithin : FnScope ["p", "row", "many", "digit"] ["p", "row"] (defScope sSizeWithin) := ⟨rfl,rfl,rfl,by decide +kernel,rfl,by decide +kernel,by decide +kernel⟩
theorem ok_size {f : Addr} {fd : FuncData} {t32 : Tok} (F : Fun K "size_within" "size_within" sSizeWithin f fd) (m32 : mg "MOST_NUMBERS" = some (.int 32 t32)) : FnOk P w K mg base CX0 1 f fd ["p", "row"] spSize := by
  refine F.okQ scSizeWithin (fun vs H Q E h => ?_) (fun cdv A outer s H vs Q E hr h => ?_)
  · obtain ⟨a,p,row,rfl,_⟩ := h
    rfl
  · obtain ⟨a,p,row,rfl,ha,O,q⟩ := h
    have hp2 := O.p2
    have hl2 := O.l2
    have hl6 := O.l6
    refine ⟨_,(qss_cons (qs_set (i := 2) scSizeWithin.nd rfl (Or.inl rfl) qe_int)
      (qss_cons (qs_for PassesOwn.never rfl (qi_tup (qe_slice sl_tup (qv 1) (qo_some qe_int) qo_none)) (qg_name (i := 3) scSizeWithin.nd rfl (Or.inl rfl))
        (qss_cons (qs_set (i := 2) scSizeWithin.nd rfl (Or.inl rfl) (qe_op op_mul (qv 2) (qv 0)))
        (qss_one (qs_if (qt_cmpR op_gt (qv 2) (qe_glob (v := .int 32) rfl m32 ⟨t32,rfl⟩) (nomark _)) qss_never qss_nil))))
      (qss_one (qs_ret (qv 2))))),?_⟩
    have hnw : ¬ (HT.sIx (nats row).length 0 (some 1) = 0 ∧ HT.sIx (nats row).length (nats row).length none = (nats row).length) := by
      rw [nats_len]
      exact not_wholeT (c := 0) (by omega)
    refine ⟨_,rfl,_,rfl,a,_,rfl,SqT.of ha,hnw,fun u hu => ?_⟩
    have hcut : cutV (nats row) (some 1) none = (nats row).drop 1 := cut_from (k := 1) (by rw [nats_len]; omega)
    have hcl : (cutV (nats row) (some 1) none).length = row.length - 1 := by rw [hcut,List.length_drop,nats_len]
    have w1 := same_new (o := .tup (cutV (nats row) (some 1) none)) hu
    have hu1 : (upd H u (.tup (cutV (nats row) (some 1) none))) u = some (.tup (cutV (nats row) (some 1) none)) := upd_same
    generalize upd H u (.tup (cutV (nats row) (some 1) none)) = H1 at w1 hu1 ⊢
    refine ⟨u,rfl,⟨_,SqT.of hu1⟩,for_tup (K := K) (a := u) (xs := cutV (nats row) (some 1) none) (fun i σ H2 => H2 = H1 ∧ i ≤ row.length - 1 ∧ ∃ x3,σ = [some (.int ((p : Nat) : Int)),some (.ref a),some (.int ((p ^ i : Nat) : Int)),x3]) ⟨rfl,by omega,none,by rw [Nat.pow_zero]; rfl⟩ (fun i σ H2 _ ⟨e,_⟩ => SqT.of (e ▸ hu1)) ?_ ?_⟩
    · rintro i v σ H2 hi ⟨rfl,hi',x3,rfl⟩
      have hil := (List.getElem?_eq_some_iff.mp hi).1
      rw [hcl] at hil
      have h32 : p ^ (i + 1) ≤ 32 := Nat.le_trans (Nat.pow_le_pow_right (by omega) (show i + 1 ≤ row.length - 1 by omega)) O.few
      have h32' : p ^ i ≤ 32 := Nat.le_trans (Nat.pow_le_pow_right (by omega) (show i ≤ row.length - 1 by omega)) O.few
      have hps : ((p ^ i : Nat) : Int) * ((p : Nat) : Int) = ((p ^ (i + 1) : Nat) : Int) := by
        rw [Nat.pow_succ]
        simp
      refine ⟨_,rfl,_,rfl,_,_,rfl,rfl,.inl ⟨by omega,by omega⟩,_,rfl,_,_,rfl,rfl,_,rfl,?_⟩
      rw [hps]
      exact ifF (by omega) ⟨rfl,by omega,_,rfl⟩
    · rintro σ H2 ⟨rfl,hi',x3,rfl⟩
      rw [hcl]
      exact ⟨_,rfl,q _ w1⟩
def spMP : Sp := fun vs H Q _ => ∃ p : Nat,vs = [.int ((p : Nat) : Int)] ∧ p ≤ 31 ∧ EM.IsPr p ∧ ∀ H',Same H H' → Q .non H'
theorem scMustBePrime : FnScope ["p"] ["p"] (defScope sMustBePrime) := ⟨rfl,rfl,rfl,by decide +kernel,rfl,by decide +kernel,by decide +kernel⟩
theorem ok_mp {f : Addr} {fd : FuncData} (F : Fun K "must_be_prime" "must_be_prime" sMustBePrime f fd) (pIsPrime : Pm P w K mg base CX0 5 "is_prime" ["p"] spIsPrime) : FnOk P w K mg base CX0 6 f fd ["p"] spMP := by
  refine F.okQ scMustBePrime (fun vs H Q E h => ?_) (fun cdv A outer s H vs Q E hr h => ?_)
  · obtain ⟨p,rfl,_⟩ := h
    rfl
  · obtain ⟨p,rfl,hp31,hpr,q⟩ := h
    refine ⟨_,(qss_one (qs_if (qt_not (qt_val (qe_callP pIsPrime hr rfl pass0 (qac (qv 0) qa_nil)))) qss_never qss_nil)),?_⟩
    refine ⟨_,rfl,_,rfl,by omega,fun b H' s' hb => ⟨b,rfl,?_⟩⟩
    have : b = true := hb.mpr ⟨p,rfl,hpr⟩
    subst this
    exact iteF (q _ s')
def spMNo : Sp := fun vs H Q _ => ∃ (a : Addr) (p : Nat) (row : List Nat),vs = [.int ((p : Nat) : Int),.ref a] ∧ H a = some (.tup (nats row)) ∧ FOk p row ∧ ∀ H',Same H H' → Q .non H'
theorem scMustBeNoProduct : FnScope ["p", "row", "factor"] ["p", "row"] (defScope sMustBeNoProduct) := ⟨rfl,rfl,rfl,by decide +kernel,rfl,by decide +kernel,by decide +kernel⟩
theorem ok_mno {f : Addr} {fd : FuncData} (F : Fun K "must_be_no_product" "must_be_no_product" sMustBeNoProduct f fd) (pRowFactor : Pm P w K mg base CX0 3 "row_factor" ["p", "row"] spDv) : FnOk P w K mg base CX0 4 f fd ["p", "row"] spMNo := by
  refine F.okQ scMustBeNoProduct (fun vs H Q E h => ?_) (fun cdv A outer s H vs Q E hr h => ?_)
  · obtain ⟨a,p,row,rfl,_⟩ := h
    rfl
  · obtain ⟨a,p,row,rfl,ha,O,q⟩ := h
    have hl6 := O.l6
    have hp31 := O.p31
    refine ⟨_,(qss_cons (qs_set (i := 2) scMustBeNoProduct.nd rfl (Or.inl rfl) (qe_callP pRowFactor hr rfl pass0 (qac (qv 0) (qac (qv 1) qa_nil))))
      (qss_one (qs_if (qt_cmpR op_notN (qv 2) qe_non (nomark _)) qss_never qss_nil))),?_⟩
    refine ⟨_,rfl,_,rfl,a,p,row,rfl,ha,O.p2,hp31,by omega,fun x hx => by have := O.lt x hx; omega,fun v o H' s' ho hv => ?_⟩
    cases o with
    | some b => exact absurd O.no ho.sides
    | none =>
      have : v = .non := hv
      subst this
      exact ⟨_,rfl,rfl,_,rfl,iteF (q _ s')⟩
structure FieldK (K : PySem.W.Frag) (C : Addr) : Prop where
  cl : Cls K C
  a1 : NoAttr K C "many"
  a2 : NoAttr K C "prime"
  a3 : NoAttr K C "row"
def fldF (n p : Nat) (r : Addr) : List (Str × V) := putF "row" (.ref r) (putF "prime" (.int ((p : Nat) : Int)) (putF "many" (.int ((n : Nat) : Int)) []))
theorem fld_many (n p : Nat) (r : Addr) : (fldF n p r).lookup ("many" : Str) = some (.int ((n : Nat) : Int)) := by
  unfold fldF
  rw [lookup_putF,if_neg (by decide +kernel),lookup_putF,if_neg (by decide +kernel),lookup_putF,if_pos rfl]
theorem fld_prime (n p : Nat) (r : Addr) : (fldF n p r).lookup ("prime" : Str) = some (.int ((p : Nat) : Int)) := by
  unfold fldF
  rw [lookup_putF,if_neg (by decide +kernel),lookup_putF,if_pos rfl]
theorem fld_row (n p : Nat) (r : Addr) : (fldF n p r).lookup ("row" : Str) = some (.ref r) := by
  unfold fldF
  rw [lookup_putF,if_pos rfl]
theorem fld_no (n p : Nat) (r : Addr) {m : Str} (h1 : ¬ m = "row") (h2 : ¬ m = "prime") (h3 : ¬ m = "many") : (fldF n p r).lookup m = none := by
  unfold fldF
  rw [lookup_putF,if_neg h1,lookup_putF,if_neg h2,lookup_putF,if_neg h3]
  rfl
def FieldAt (C : Addr) (H : Hp) (a : Addr) (p : Nat) (row : List Nat) : Prop := ∃ dx r,H a = some (.ins C dx (fldF (p ^ (row.length - 1)) p r)) ∧ H r = some (.tup (nats row))
theorem FieldAt.sm {C : Addr} {H H' : Hp} (s : Same H H') {a : Addr} {p : Nat} {row : List Nat} (h : FieldAt C H a p row) : FieldAt C H' a p row := by
  obtain ⟨dx,r,h1,h2⟩ := h
  exact ⟨dx,r,s _ _ h1,s _ _ h2⟩
def spInit (C : Addr) : Sp := fun vs H Q _ => ∃ (x dx r : Addr) (p : Nat) (row : List Nat) (H0 : Hp),vs = [.ref x,.int ((p : Nat) : Int),.ref r] ∧ H0 x = none ∧ H = upd H0 x (.ins C dx []) ∧ H0 r = some (.tup (nats row)) ∧ FOk p row ∧ ∀ H',Same H0 H' → FieldAt C H' x p row → Q .non H'
theorem scMInit : FnScope ["self", "p", "row"] ["self", "p", "row"] (defScope sMInit) := ⟨rfl,rfl,rfl,by decide +kernel,rfl,by decide +kernel,by decide +kernel⟩
theorem ok_init {f : Addr} {fd : FuncData} (F : Fun K "__init__" "Field.__init__" sMInit f fd) (Z : FieldK K C) (pMRow : Pm P w K mg base CX0 3 "must_be_row" ["p", "row"] spMRow) (pSize : Pm P w K mg base CX0 1 "size_within" ["p", "row"] spSize) (pMP : Pm P w K mg base CX0 6 "must_be_prime" ["p"] spMP) (pMNo : Pm P w K mg base CX0 4 "must_be_no_product" ["p", "row"] spMNo) : FnOk P w K mg base CX0 7 f fd ["self", "p", "row"] (spInit C) := by
  refine F.okQ scMInit (fun vs H Q E h => ?_) (fun cdv A outer s H vs Q E hr6 h => ?_)
  · obtain ⟨x,dx,r,p,row,H0,rfl,_⟩ := h
    rfl
  · obtain ⟨x,dx,r,p,row,H0,rfl,hx0,rfl,hr0,O,q⟩ := h
    have hr1 := hr6.mono (show 1 ≤ 6 by decide)
    have hr3 := hr6.mono (show 3 ≤ 6 by decide)
    have hr4 := hr6.mono (show 4 ≤ 6 by decide)
    refine ⟨_,(qss_cons (qs_expr (qe_callP pMRow hr3 rfl pass0 (qac (qv 1) (qac (qv 2) qa_nil)))) (qss_cons (qs_fld (qv 0) (qe_callP pSize hr1 rfl pass0 (qac (qv 1) (qac (qv 2) qa_nil))) rfl)
      (qss_cons (qs_expr (qe_callP pMP hr6 rfl pass0 (qac (qv 1) qa_nil))) (qss_cons (qs_expr (qe_callP pMNo hr4 rfl pass0 (qac (qv 1) (qac (qv 2) qa_nil))))
      (qss_cons (qs_fld (qv 0) (qv 1) rfl) (qss_one (qs_fld (qv 0) (qv 2) rfl))))))),?_⟩
    have w0 := same_new (o := .ins C dx []) hx0
    have hx : (upd H0 x (.ins C dx [])) x = some (.ins C dx []) := upd_same
    generalize upd H0 x (.ins C dx []) = H1 at w0 hx ⊢
    refine ⟨_,rfl,_,rfl,r,p,row,rfl,w0 _ _ hr0,O,fun H2 s2 => ?_⟩
    have s02 := w0.trans s2
    refine ⟨_,rfl,_,rfl,r,p,row,rfl,s02 _ _ hr0,O,fun H3 s3 => ?_⟩
    have s03 := s02.trans s3
    refine ⟨_,rfl,x,C,dx,[],rfl,(s2.trans s3) _ _ hx,Z.cl,Z.a1,by decide,?_⟩
    have t4 : Same H0 (upd H3 x (.ins C dx (putF "many" (.int ((p ^ (row.length - 1) : Nat) : Int)) []))) := same_upd s03 hx0
    have hx4 : (upd H3 x (.ins C dx (putF "many" (.int ((p ^ (row.length - 1) : Nat) : Int)) []))) x = some (.ins C dx (putF "many" (.int ((p ^ (row.length - 1) : Nat) : Int)) [])) := upd_same
    generalize upd H3 x (.ins C dx (putF "many" (.int ((p ^ (row.length - 1) : Nat) : Int)) [])) = H4 at t4 hx4 ⊢
    refine ⟨_,rfl,p,rfl,O.p31,O.pr,fun H5 s5 => ?_⟩
    refine ⟨_,rfl,_,rfl,r,p,row,rfl,(t4.trans s5) _ _ hr0,O,fun H6 s6 => ?_⟩
    have t6 := t4.trans (s5.trans s6)
    refine ⟨_,rfl,_,rfl,x,C,dx,_,rfl,(s5.trans s6) _ _ hx4,Z.cl,Z.a2,Nat.lt_of_le_of_lt (length_putF ..) (by decide),?_⟩
    refine ⟨_,rfl,_,rfl,x,C,dx,_,rfl,upd_same,Z.cl,Z.a3,Nat.lt_of_le_of_lt (Nat.le_trans (length_putF ..) (Nat.succ_le_succ (length_putF ..))) (by decide),?_⟩
    exact q _ (same_upd (same_upd t6 hx0) hx0) ⟨dx,r,upd_same,(same_upd (same_upd t6 hx0) hx0) _ _ hr0⟩
def spSizeM (C : Addr) : Sp := fun vs H Q _ => ∃ (a : Addr) (p : Nat) (row : List Nat),vs = [.ref a] ∧ FieldAt C H a p row ∧ Q (.int ((p ^ (row.length - 1) : Nat) : Int)) H
theorem scMSize : FnScope ["self"] ["self"] (defScope sMSize) := ⟨rfl,rfl,rfl,by decide +kernel,rfl,by decide +kernel,by decide +kernel⟩
theorem ok_sizeM {f : Addr} {fd : FuncData} (F : Fun K "size" "Field.size" sMSize f fd) (Z : FieldK K C) : FnOk P w K mg base CX0 1 f fd ["self"] (spSizeM C) := by
  refine F.okQ scMSize (fun vs H Q E h => ?_) (fun cdv A outer s H vs Q E hr h => ?_)
  · obtain ⟨a,p,row,rfl,_⟩ := h
    rfl
  · obtain ⟨a,p,row,rfl,⟨dx,r,ha,hr'⟩,q⟩ := h
    refine ⟨_,(qss_one (qs_ret (qe_fld (qv 0) rfl))),?_⟩
    exact ⟨_,rfl,a,C,dx,_,_,rfl,ha,Z.cl,Z.a1,fld_many ..,q⟩
def spHave (C : Addr) : Sp := fun vs H Q _ => ∃ (a : Addr) (p x : Nat) (row : List Nat),vs = [.ref a,.int ((x : Nat) : Int)] ∧ FieldAt C H a p row ∧ x < p ^ (row.length - 1) ∧ Q .non H
theorem scMMustHave : FnScope ["self", "thing"] ["self", "thing"] (defScope sMMustHave) := ⟨rfl,rfl,rfl,by decide +kernel,rfl,by decide +kernel,by decide +kernel⟩
theorem ok_have {f : Addr} {fd : FuncData} (F : Fun K "must_have" "Field.must_have" sMMustHave f fd) (Z : FieldK K C) (pIsBelow : Pm P w K mg base CX0 2 "is_below" ["thing", "many"] spBelow) : FnOk P w K mg base CX0 3 f fd ["self", "thing"] (spHave C) := by
  refine F.okQ scMMustHave (fun vs H Q E h => ?_) (fun cdv A outer s H vs Q E hr h => ?_)
  · obtain ⟨a,p,x,row,rfl,_⟩ := h
    rfl
  · obtain ⟨a,p,x,row,rfl,⟨dx,r,ha,hr'⟩,hx,q⟩ := h
    refine ⟨_,(qss_one (qs_if (qt_not (qt_val (qe_callP pIsBelow hr rfl pass0 (qac (qv 1) (qac (qe_fld (qv 0) rfl) qa_nil))))) qss_never qss_nil)),?_⟩
    exact ⟨_,rfl,_,rfl,a,C,dx,_,_,rfl,ha,Z.cl,Z.a1,fld_many ..,_,_,rfl,by omega,by omega,true,rfl,iteF q⟩
theorem conv_at_lt {p : Nat} (hp : 1 ≤ p) (one other : List Nat) (i : Nat) : (convL p one other).getD i 0 < p := by
  rcases Nat.lt_or_ge i (convL p one other).length with z | z
  · rw [getD_in z]
    obtain ⟨k,_,e⟩ := List.mem_map.mp (show (convL p one other)[i] ∈ (List.range (one.length + other.length)).map fun k => (csL one other k one.length).sum % p from List.getElem_mem z)
    rw [← e]
    exact Nat.mod_lt _ hp
  · rw [getD_out z]
    exact hp
theorem bsI_trim (l : List Nat) (s i : Nat) : bsI (trimL l) s i = bsI l s i := by
  unfold bsI
  rw [trim_at]
theorem conv_trim {p : Nat} (hp : 1 ≤ p) (A B : List Nat) : trimL (convL p (trimL A) (trimL B)) = trimL (convL p A B) := by
  refine trim_ext fun i => Cg.eq (p := p) ?_ (conv_at_lt hp _ _ i) (conv_at_lt hp _ _ i)
  refine (conv_cg (p := p) (trimL A) (trimL B) i).trans (Cg.trans (Cg.of_eq ?_) (conv_cg (p := p) A B i).symm)
  have h1 : (trimL A).length ≤ A.length := trim_le A
  have h2 := sumTo_tail (n := (trimL A).length) (f := fun j => (((trimL A).getD j 0 : Nat) : Int) * bsI (trimL B) j i) (fun j hj => by rw [getD_out hj]; simp) (A.length - (trimL A).length)
  rw [show (trimL A).length + (A.length - (trimL A).length) = A.length by omega] at h2
  rw [← h2]
  refine sumTo_congr fun j _ => ?_
  rw [trim_at,bsI_trim]
def tmL (p : Nat) (row : List Nat) (a b : Nat) : List Nat := trimL (restF p row (trimL (convL p (digN p (row.length - 1) a) (digN p (row.length - 1) b))))
def tmV (p : Nat) (row : List Nat) (a b : Nat) : Nat := numL p (tmL p row a b)
theorem tm_facts {p : Nat} {row : List Nat} (O : FOk p row) (a b : Nat) : (tmL p row a b).length ≤ row.length - 1 ∧ ∀ x ∈ tmL p row a b,x < p := by
  have hl2 := O.l2
  have hl6 := O.l6
  have hp : 1 ≤ p := Nat.le_trans (by decide) O.p2
  obtain ⟨h1,h2,_⟩ := restF_facts (p := p) (b := row) (l := trimL (convL p (digN p (row.length - 1) a) (digN p (row.length - 1) b))) (d := row.length - 1) hp (by omega) (by omega) O.top (Nat.le_trans (conv_le ..) (by rw [digN_len,digN_len]; omega)) (conv_lt hp _ _)
  exact ⟨Nat.le_trans (trim_le _) h1,fun x hx => h2 x (trim_mem hx)⟩
theorem tm_lt {p : Nat} {row : List Nat} (O : FOk p row) (a b : Nat) : tmV p row a b < p ^ (row.length - 1) := by
  obtain ⟨h1,h2⟩ := tm_facts O a b
  have hp : 1 ≤ p := Nat.le_trans (by decide) O.p2
  exact Nat.lt_of_lt_of_le (numL_lt hp h2) (Nat.pow_le_pow_right hp h1)
def plV (p : Nat) (row : List Nat) (a b : Nat) : Nat := joinV p 1 (row.length - 1) a b
theorem pl_lt {p : Nat} {row : List Nat} (O : FOk p row) (a b : Nat) : plV p row a b < p ^ (row.length - 1) := joinV_lt (Nat.le_trans (by decide) O.p2)
def spBin (C : Addr) (g : Nat → List Nat → Nat → Nat → Nat) : Sp := fun vs H Q _ => ∃ (f : Addr) (p a b : Nat) (row : List Nat),vs = [.ref f,.int ((a : Nat) : Int),.int ((b : Nat) : Int)] ∧ FieldAt C H f p row ∧ FOk p row ∧ a < p ^ (row.length - 1) ∧ b < p ^ (row.length - 1) ∧ ∀ H',Same H H' → Q (.int ((g p row a b : Nat) : Int)) H'
theorem scMPlus : FnScope ["self", "a", "b"] ["self", "a", "b"] (defScope sMPlus) := ⟨rfl,rfl,rfl,by decide +kernel,rfl,by decide +kernel,by decide +kernel⟩
theorem ok_plus {f : Addr} {fd : FuncData} (F : Fun K "plus" "Field.plus" sMPlus f fd) (Z : FieldK K C) (pHave : Mp P w K mg base CX0 3 C "must_have" ["self", "thing"] (spHave C)) (pJoined : Pm P w K mg base CX0 1 "joined" ["p", "a", "b", "sign"] spJoin) : FnOk P w K mg base CX0 4 f fd ["self", "a", "b"] (spBin C plV) := by
  refine F.okQ scMPlus (fun vs H Q E h => ?_) (fun cdv A outer s H vs Q E hr3 h => ?_)
  · obtain ⟨f,p,a,b,row,rfl,_⟩ := h
    rfl
  · obtain ⟨f,p,a,b,row,rfl,hF,O,ha,hb,q⟩ := h
    have hr1 := hr3.mono (show 1 ≤ 3 by decide)
    obtain ⟨dx,r,hf,hr'⟩ := id hF
    have hl6 := O.l6
    have hp2 := O.p2
    refine ⟨_,(qss_cons (qs_expr (qe_methP pHave Z.cl hr3 (qv 0) pass0 (qac (qv 1) qa_nil))) (qss_cons (qs_expr (qe_methP pHave Z.cl hr3 (qv 0) pass0 (qac (qv 2) qa_nil)))
      (qss_one (qs_ret (qe_callP pJoined hr1 rfl pass0 (qac (qe_fld (qv 0) rfl) (qac (qv 1) (qac (qv 2) (qac qe_int qa_nil))))))))),?_⟩
    refine ⟨_,rfl,f,dx,_,rfl,hf,fld_no _ _ _ (by decide +kernel) (by decide +kernel) (by decide +kernel),_,rfl,f,p,a,row,rfl,hF,ha,?_⟩
    refine ⟨_,rfl,f,dx,_,rfl,hf,fld_no _ _ _ (by decide +kernel) (by decide +kernel) (by decide +kernel),_,rfl,f,p,b,row,rfl,hF,hb,?_⟩
    refine ⟨_,rfl,f,C,dx,_,_,rfl,hf,Z.cl,Z.a2,fld_prime ..,_,rfl,_,rfl,p,row.length - 1,a,b,1,rfl,hp2,O.p31,by omega,ha,hb,.inl rfl,q _ (Same.refl _)⟩
theorem scMTimes : FnScope ["self", "a", "b", "product"] ["self", "a", "b"] (defScope sMTimes) := ⟨rfl,rfl,rfl,by decide +kernel,rfl,by decide +kernel,by decide +kernel⟩
theorem ok_timesM {f : Addr} {fd : FuncData} (F : Fun K "times" "Field.times" sMTimes f fd) (Z : FieldK K C) (pHave : Mp P w K mg base CX0 3 C "must_have" ["self", "thing"] (spHave C)) (pDigitsOf : Pm P w K mg base CX0 1 "digits_of" ["p", "number"] spDigG) (pRowTimes : Pm P w K mg base CX0 2 "row_times" ["p", "one", "other"] spProd) (pRowRest : Pm P w K mg base CX0 2 "row_rest" ["p", "one", "by"] spRest) (pNumberOf : Pm P w K mg base CX0 1 "number_of" ["p", "digits"] spNum) : FnOk P w K mg base CX0 4 f fd ["self", "a", "b"] (spBin C tmV) := by
  refine F.okQ scMTimes (fun vs H Q E h => ?_) (fun cdv A outer s H vs Q E hr3 h => ?_)
  · obtain ⟨f,p,a,b,row,rfl,_⟩ := h
    rfl
  · obtain ⟨f,p,a,b,row,rfl,hF,O,ha,hb,q⟩ := h
    have hr1 := hr3.mono (show 1 ≤ 3 by decide)
    have hr2 := hr3.mono (show 2 ≤ 3 by decide)
    obtain ⟨dx,r,hf,hr'⟩ := id hF
    have hl6 := O.l6
    have hl2 := O.l2
    have hp2 := O.p2
    have hp31 := O.p31
    refine ⟨_,(qss_cons (qs_expr (qe_methP pHave Z.cl hr3 (qv 0) pass0 (qac (qv 1) qa_nil))) (qss_cons (qs_expr (qe_methP pHave Z.cl hr3 (qv 0) pass0 (qac (qv 2) qa_nil)))
      (qss_cons (qs_set (i := 3) scMTimes.nd rfl (Or.inl rfl) (qe_callP pRowTimes hr2 rfl pass0 (qac (qe_fld (qv 0) rfl) (qac (qe_callP pDigitsOf hr1 rfl pass0 (qac (qe_fld (qv 0) rfl) (qac (qv 1) qa_nil))) (qac (qe_callP pDigitsOf hr1 rfl pass0 (qac (qe_fld (qv 0) rfl) (qac (qv 2) qa_nil))) qa_nil)))))
      (qss_one (qs_ret (qe_callP pNumberOf hr1 rfl pass0 (qac (qe_fld (qv 0) rfl) (qac (qe_callP pRowRest hr2 rfl pass0 (qac (qe_fld (qv 0) rfl) (qac (qv 3) (qac (qe_fld (qv 0) rfl) qa_nil)))) qa_nil)))))))),?_⟩
    refine ⟨_,rfl,f,dx,_,rfl,hf,fld_no _ _ _ (by decide +kernel) (by decide +kernel) (by decide +kernel),_,rfl,f,p,a,row,rfl,hF,ha,?_⟩
    refine ⟨_,rfl,f,dx,_,rfl,hf,fld_no _ _ _ (by decide +kernel) (by decide +kernel) (by decide +kernel),_,rfl,f,p,b,row,rfl,hF,hb,?_⟩
    refine ⟨_,rfl,f,C,dx,_,_,rfl,hf,Z.cl,Z.a2,fld_prime ..,?_⟩
    refine ⟨_,rfl,f,C,dx,_,_,rfl,hf,Z.cl,Z.a2,fld_prime ..,_,rfl,p,a,row.length - 1,rfl,hp2,hp31,by omega,ha,fun t1 H1 ht1 s1 h1 => ?_⟩
    refine ⟨_,rfl,f,C,dx,_,_,rfl,s1 _ _ hf,Z.cl,Z.a2,fld_prime ..,_,rfl,p,b,row.length - 1,rfl,hp2,hp31,by omega,hb,fun t2 H2 ht2 s2 h2 => ?_⟩
    have dl : ∀ n,(trimL (digN p (row.length - 1) n)).length ≤ 5 := fun n => Nat.le_trans (trim_le _) (by rw [digN_len]; omega)
    have dlt : ∀ n,∀ x ∈ trimL (digN p (row.length - 1) n),x < 32 := fun n x hx => Nat.lt_trans (digN_lt (by omega) _ _ x (trim_mem hx)) (by omega)
    refine ⟨t1,t2,p,_,_,rfl,s2 _ _ h1,h2,by omega,hp31,Nat.le_trans (dl a) (by decide),Nat.le_trans (dl b) (by decide),dlt a,dlt b,fun t3 H3 ht3 s3 h3 => ?_⟩
    rw [conv_trim (by omega)] at h3
    have s13 := s1.trans (s2.trans s3)
    have hpl : ∀ x ∈ trimL (convL p (digN p (row.length - 1) a) (digN p (row.length - 1) b)),x < p := conv_lt (by omega) _ _
    refine ⟨_,rfl,f,C,dx,_,_,rfl,s13 _ _ hf,Z.cl,Z.a2,fld_prime ..,?_⟩
    refine ⟨_,rfl,f,C,dx,_,_,rfl,s13 _ _ hf,Z.cl,Z.a2,fld_prime ..,_,rfl,_,rfl,f,C,dx,_,_,rfl,s13 _ _ hf,Z.cl,Z.a3,fld_row ..,?_⟩
    refine ⟨t3,r,p,_,row,rfl,h3,s13 _ _ hr',by omega,hp31,Nat.le_trans (conv_le ..) (by rw [digN_len,digN_len]; omega),by omega,by omega,fun x hx => by have := hpl x hx; omega,fun t4 H4 ht4 s4 h4 => ?_⟩
    obtain ⟨f1,f2⟩ := tm_facts O a b
    exact ⟨t4,p,_,rfl,h4,by omega,hp31,Nat.le_trans f1 (by omega),f2,q _ (s13.trans s4)⟩
def nF (p : Nat) (row : List Nat) : Nat := p ^ (row.length - 1)
theorem map_snoc {α : Type} (f : Nat → α) (i : Nat) : (List.range (i + 1)).map f = (List.range i).map f ++ [f i] := by rw [List.range_succ,List.map_append]; rfl
theorem tp_upd {H : Hp} {l : Addr} {xs ys : List V} (hl : H l = some (.lst xs)) {ws : List V} {bs : List (List Nat)} (h : TpAt H ws bs) : TpAt (upd H l (.lst ys)) ws bs := h.same fun a zs q => by
  rw [upd_ne (fun z => by rw [z,hl] at q; cases q)]
  exact q
def PrL : List Nat := [2,2,3,2,3,5,7,2,11,13,17,19,23,29,31,5]
theorem prL_all : ∀ p ∈ PrL,2 ≤ p ∧ p ≤ 31 ∧ ∀ d,d < 32 → d ∣ p → d = 1 ∨ d = p := by decide +kernel
theorem prL_pr {p : Nat} (hp : p ∈ PrL) : EM.IsPr p := by
  obtain ⟨h1,h2,h3⟩ := prL_all p hp
  exact ⟨h1,fun d hd => h3 d (by have := Nat.le_of_dvd (by omega) hd; omega) hd⟩
theorem dv_one (p x : Nat) : Dv p (fac p 1 x) none := fun s y h1 h2 _ => by
  rw [fac_len] at h2
  omega
theorem dv_of {p n x : Nat} (h : ((List.range (n / 2)).all fun s => (List.range (p ^ (s + 1))).all fun y => !(trimL (restF p (fac p (s + 1) y) (fac p n x))).isEmpty) = true) : Dv p (fac p n x) none := fun s y h1 h3 h4 z => by
  rw [fac_len] at h3
  rw [List.all_eq_true] at h
  have h5 := h (s - 1) (List.mem_range.mpr (by omega))
  rw [List.all_eq_true] at h5
  rw [show s - 1 + 1 = s by omega] at h5
  have h6 := h5 y (List.mem_range.mpr h4)
  rw [z] at h6
  simp at h6
theorem irr22 : Dv 2 (fac 2 2 3) none := dv_of (by decide +kernel)
theorem fac_ok {p n x : Nat} (hp : p ∈ PrL) (h1 : 1 ≤ n) (h5 : n ≤ 5) (hf : p ^ n ≤ 32) (hd : Dv p (fac p n x) none) : FOk p (fac p n x) := by
  obtain ⟨hp2,hp31,_⟩ := prL_all p hp
  refine ⟨hp2,hp31,prL_pr hp,by rw [fac_len]; omega,by rw [fac_len]; omega,fun y hy => ?_,?_,by rw [fac_len]; exact hf,hd⟩
  · unfold fac at hy
    rcases List.mem_append.mp hy with z | z
    · exact digN_lt (by omega) _ _ y z
    · rw [List.mem_singleton.mp z]
      omega
  · rw [fac_len,Nat.add_sub_cancel]
    unfold fac
    rw [List.getD_eq_getElem?_getD,List.getElem?_append_right (by rw [digN_len]; exact Nat.le_refl _),digN_len,Nat.sub_self]
    rfl
def lineL (p : Nat) (row : List Nat) (m c : Nat) : List Nat := (List.range (nF p row)).map fun x => x * nF p row + plV p row (tmV p row m x) c
def lineJ (p : Nat) (row : List Nat) (j : Nat) : List Nat := lineL p row (j / nF p row) (j % nF p row)
def upL (p : Nat) (row : List Nat) (c : Nat) : List Nat := (List.range (nF p row)).map fun y => c * nF p row + y
def flatL (p : Nat) (row : List Nat) : List (List Nat) := (List.range (nF p row * nF p row)).map (lineJ p row) ++ (List.range (nF p row)).map (upL p row)
theorem lineJ_at {p : Nat} {row : List Nat} {m c : Nat} (hc : c < nF p row) : lineJ p row (m * nF p row + c) = lineL p row m c := by
  unfold lineJ
  have h0 : 0 < nF p row := by omega
  rw [Nat.mul_comm,Nat.mul_add_div h0,Nat.div_eq_of_lt hc,Nat.add_zero,Nat.mul_add_mod,Nat.mod_eq_of_lt hc]
def FlatQ (p : Nat) (row : List Nat) (H : Hp) (Q : VK) : Prop := ∀ (t l : Addr) (ws : List V) (H' : Hp),Same H H' → H' t = some (.tup [.int ((nF p row * nF p row : Nat) : Int),.ref l]) → H' l = some (.tup ws) → TpAt H' ws (flatL p row) → Q (.ref t) H'
def spFlatOf (C : Addr) : Sp := fun vs H Q _ => ∃ (f : Addr) (p : Nat) (row : List Nat),vs = [.ref f] ∧ FieldAt C H f p row ∧ FOk p row ∧ FlatQ p row H Q
theorem scFlatOf : FnScope ["field", "size", "blocks", "m", "c"] ["field"] (defScope sFlatOf) := ⟨rfl,rfl,rfl,by decide +kernel,rfl,by decide +kernel,by decide +kernel⟩
theorem ok_flatof {f : Addr} {fd : FuncData} (F : Fun K "flat_of" "flat_of" sFlatOf f fd) (T : TxtB mg) (Z : FieldK K C) (pSizeM : Mp P w K mg base CX0 1 C "size" ["self"] (spSizeM C)) (pPlus : Mp P w K mg base CX0 4 C "plus" ["self", "a", "b"] (spBin C plV)) (pTimes : Mp P w K mg base CX0 4 C "times" ["self", "a", "b"] (spBin C tmV)) : FnOk P w K mg base CX0 5 f fd ["field"] (spFlatOf C) := by
  refine F.okQ scFlatOf (fun vs H Q E h => ?_) (fun cdv A outer s H vs Q E hr4 h => ?_)
  · obtain ⟨f,p,row,rfl,_⟩ := h
    rfl
  · obtain ⟨f,p,row,rfl,hF,O,q⟩ := h
    have hr1 := hr4.mono (show 1 ≤ 4 by decide)
    have h32 : nF p row ≤ 32 := O.few
    have hnn : nF p row * nF p row ≤ 32 * 32 := Nat.mul_le_mul h32 h32
    obtain ⟨dx,r,hf,hr'⟩ := id hF
    refine ⟨_,(qss_cons (qs_set (i := 1) scFlatOf.nd rfl (Or.inr rfl) (qe_methP0 pSizeM Z.cl hr1 (qv 0) pass0))
      (qss_cons (qs_set (i := 2) scFlatOf.nd rfl (Or.inl rfl) (qe_lst qa_nil))
      (qss_cons (qs_for PassesOwn.never rfl (qi_range1 rfl T.range (qac (qv 1) qa_nil)) (qg_name (i := 3) scFlatOf.nd rfl (Or.inr rfl))
        (qss_one (qs_for PassesOwn.never rfl (qi_range1 rfl T.range (qac (qv 1) qa_nil)) (qg_name (i := 4) scFlatOf.nd rfl (Or.inr rfl))
          (qss_one (qs_expr (qe_bm PySem.F.plainAttrs_list PySem.F.slot_list_append PySem.F.type_list_append mt_append (qv 2) (qac (qe_callTy call_tuple_of (by rfl) T.tup (by decide +kernel) (qac (qe_comp (g := gName 0) (N := ["x", "field", "size", "m", "c"]) (src := [none,some 0,some 1,some 3,some 4]) rfl (comp_scope (defScope sFlatOf) ["field", "size", "blocks", "m", "c"] rfl rfl (by decide +kernel) rfl) (qi_range1 rfl T.range (qac (qv 1) qa_nil)) (fun _ _ _ _ _ => (qg_name (i := 0) (show (["x", "field", "size", "m", "c"] : List Str).Nodup by decide +kernel) rfl (Or.inl rfl) (Or.inr rfl))) (fun _ _ _ _ _ => qif_nil) (fun _ _ _ _ _ => (qe_op op_add (qe_op op_mul (qv 0) (qv 2)) (qe_methP pPlus Z.cl hr4 (qv 1) pass0 (qac (qe_methP pTimes Z.cl hr4 (qv 1) pass0 (qac (qv 3) (qac (qv 0) qa_nil))) (qac (qv 4) qa_nil)))))) qa_nil)) qa_nil)))))))
      (qss_cons (qs_for PassesOwn.never rfl (qi_range1 rfl T.range (qac (qv 1) qa_nil)) (qg_name (i := 4) scFlatOf.nd rfl (Or.inr rfl))
        (qss_one (qs_expr (qe_bm PySem.F.plainAttrs_list PySem.F.slot_list_append PySem.F.type_list_append mt_append (qv 2) (qac (qe_callTy call_tuple_of (by rfl) T.tup (by decide +kernel) (qac (qe_comp (g := gName 0) (N := ["y", "size", "c"]) (src := [none,some 1,some 4]) rfl (comp_scope (defScope sFlatOf) ["field", "size", "blocks", "m", "c"] rfl rfl (by decide +kernel) rfl) (qi_range1 rfl T.range (qac (qv 1) qa_nil)) (fun _ _ _ _ _ => (qg_name (i := 0) (show (["y", "size", "c"] : List Str).Nodup by decide +kernel) rfl (Or.inl rfl) (Or.inr rfl))) (fun _ _ _ _ _ => qif_nil) (fun _ _ _ _ _ => (qe_op op_add (qe_op op_mul (qv 2) (qv 1)) (qv 0)))) qa_nil)) qa_nil)))))
      (qss_one (qs_ret (qe_tup (qac (qe_op op_mul (qv 1) (qv 1)) (qac (qe_callTy call_tuple_of (by rfl) T.tup (by decide +kernel) (qac (qv 2) qa_nil)) qa_nil))))))))),?_⟩
    refine ⟨_,rfl,f,dx,_,rfl,hf,fld_no _ _ _ (by decide +kernel) (by decide +kernel) (by decide +kernel),f,p,row,rfl,hF,?_⟩
    refine ⟨by show 0 ≤ sizeLine; decide,fun l hl => ?_⟩
    have fin : ∀ {H2 : Hp} {ws : List V} {bs : List (List Nat)} {u : Addr} {b : List Nat} {zs : List V},Same H H2 → H2 l = some (.lst ws) → TpAt H2 ws bs → H2 u = none → zs = nats b → Same H (upd (upd H2 u (.tup zs)) l (.lst (ws ++ [.ref u]))) ∧ (upd (upd H2 u (.tup zs)) l (.lst (ws ++ [.ref u]))) l = some (.lst (ws ++ [.ref u])) ∧ TpAt (upd (upd H2 u (.tup zs)) l (.lst (ws ++ [.ref u]))) (ws ++ [.ref u]) (bs ++ [b]) := fun {H2 ws bs u b zs} s2 hl2 hT hu hz => by
      subst hz
      have w := same_new (o := .tup (nats b)) hu
      refine ⟨same_upd (s2.trans w) hl,upd_same,tp_upd (w _ _ hl2) (TpAt.snoc upd_same (hT.sm w))⟩
    refine ⟨_,rfl,((nF p row : Nat) : Int),rfl,by omega,by omega,?_⟩
    rw [Int.toNat_natCast]
    refine for_range (lo := 0) (n := nF p row) (fun m σ H2 => Same H H2 ∧ ∃ (ws : List V) (x3 x4 : Option V),σ = [some (.ref f),some (.int ((nF p row : Nat) : Int)),some (.ref l),x3,x4] ∧ H2 l = some (.lst ws) ∧ TpAt H2 ws ((List.range (m * nF p row)).map (lineJ p row))) ⟨same_new hl,[],none,none,rfl,upd_same,by rw [Nat.zero_mul]; trivial⟩ ?_ ?_
    · rintro m σ H2 hm ⟨s2,ws,x3,x4,rfl,hl2,hT⟩
      rw [Int.zero_add]
      refine ⟨_,rfl,((nF p row : Nat) : Int),rfl,by omega,by omega,?_⟩
      rw [Int.toNat_natCast]
      refine for_range (lo := 0) (n := nF p row) (fun c σ H3 => Same H H3 ∧ ∃ (ws : List V) (x4 : Option V),σ = [some (.ref f),some (.int ((nF p row : Nat) : Int)),some (.ref l),some (.int ((m : Nat) : Int)),x4] ∧ H3 l = some (.lst ws) ∧ TpAt H3 ws ((List.range (m * nF p row + c)).map (lineJ p row))) ⟨s2,ws,_,rfl,hl2,hT⟩ ?_ ?_
      · rintro c σ H3 hc ⟨s3,ws,x4,rfl,hl3,hT3⟩
        rw [Int.zero_add]
        refine ⟨_,rfl,.inl ⟨rfl,_,SqL.of hl3⟩,_,rfl,((nF p row : Nat) : Int),rfl,by omega,by omega,?_⟩
        rw [Int.toNat_natCast]
        refine comp_rng (lo := 0) (n := nF p row) (fun x zs H4 => Same H3 H4 ∧ zs = nats ((List.range x).map fun x => x * nF p row + plV p row (tmV p row m x) c)) ⟨Same.refl _,rfl⟩ ?_ ?_
        · rintro x zs H4 N hx ⟨s4,rfl⟩ nx
          rw [Int.zero_add]
          have s34 := s3.trans s4
          refine ⟨Weak.set (by intro v z; cases z),⟨_,rfl,_,rfl,_,_,rfl,rfl,.inl ⟨by omega,by omega⟩,_,rfl,f,dx,_,rfl,s34 _ _ hf,fld_no _ _ _ (by decide +kernel) (by decide +kernel) (by decide +kernel),_,rfl,f,dx,_,rfl,s34 _ _ hf,fld_no _ _ _ (by decide +kernel) (by decide +kernel) (by decide +kernel),_,rfl,_,rfl,f,p,m,x,row,rfl,hF.sm s34,O,hm,hx,fun H5 s5 => ?_⟩⟩
          refine ⟨_,rfl,f,p,tmV p row m x,c,row,rfl,hF.sm (s34.trans s5),O,tm_lt O m x,hc,fun H6 s6 => ⟨_,_,rfl,rfl,?_⟩⟩
          refine ⟨by rw [nats_len,List.length_map,List.length_range]; exact Nat.lt_of_lt_of_le (show x < 33 by omega) (by decide),nx _ _ ⟨s4.trans (s5.trans s6),?_⟩⟩
          rw [map_snoc,nats_snoc]
          simp
        · rintro zs H4 ⟨s4,rfl⟩
          refine ⟨by rw [nats_len,List.length_map,List.length_range]; exact Nat.le_trans h32 (by decide),fun u hu => ?_⟩
          have w5 := same_new (o := .lst (nats ((List.range (nF p row)).map fun x => x * nF p row + plV p row (tmV p row m x) c))) hu
          refine ⟨u,_,rfl,.inl ⟨SqL.of upd_same,fun t ht => ?_⟩⟩
          have hl5 := (s4.trans w5) _ _ hl3
          have hT5 := hT3.sm (s4.trans w5)
          obtain ⟨g1,g2,g3⟩ := fin (b := lineL p row m c) (zs := nats ((List.range (nF p row)).map fun x => x * nF p row + plV p row (tmV p row m x) c)) (s3.trans (s4.trans w5)) hl5 hT5 ht rfl
          have hTl := hT3.len
          rw [List.length_map,List.length_range] at hTl
          have hmn : m * nF p row + c < nF p row * nF p row + nF p row := by
            have := Nat.mul_le_mul_right (nF p row) (Nat.le_of_lt hm)
            omega
          refine ⟨l,ws,.ref t,rfl,rfl,(same_new ht) _ _ hl5,Nat.lt_of_le_of_lt (show ws.length ≤ 2000 by omega) (by decide),?_⟩
          refine ⟨g1,ws ++ [.ref t],some (.int ((c : Nat) : Int)),rfl,g2,?_⟩
          rw [show m * nF p row + (c + 1) = m * nF p row + c + 1 by omega,map_snoc,lineJ_at hc]
          exact g3
      · rintro σ H3 ⟨s3,ws,x4,rfl,hl3,hT3⟩
        exact ⟨s3,ws,_,_,rfl,hl3,by rw [Nat.succ_mul]; exact hT3⟩
    · rintro σ H2 ⟨s2,ws,x3,x4,rfl,hl2,hT⟩
      refine ⟨_,rfl,((nF p row : Nat) : Int),rfl,by omega,by omega,?_⟩
      rw [Int.toNat_natCast]
      refine for_range (lo := 0) (n := nF p row) (fun c σ H3 => Same H H3 ∧ ∃ (ws : List V) (x4 : Option V),σ = [some (.ref f),some (.int ((nF p row : Nat) : Int)),some (.ref l),x3,x4] ∧ H3 l = some (.lst ws) ∧ TpAt H3 ws ((List.range (nF p row * nF p row)).map (lineJ p row) ++ (List.range c).map (upL p row))) ⟨s2,ws,_,rfl,hl2,by rw [List.range_zero,List.map_nil,List.append_nil]; exact hT⟩ ?_ ?_
      · rintro c σ H3 hc ⟨s3,ws,x4,rfl,hl3,hT3⟩
        rw [Int.zero_add]
        refine ⟨_,rfl,.inl ⟨rfl,_,SqL.of hl3⟩,_,rfl,((nF p row : Nat) : Int),rfl,by omega,by omega,?_⟩
        rw [Int.toNat_natCast]
        refine comp_rng (lo := 0) (n := nF p row) (fun y zs H4 => H4 = H3 ∧ zs = nats ((List.range y).map fun y => c * nF p row + y)) ⟨rfl,rfl⟩ ?_ ?_
        · rintro y zs H4 N hy ⟨rfl,rfl⟩ nx
          rw [Int.zero_add]
          refine ⟨Weak.set (by intro v z; cases z),⟨_,rfl,_,rfl,_,_,rfl,rfl,.inl ⟨by omega,by omega⟩,_,rfl,_,_,rfl,rfl,?_⟩⟩
          refine ⟨by rw [nats_len,List.length_map,List.length_range]; exact Nat.lt_of_lt_of_le (show y < 33 by omega) (by decide),nx _ _ ⟨rfl,?_⟩⟩
          rw [map_snoc,nats_snoc]
          simp
        · rintro zs H4 ⟨rfl,rfl⟩
          refine ⟨by rw [nats_len,List.length_map,List.length_range]; exact Nat.le_trans h32 (by decide),fun u hu => ?_⟩
          have w5 := same_new (o := .lst (nats ((List.range (nF p row)).map fun y => c * nF p row + y))) hu
          refine ⟨u,_,rfl,.inl ⟨SqL.of upd_same,fun t ht => ?_⟩⟩
          have hl5 := w5 _ _ hl3
          obtain ⟨g1,g2,g3⟩ := fin (b := upL p row c) (zs := nats ((List.range (nF p row)).map fun y => c * nF p row + y)) (s3.trans w5) hl5 (hT3.sm w5) ht rfl
          have hTl := hT3.len
          rw [List.length_append,List.length_map,List.length_map,List.length_range,List.length_range] at hTl
          refine ⟨l,ws,.ref t,rfl,rfl,(same_new ht) _ _ hl5,Nat.lt_of_le_of_lt (show ws.length ≤ 2000 by omega) (by decide),?_⟩
          refine ⟨g1,ws ++ [.ref t],some (.int ((c : Nat) : Int)),rfl,g2,?_⟩
          rw [map_snoc,← List.append_assoc]
          exact g3
      · rintro σ H3 ⟨s3,ws,x4,rfl,hl3,hT3⟩
        refine ⟨_,rfl,_,rfl,_,_,rfl,rfl,.inl ⟨by omega,by omega⟩,_,rfl,l,ws,rfl,.inl ⟨SqL.of hl3,fun u hu => ⟨by show 2 ≤ sizeLine; decide,fun t ht => ?_⟩⟩⟩
        have w4 := same_new (o := .tup ws) hu
        have w5 := same_new (o := .tup [.int (((nF p row : Nat) : Int) * ((nF p row : Nat) : Int)),.ref u]) ht
        exact q t u ws _ (s3.trans (w4.trans w5)) (by rw [Int.natCast_mul]; exact upd_same) (w5 _ _ upd_same) (hT3.sm (w4.trans w5))
def triplesL (q : Nat) : List (List Nat) := ([[0,0,1]] ++ (List.range q).map fun z => [0,1,z]) ++ (List.range (q * q)).map fun j => [1,j / q,j % q]
def nT (q : Nat) : Nat := 1 + q + q * q
theorem triples_len (q : Nat) : (triplesL q).length = nT q := by
  unfold triplesL nT
  simp
  omega
theorem triples_lt {q : Nat} (hq : 2 ≤ q) {t : List Nat} (h : t ∈ triplesL q) : ∃ a b c,t = [a,b,c] ∧ a < q ∧ b < q ∧ c < q := by
  unfold triplesL at h
  rcases List.mem_append.mp h with h | h
  · rcases List.mem_append.mp h with h | h
    · exact ⟨0,0,1,List.mem_singleton.mp h,by omega,by omega,by omega⟩
    · obtain ⟨z,hz,rfl⟩ := List.mem_map.mp h
      have := List.mem_range.mp hz
      exact ⟨0,1,z,rfl,by omega,by omega,this⟩
  · obtain ⟨j,hj,rfl⟩ := List.mem_map.mp h
    have hj' := List.mem_range.mp hj
    exact ⟨1,j / q,j % q,rfl,by omega,Nat.div_lt_of_lt_mul hj',Nat.mod_lt _ (by omega)⟩
theorem tri_at {q y z : Nat} (hz : z < q) : [1,(y * q + z) / q,(y * q + z) % q] = [1,y,z] := by
  have h0 : 0 < q := by omega
  rw [Nat.mul_comm,Nat.mul_add_div h0,Nat.div_eq_of_lt hz,Nat.add_zero,Nat.mul_add_mod,Nat.mod_eq_of_lt hz]
theorem app_tp {H0 H2 : Hp} {l u : Addr} {ws : List V} {bs : List (List Nat)} {b : List Nat} {zs : List V} (hl : H0 l = none) (s2 : Same H0 H2) (hl2 : H2 l = some (.lst ws)) (hT : TpAt H2 ws bs) (hu : H2 u = none) (hz : zs = nats b) :
    Same H0 (upd (upd H2 u (.tup zs)) l (.lst (ws ++ [.ref u]))) ∧ (upd (upd H2 u (.tup zs)) l (.lst (ws ++ [.ref u]))) l = some (.lst (ws ++ [.ref u])) ∧ TpAt (upd (upd H2 u (.tup zs)) l (.lst (ws ++ [.ref u]))) (ws ++ [.ref u]) (bs ++ [b]) := by
  subst hz
  have w := same_new (o := .tup (nats b)) hu
  exact ⟨same_upd (s2.trans w) hl,upd_same,tp_upd (w _ _ hl2) (TpAt.snoc upd_same (hT.sm w))⟩
def spTri : Sp := fun vs H Q _ => ∃ q : Nat,vs = [.int ((q : Nat) : Int)] ∧ q ≤ 32 ∧ ∀ (l : Addr) (ws : List V) (H' : Hp),Same H H' → H' l = some (.lst ws) → TpAt H' ws (triplesL q) → Q (.ref l) H'
theorem scTriplesOf : FnScope ["size", "triples", "z", "y"] ["size"] (defScope sTriplesOf) := ⟨rfl,rfl,rfl,by decide +kernel,rfl,by decide +kernel,by decide +kernel⟩
theorem ok_tri {f : Addr} {fd : FuncData} (F : Fun K "triples_of" "triples_of" sTriplesOf f fd) (T : TxtB mg) : FnOk P w K mg base CX0 1 f fd ["size"] spTri := by
  refine F.okQ scTriplesOf (fun vs H Q E h => ?_) (fun cdv A outer s H vs Q E hr0 h => ?_)
  · obtain ⟨q,rfl,_⟩ := h
    rfl
  · obtain ⟨q,rfl,h32,k⟩ := h
    have hqq : q * q ≤ 32 * 32 := Nat.mul_le_mul h32 h32
    refine ⟨_,(qss_cons (qs_set (i := 1) scTriplesOf.nd rfl (Or.inl rfl) (qe_lst (qac (qe_tup (qac qe_int (qac qe_int (qac qe_int qa_nil)))) qa_nil)))
      (qss_cons (qs_for PassesOwn.never rfl (qi_range1 rfl T.range (qac (qv 0) qa_nil)) (qg_name (i := 2) scTriplesOf.nd rfl (Or.inl rfl))
        (qss_one (qs_expr (qe_bm PySem.F.plainAttrs_list PySem.F.slot_list_append PySem.F.type_list_append mt_append (qv 1) (qac (qe_tup (qac qe_int (qac qe_int (qac (qv 2) qa_nil)))) qa_nil)))))
      (qss_cons (qs_for PassesOwn.never rfl (qi_range1 rfl T.range (qac (qv 0) qa_nil)) (qg_name (i := 3) scTriplesOf.nd rfl (Or.inl rfl))
        (qss_one (qs_for PassesOwn.never rfl (qi_range1 rfl T.range (qac (qv 0) qa_nil)) (qg_name (i := 2) scTriplesOf.nd rfl (Or.inl rfl))
          (qss_one (qs_expr (qe_bm PySem.F.plainAttrs_list PySem.F.slot_list_append PySem.F.type_list_append mt_append (qv 1) (qac (qe_tup (qac qe_int (qac (qv 3) (qac (qv 2) qa_nil)))) qa_nil)))))))
      (qss_one (qs_ret (qv 1)))))),?_⟩
    refine ⟨by show 3 ≤ sizeLine; decide,fun t0 ht0 => ⟨by show 1 ≤ sizeLine; decide,fun l hl => ?_⟩⟩
    have w0 := same_new (o := .tup [.int 0,.int 0,.int 1]) ht0
    have hl0 := w0.free hl
    have w1 := same_new (o := .lst [.ref t0]) hl
    refine ⟨_,rfl,((q : Nat) : Int),rfl,by omega,by omega,?_⟩
    rw [Int.toNat_natCast]
    refine for_range (lo := 0) (n := q) (fun z σ H2 => Same H H2 ∧ ∃ (ws : List V) (x2 : Option V),σ = [some (.int ((q : Nat) : Int)),some (.ref l),x2,none] ∧ H2 l = some (.lst ws) ∧ TpAt H2 ws ([[0,0,1]] ++ (List.range z).map fun z => [0,1,z])) ⟨w0.trans w1,[.ref t0],none,rfl,upd_same,(show TpAt _ [.ref t0] [[0,0,1]] from ⟨⟨t0,rfl,w1 _ _ upd_same⟩,trivial⟩)⟩ ?_ ?_
    · rintro z σ H2 hz ⟨s2,ws,x2,rfl,hl2,hT⟩
      rw [Int.zero_add]
      refine ⟨_,rfl,.inl ⟨rfl,_,SqL.of hl2⟩,_,rfl,by show 3 ≤ sizeLine; decide,fun t ht => ?_⟩
      have hTl := hT.len
      rw [List.length_append,List.length_map,List.length_range] at hTl
      obtain ⟨g1,g2,g3⟩ := app_tp (b := [0,1,z]) (zs := [.int 0,.int 1,.int ((z : Nat) : Int)]) hl0 s2 hl2 hT ht rfl
      refine ⟨l,ws,.ref t,rfl,rfl,(same_new ht) _ _ hl2,Nat.lt_of_le_of_lt (show ws.length ≤ 2000 by simp at hTl; omega) (by decide),?_⟩
      refine ⟨g1,ws ++ [.ref t],some (.int ((z : Nat) : Int)),rfl,g2,?_⟩
      rw [map_snoc,← List.append_assoc]
      exact g3
    · rintro σ H2 ⟨s2,ws,x2,rfl,hl2,hT⟩
      refine ⟨_,rfl,((q : Nat) : Int),rfl,by omega,by omega,?_⟩
      rw [Int.toNat_natCast]
      refine for_range (lo := 0) (n := q) (fun y σ H3 => Same H H3 ∧ ∃ (ws : List V) (x2 x3 : Option V),σ = [some (.int ((q : Nat) : Int)),some (.ref l),x2,x3] ∧ H3 l = some (.lst ws) ∧ TpAt H3 ws (([[0,0,1]] ++ (List.range q).map fun z => [0,1,z]) ++ (List.range (y * q)).map fun j => [1,j / q,j % q])) ⟨s2,ws,_,none,rfl,hl2,by rw [Nat.zero_mul,List.range_zero,List.map_nil,List.append_nil]; exact hT⟩ ?_ ?_
      · rintro y σ H3 hy ⟨s3,ws,x2,x3,rfl,hl3,hT3⟩
        rw [Int.zero_add]
        refine ⟨_,rfl,((q : Nat) : Int),rfl,by omega,by omega,?_⟩
        rw [Int.toNat_natCast]
        refine for_range (lo := 0) (n := q) (fun z σ H4 => Same H H4 ∧ ∃ (ws : List V) (x2 : Option V),σ = [some (.int ((q : Nat) : Int)),some (.ref l),x2,some (.int ((y : Nat) : Int))] ∧ H4 l = some (.lst ws) ∧ TpAt H4 ws (([[0,0,1]] ++ (List.range q).map fun z => [0,1,z]) ++ (List.range (y * q + z)).map fun j => [1,j / q,j % q])) ⟨s3,ws,_,rfl,hl3,hT3⟩ ?_ ?_
        · rintro z σ H4 hz ⟨s4,ws,x2,rfl,hl4,hT4⟩
          rw [Int.zero_add]
          refine ⟨_,rfl,.inl ⟨rfl,_,SqL.of hl4⟩,_,rfl,_,rfl,by show 3 ≤ sizeLine; decide,fun t ht => ?_⟩
          have hTl := hT4.len
          rw [List.length_append,List.length_append,List.length_map,List.length_map,List.length_range,List.length_range] at hTl
          have hyq := Nat.mul_le_mul_right q (Nat.le_of_lt hy)
          obtain ⟨g1,g2,g3⟩ := app_tp (b := [1,y,z]) (zs := [.int 1,.int ((y : Nat) : Int),.int ((z : Nat) : Int)]) hl0 s4 hl4 hT4 ht rfl
          refine ⟨l,ws,.ref t,rfl,rfl,(same_new ht) _ _ hl4,Nat.lt_of_le_of_lt (show ws.length ≤ 2000 by simp at hTl; omega) (by decide),?_⟩
          refine ⟨g1,ws ++ [.ref t],some (.int ((z : Nat) : Int)),rfl,g2,?_⟩
          rw [show y * q + (z + 1) = y * q + z + 1 by omega,map_snoc,tri_at hz,← List.append_assoc]
          exact g3
        · rintro σ H4 ⟨s4,ws,x2,rfl,hl4,hT4⟩
          exact ⟨s4,ws,_,_,rfl,hl4,by rw [Nat.succ_mul]; exact hT4⟩
      · rintro σ H3 ⟨s3,ws,x2,x3,rfl,hl3,hT3⟩
        exact ⟨_,rfl,k l ws H3 s3 hl3 hT3⟩
def dotK (p : Nat) (row u v : List Nat) : Nat → Nat
  | 0 => 0
  | i + 1 => plV p row (dotK p row u v i) (tmV p row (u.getD i 0) (v.getD i 0))
theorem nF_pos {p : Nat} {row : List Nat} (O : FOk p row) : 2 ≤ nF p row := by
  have h2 := O.p2
  have h3 := O.l2
  have := Nat.pow_le_pow_right (show 0 < p by omega) (show 1 ≤ row.length - 1 by omega)
  rw [Nat.pow_one] at this
  unfold nF
  omega
theorem dotK_lt {p : Nat} {row : List Nat} (O : FOk p row) (u v : List Nat) : ∀ i,dotK p row u v i < nF p row
  | 0 => by have := nF_pos O; show 0 < nF p row; omega
  | i + 1 => pl_lt O _ _
def spAdd (C : Addr) : Sp := fun vs H Q _ => ∃ (f a b : Addr) (p : Nat) (row u v : List Nat),vs = [.ref f,.ref a,.ref b] ∧ FieldAt C H f p row ∧ FOk p row ∧ H a = some (.tup (nats u)) ∧ H b = some (.tup (nats v)) ∧ u.length = 3 ∧ v.length = 3 ∧ (∀ x ∈ u,x < nF p row) ∧ (∀ x ∈ v,x < nF p row) ∧ ∀ H',Same H H' → Q (.int ((dotK p row u v 3 : Nat) : Int)) H'
theorem scAddedProducts : FnScope ["field", "one", "other", "total", "a", "b"] ["field", "one", "other"] (defScope sAddedProducts) := ⟨rfl,rfl,rfl,by decide +kernel,rfl,by decide +kernel,by decide +kernel⟩
theorem ok_add {f : Addr} {fd : FuncData} (F : Fun K "added_products" "added_products" sAddedProducts f fd) (T : TxtB mg) (Z : FieldK K C) (pPlus : Mp P w K mg base CX0 4 C "plus" ["self", "a", "b"] (spBin C plV)) (pTimes : Mp P w K mg base CX0 4 C "times" ["self", "a", "b"] (spBin C tmV)) : FnOk P w K mg base CX0 5 f fd ["field", "one", "other"] (spAdd C) := by
  refine F.okQ scAddedProducts (fun vs H Q E h => ?_) (fun cdv A outer s H vs Q E hr4 h => ?_)
  · obtain ⟨f,a,b,p,row,u,v,rfl,_⟩ := h
    rfl
  · obtain ⟨f,a,b,p,row,u,v,rfl,hF,O,ha,hb,hu3,hv3,hul,hvl,q⟩ := h
    obtain ⟨dx,r,hf,hr'⟩ := id hF
    refine ⟨_,(qss_cons (qs_set (i := 3) scAddedProducts.nd rfl (Or.inl rfl) qe_int)
      (qss_cons (qs_for PassesOwn.never rfl (qi_zipTT rfl T.zip (qac (qv 1) (qac (qv 2) qa_nil))) (qg_tup rfl (qgs_cons (qg_name (i := 4) scAddedProducts.nd rfl (Or.inl rfl)) (qgs_cons (qg_name (i := 5) scAddedProducts.nd rfl (Or.inl rfl)) qgs_nil)))
        (qss_one (qs_set (i := 3) scAddedProducts.nd rfl (Or.inl rfl) (qe_methP pPlus Z.cl hr4 (qv 0) pass0 (qac (qv 3) (qac (qe_methP pTimes Z.cl hr4 (qv 0) pass0 (qac (qv 4) (qac (qv 5) qa_nil))) qa_nil))))))
      (qss_one (qs_ret (qv 3))))),?_⟩
    refine ⟨_,rfl,_,rfl,a,b,rfl,⟨_,SqT.of ha⟩,⟨_,SqT.of hb⟩,for_zipTT (K := K) (xs := nats u) (ys := nats v) (by rw [nats_len,nats_len,hu3,hv3]) (fun i σ H2 => Same H H2 ∧ ∃ x4 x5 : Option V,σ = [some (.ref f),some (.ref a),some (.ref b),some (.int ((dotK p row u v i : Nat) : Int)),x4,x5]) ⟨Same.refl _,none,none,rfl⟩ (fun i σ H2 _ ⟨e,_⟩ => ⟨SqT.of (e _ _ ha),SqT.of (e _ _ hb)⟩) ?_ ?_⟩
    · rintro i x y t σ H2 hx hy ⟨s2,x4,x5,rfl⟩ ht
      obtain ⟨a',hxa,rfl⟩ := L2.nats_get hx
      obtain ⟨b',hyb,rfl⟩ := L2.nats_get hy
      have w3 := same_new (o := .tup [.int ((a' : Nat) : Int),.int ((b' : Nat) : Int)]) ht
      have s3 := s2.trans w3
      have e1 : u.getD i 0 = a' := by rw [List.getD_eq_getElem?_getD,hxa]; rfl
      have e2 : v.getD i 0 = b' := by rw [List.getD_eq_getElem?_getD,hyb]; rfl
      refine ⟨t,_,rfl,SqT.of upd_same,rfl,_,_,rfl,_,_,rfl,rfl,?_⟩
      refine ⟨_,rfl,f,dx,_,rfl,s3 _ _ hf,fld_no _ _ _ (by decide +kernel) (by decide +kernel) (by decide +kernel),_,rfl,_,rfl,f,dx,_,rfl,s3 _ _ hf,fld_no _ _ _ (by decide +kernel) (by decide +kernel) (by decide +kernel),_,rfl,_,rfl,f,p,a',b',row,rfl,hF.sm s3,O,hul _ (List.mem_of_getElem? hxa),hvl _ (List.mem_of_getElem? hyb),fun H4 s4 => ?_⟩
      refine ⟨f,p,dotK p row u v i,tmV p row a' b',row,rfl,hF.sm (s3.trans s4),O,dotK_lt O u v i,tm_lt O a' b',fun H5 s5 => ⟨s3.trans (s4.trans s5),some (.int ((a' : Nat) : Int)),some (.int ((b' : Nat) : Int)),?_⟩⟩
      rw [dotK,e1,e2]
      rfl
    · rintro σ H2 ⟨s2,x4,x5,rfl⟩
      refine ⟨_,rfl,?_⟩
      rw [nats_len,hu3]
      exact q _ s2
def acrossK (p : Nat) (row u : List Nat) (n : Nat) : List Nat := (List.range n).filter fun k => decide (dotK p row u ((triplesL (nF p row)).getD k []) 3 = 0)
def acrossL (p : Nat) (row u : List Nat) : List Nat := acrossK p row u (nT (nF p row))
theorem acrossK_snoc (p : Nat) (row u : List Nat) (i : Nat) : acrossK p row u (i + 1) = acrossK p row u i ++ if decide (dotK p row u ((triplesL (nF p row)).getD i []) 3 = 0) = true then [i] else [] := by
  unfold acrossK
  rw [List.range_succ,List.filter_append]
  congr 1
  rw [List.filter_cons,List.filter_nil]
theorem acrossK_le (p : Nat) (row u : List Nat) (n : Nat) : (acrossK p row u n).length ≤ n := Nat.le_trans (List.length_filter_le ..) (by rw [List.length_range]; exact Nat.le_refl _)
def planeL (p : Nat) (row : List Nat) : List (List Nat) := (triplesL (nF p row)).map fun u => acrossL p row u
theorem nT_le {p : Nat} {row : List Nat} (O : FOk p row) : nT (nF p row) ≤ 1057 := by
  have h32 : nF p row ≤ 32 := O.few
  have := Nat.mul_le_mul h32 h32
  unfold nT
  omega
def spAcr (C : Addr) : Sp := fun vs H Q _ => ∃ (f t l : Addr) (p : Nat) (row u : List Nat) (ws : List V),vs = [.ref f,.ref t,.ref l] ∧ FieldAt C H f p row ∧ FOk p row ∧ H t = some (.tup (nats u)) ∧ u ∈ triplesL (nF p row) ∧ H l = some (.lst ws) ∧ TpAt H ws (triplesL (nF p row)) ∧ ∀ (r : Addr) (H' : Hp),Same H H' → H' r = some (.tup (nats (acrossL p row u))) → Q (.ref r) H'
theorem scPointsAcross : FnScope ["field", "triple", "triples"] ["field", "triple", "triples"] (defScope sPointsAcross) := ⟨rfl,rfl,rfl,by decide +kernel,rfl,by decide +kernel,by decide +kernel⟩
theorem tri3 {q : Nat} (hq : 2 ≤ q) {t : List Nat} (h : t ∈ triplesL q) : t.length = 3 ∧ ∀ x ∈ t,x < q := by
  obtain ⟨a,b,c,rfl,ha,hb,hc⟩ := triples_lt hq h
  refine ⟨rfl,fun x hx => ?_⟩
  simp at hx
  omega
theorem ok_acr {f : Addr} {fd : FuncData} (F : Fun K "points_across" "points_across" sPointsAcross f fd) (T : TxtB mg) (pAdd : Pm P w K mg base CX0 5 "added_products" ["field", "one", "other"] (spAdd C)) : FnOk P w K mg base CX0 6 f fd ["field", "triple", "triples"] (spAcr C) := by
  refine F.okQ scPointsAcross (fun vs H Q E h => ?_) (fun cdv A outer s H vs Q E hr5 h => ?_)
  · obtain ⟨f,t,l,p,row,u,ws,rfl,_⟩ := h
    rfl
  · obtain ⟨f,t,l,p,row,u,ws,rfl,hF,O,ht,hu,hl,hT,q⟩ := h
    refine ⟨_,(qss_one (qs_ret (qe_callTy call_tuple_of (by rfl) T.tup (by decide +kernel) (qac (qe_comp (g := gTup K 2 (gCons (gName 0) (gCons (gName 1) gNil))) (N := ["point", "other", "field", "triple"]) (src := [none,none,some 0,some 1]) rfl (comp_scope (defScope sPointsAcross) ["field", "triple", "triples"] rfl rfl (by decide +kernel) rfl) (qi_enum rfl T.enu (qac (qv 2) qa_nil)) (fun _ _ _ _ _ => (show QG _ _ (gTup K 2 _) from qg_tup rfl (qgs_cons (qg_name (i := 0) (show (["point", "other", "field", "triple"] : List Str).Nodup by decide +kernel) rfl (Or.inl rfl) (Or.inr rfl)) (qgs_cons (qg_name (i := 1) (show (["point", "other", "field", "triple"] : List Str).Nodup by decide +kernel) rfl (Or.inl rfl) (Or.inr rfl)) qgs_nil)))) (fun _ _ _ _ _ => (qif_one (qt_cmpR op_eq (qe_callP pAdd hr5 rfl pass0 (qac (qv 2) (qac (qv 3) (qac (qv 1) qa_nil)))) qe_int (nomark _)))) (fun _ _ _ _ _ => (qv 0))) qa_nil)))),?_⟩
    have h2 := nF_pos O
    have hle := nT_le O
    obtain ⟨hu3,hul⟩ := tri3 h2 hu
    have hTl := hT.len
    rw [triples_len] at hTl
    refine ⟨_,rfl,l,rfl,⟨_,SqL.of hl⟩,comp_enum (K := K) (a := l) (xs := ws) (fun i zs H2 => Same H H2 ∧ zs = nats (acrossK p row u i)) ⟨Same.refl _,rfl⟩ (fun i zs H2 _ ⟨e,_⟩ => SqL.of (e _ _ hl)) ?_ ?_⟩
    · rintro i v x zs H2 N hi ⟨s2,rfl⟩ hx nx
      obtain ⟨b,blk,rfl,hbs,hb⟩ := (hT.sm s2).get hi
      have hil := (List.getElem?_eq_some_iff.mp hi).1
      have w1 := same_new (o := .tup [.int ((i : Nat) : Int),.ref b]) hx
      have s3 := s2.trans w1
      obtain ⟨hb3,hbl⟩ := tri3 h2 (List.mem_of_getElem? hbs)
      have e := acrossK_snoc p row u i
      rw [List.getD_eq_getElem?_getD,hbs,show (some blk).getD [] = blk from rfl] at e
      refine ⟨x,_,rfl,SqT.of upd_same,rfl,_,_,rfl,_,_,rfl,rfl,(Weak.set (by intro v z; cases z)).trans (Weak.set (by intro v z; cases z)),?_⟩
      refine ⟨_,rfl,_,rfl,_,rfl,f,t,b,p,row,u,blk,rfl,hF.sm s3,O,s3 _ _ ht,w1 _ _ hb,hu3,hb3,hul,hbl,fun H3 s4 => ⟨rfl,_,rfl,?_⟩⟩
      by_cases h : dotK p row u blk 3 = 0
      · rw [if_pos (decide_eq_true h)] at e
        refine ifT (by rw [h]; rfl) ⟨_,rfl,?_,nx _ _ ⟨s3.trans s4,by rw [e,nats_snoc]⟩⟩
        rw [nats_len]
        exact Nat.lt_of_le_of_lt (acrossK_le p row u i) (Nat.lt_of_lt_of_le (show i < 1057 by omega) (by decide))
      · rw [if_neg (by simp [h]),List.append_nil] at e
        exact ifF (fun z => h (by have := V.int.inj z; omega)) (nx _ _ ⟨s3.trans s4,by rw [e]⟩)
    · rintro zs H2 ⟨s2,rfl⟩
      rw [hTl]
      refine ⟨by rw [nats_len]; exact Nat.le_trans (acrossK_le ..) (Nat.le_trans hle (by decide)),fun r hr' => ⟨r,_,rfl,.inl ⟨SqL.of upd_same,fun t ht => ?_⟩⟩⟩
      have w2 := same_new (o := .lst (nats (acrossK p row u (nT (nF p row))))) hr'
      exact q t _ (s2.trans (w2.trans (same_new ht))) upd_same
def PlaneQ (p : Nat) (row : List Nat) (H : Hp) (Q : VK) : Prop := ∀ (t l : Addr) (ws : List V) (H' : Hp),Same H H' → H' t = some (.tup [.int ((nT (nF p row) : Nat) : Int),.ref l]) → H' l = some (.tup ws) → TpAt H' ws (planeL p row) → Q (.ref t) H'
def spPlaneOf (C : Addr) : Sp := fun vs H Q _ => ∃ (f : Addr) (p : Nat) (row : List Nat),vs = [.ref f] ∧ FieldAt C H f p row ∧ FOk p row ∧ PlaneQ p row H Q
theorem scPlaneOf : FnScope ["field", "triples", "blocks"] ["field"] (defScope sPlaneOf) := ⟨rfl,rfl,rfl,by decide +kernel,rfl,by decide +kernel,by decide +kernel⟩
theorem ok_planeof {f : Addr} {fd : FuncData} (F : Fun K "plane_of" "plane_of" sPlaneOf f fd) (T : TxtB mg) (Z : FieldK K C) (pSizeM : Mp P w K mg base CX0 1 C "size" ["self"] (spSizeM C)) (pTri : Pm P w K mg base CX0 1 "triples_of" ["size"] spTri) (pAcr : Pm P w K mg base CX0 6 "points_across" ["field", "triple", "triples"] (spAcr C)) : FnOk P w K mg base CX0 7 f fd ["field"] (spPlaneOf C) := by
  refine F.okQ scPlaneOf (fun vs H Q E h => ?_) (fun cdv A outer s H vs Q E hr6 h => ?_)
  · obtain ⟨f,p,row,rfl,_⟩ := h
    rfl
  · obtain ⟨f,p,row,rfl,hF,O,q⟩ := h
    have hr1 := hr6.mono (show 1 ≤ 6 by decide)
    have h32 : nF p row ≤ 32 := O.few
    have hle := nT_le O
    obtain ⟨dx,r,hf,hr'⟩ := id hF
    refine ⟨_,(qss_cons (qs_set (i := 1) scPlaneOf.nd rfl (Or.inr rfl) (qe_callP pTri hr1 rfl pass0 (qac (qe_methP0 pSizeM Z.cl hr1 (qv 0) pass0) qa_nil)))
      (qss_cons (qs_setComp (i := 2) (g := gName 0) (N := ["triple", "field", "triples"]) (src := [none,some 0,some 1]) rfl (comp_scope (defScope sPlaneOf) ["field", "triples", "blocks"] rfl rfl (by decide +kernel) rfl) (qi_list (qv 1)) (fun _ _ _ _ _ => (qg_name (i := 0) (show (["triple", "field", "triples"] : List Str).Nodup by decide +kernel) rfl (Or.inl rfl) (Or.inr rfl))) (fun _ _ _ _ _ => qif_nil) (fun _ _ _ _ _ => (qe_callP pAcr hr6 rfl pass0 (qac (qv 1) (qac (qv 0) (qac (qv 2) qa_nil))))) (qg_name (i := 2) scPlaneOf.nd rfl (Or.inl rfl)))
      (qss_one (qs_ret (qe_tup (qac (qe_callB call_len_seq (by rfl) T.len PySem.boot_len (qac (qv 1) qa_nil)) (qac (qe_callTy call_tuple_of (by rfl) T.tup (by decide +kernel) (qac (qv 2) qa_nil)) qa_nil))))))),?_⟩
    refine ⟨_,rfl,f,dx,_,rfl,hf,fld_no _ _ _ (by decide +kernel) (by decide +kernel) (by decide +kernel),f,p,row,rfl,hF,nF p row,rfl,h32,fun l ws H1 s1 hl hT => ?_⟩
    have hTl := hT.len
    rw [triples_len] at hTl
    refine ⟨_,rfl,l,rfl,⟨_,SqL.of hl⟩,comp_list (K := K) (a := l) (xs := ws) (fun i zs H2 => Same H1 H2 ∧ TpAt H2 zs (((triplesL (nF p row)).take i).map fun u => acrossL p row u)) ⟨Same.refl _,trivial⟩ (fun i zs H2 _ ⟨e,_⟩ => SqL.of (e _ _ hl)) ?_ ?_⟩
    · rintro i v zs H2 N hi ⟨s2,hz⟩ nx
      obtain ⟨b,u,rfl,hbs,hb⟩ := (hT.sm s2).get hi
      have hzl := hz.len
      rw [List.length_map,List.length_take] at hzl
      have hil := (List.getElem?_eq_some_iff.mp hi).1
      refine ⟨Weak.set (by intro v z; cases z),⟨_,rfl,_,rfl,_,rfl,f,b,l,p,row,u,ws,rfl,hF.sm (s1.trans s2),O,hb,List.mem_of_getElem? hbs,s2 _ _ hl,hT.sm s2,fun r3 H3 s3 h3 => ?_⟩⟩
      refine ⟨Nat.lt_of_le_of_lt (show zs.length ≤ 1057 by omega) (by decide),nx _ _ ⟨s2.trans s3,?_⟩⟩
      rw [take_snoc hbs,List.map_append]
      exact TpAt.snoc h3 (hz.sm s3)
    · rintro zs H2 ⟨s2,hz⟩
      rw [hTl,← triples_len,List.take_length] at hz
      have hzl := hz.len
      rw [List.length_map,triples_len] at hzl
      refine ⟨Nat.le_trans (show zs.length ≤ 1057 by omega) (by decide),fun u hu => ?_⟩
      have w3 := same_new (o := .lst zs) hu
      refine ⟨_,rfl,l,_,rfl,.inl (SqL.of ((s2.trans w3) _ _ hl)),_,rfl,u,zs,rfl,.inl ⟨SqL.of upd_same,fun x hx => ⟨by show 2 ≤ sizeLine; decide,fun t ht => ?_⟩⟩⟩
      have w4 := same_new (o := .tup zs) hx
      have w5 := same_new (o := .tup [.int ((ws.length : Nat) : Int),.ref x]) ht
      exact q t x zs _ (s1.trans (s2.trans (w3.trans (w4.trans w5)))) (by rw [← hTl]; exact upd_same) (w5 _ _ upd_same) (hz.sm (w3.trans (w4.trans w5)))
def mks (m : Nat) (b : List Nat) : List V := (List.range m).map fun p => V.bl (decide (p ∈ b))
theorem mks_len (m : Nat) (b : List Nat) : (mks m b).length = m := by unfold mks; rw [List.length_map,List.length_range]
theorem mks_get {m p : Nat} (b : List Nat) (h : p < m) : (mks m b)[p]? = some (.bl (decide (p ∈ b))) := by
  unfold mks
  rw [List.getElem?_map,List.getElem?_range h]
  rfl
theorem mks_set {m x : Nat} (c : List Nat) : (mks m c).set x (V.bl true) = mks m (c ++ [x]) := by
  unfold mks
  apply List.ext_getElem
  · simp
  intro i h1 h2
  rw [List.getElem_set]
  simp only [List.getElem_map,List.getElem_range]
  by_cases h : x = i
  · subst h
    simp
  · simp [h,Ne.symm h]
theorem mks_nil : ∀ m : Nat,(List.replicate m [V.bl false]).flatten = mks m []
  | 0 => rfl
  | m + 1 => by
    rw [List.replicate_succ',List.flatten_append,mks_nil m]
    unfold mks
    rw [List.range_succ,List.map_append]
    rfl
def spMarks : Sp := fun vs H Q _ => ∃ (a : Addr) (m : Nat) (b : List Nat),vs = [.int (m : Nat),.ref a] ∧ (H a = some (.lst (nats b)) ∨ H a = some (.tup (nats b))) ∧ m ≤ 60 ∧ (∀ x ∈ b,x < m) ∧ ∀ (l : Addr) (H' : Hp),H l = none → Same H H' → H' l = some (.lst (mks m b)) → Q (.ref l) H'
theorem scMarksOf : FnScope ["points", "block", "marks", "point"] ["points", "block"] (defScope sMarksOf) := ⟨rfl,rfl,rfl,by decide +kernel,rfl,by decide +kernel,by decide +kernel⟩
theorem ok_marks {f : Addr} {fd : FuncData} (F : Fun K "marks_of" "marks_of" sMarksOf f fd) (T : TxtB mg) : FnOk P w K mg base CX0 1 f fd ["points", "block"] spMarks := by
  refine F.okQ scMarksOf (fun vs H Q E h => ?_) (fun cdv A outer s H vs Q E hr h => ?_)
  · obtain ⟨a,m,b,rfl,_⟩ := h
    rfl
  · obtain ⟨a,m,b,rfl,ha,hm,hb,q⟩ := h
    refine ⟨_,(qss_cons (qs_set (i := 2) scMarksOf.nd rfl (Or.inl rfl) (qe_op op_mulL (qe_lst (qac qe_bl qa_nil)) (qv 0)))
      (qss_cons (qs_for PassesOwn.never rfl (qi_seq (qv 1)) (qg_name (i := 3) scMarksOf.nd rfl (Or.inl rfl))
        (qss_one (qs_asg qe_bl (qg_sub (qv 2) (qv 3) set_list))))
      (qss_one (qs_ret (qv 2))))),?_⟩
    refine ⟨by show 1 ≤ sizeLine; decide,fun d hd => ⟨_,rfl,d,[V.bl false],(m : Int),rfl,rfl,SqL.of upd_same,by omega,by omega,by show 1 * (m : Int).toNat ≤ 65536; omega,fun l hl => ?_⟩⟩
    have w1 := same_new (o := .lst [V.bl false]) hd
    have w2 := same_new (o := .lst (List.replicate (m : Int).toNat [V.bl false]).flatten) hl
    have hl0 : H l = none := w1.free hl
    have key : ∀ i x σ (H3 : Hp),(nats b)[i]? = some x → (Same H H3 ∧ ∃ x3,σ = [some (V.int (m : Nat)),some (V.ref a),some (V.ref l),x3] ∧ H3 l = some (.lst (mks m (b.take i)))) → ∃ p : Nat,x = .int (p : Nat) ∧ ixN (mks m (b.take i)).length (p : Nat) = some p ∧ H3 l = some (.lst (mks m (b.take i))) ∧ Same H (upd H3 l (.lst ((mks m (b.take i)).set p (V.bl true)))) ∧ upd H3 l (.lst ((mks m (b.take i)).set p (V.bl true))) l = some (.lst (mks m (b.take (i + 1)))) := by
      rintro i x σ H3 hi ⟨s3,x3,_,hl3⟩
      obtain ⟨p,hp,rfl⟩ := L2.nats_get hi
      have hpm := hb p (List.mem_of_getElem? hp)
      refine ⟨p,rfl,?_,hl3,same_upd s3 hl0,?_⟩
      · unfold ixN
        rw [if_pos (by omega),if_pos (by rw [mks_len]; omega),Int.toNat_natCast]
      · rw [upd_same,mks_set,take_snoc hp]
    have st : Same H (upd (upd H d (.lst [V.bl false])) l (.lst (List.replicate (m : Int).toNat [V.bl false]).flatten)) ∧ ∃ x3,[some (V.int (m : Nat)),some (V.ref a),some (V.ref l),none] = [some (V.int (m : Nat)),some (V.ref a),some (V.ref l),x3] ∧ upd (upd H d (.lst [V.bl false])) l (.lst (List.replicate (m : Int).toNat [V.bl false]).flatten) l = some (.lst (mks m (b.take 0))) := by
      refine ⟨w1.trans w2,none,rfl,?_⟩
      rw [upd_same,Int.toNat_natCast,mks_nil]
      rfl
    rcases ha with ha | ha
    · refine ⟨_,rfl,a,rfl,.inl ⟨⟨_,SqL.of ((w1.trans w2) _ _ ha)⟩,for_list (K := K) (xs := nats b) (fun i σ H3 => Same H H3 ∧ ∃ x3,σ = [some (V.int (m : Nat)),some (V.ref a),some (V.ref l),x3] ∧ H3 l = some (.lst (mks m (b.take i)))) st (fun i σ H3 _ ⟨s3,_⟩ => SqL.of (s3 _ _ ha)) ?_ ?_⟩⟩
      · rintro i x σ H3 hi hP
        obtain ⟨p,rfl,h1,h2,h3,h4⟩ := key i x σ H3 hi hP
        obtain ⟨s3,x3,rfl,hl3⟩ := hP
        exact ⟨_,rfl,_,rfl,l,_,_,p,rfl,rfl,h2,h1,h3,_,rfl,h4⟩
      · rintro σ H3 ⟨s3,x3,rfl,hl3⟩
        rw [nats_len,List.take_length] at hl3
        exact ⟨_,rfl,q l _ hl0 s3 hl3⟩
    · refine ⟨_,rfl,a,rfl,.inr ⟨⟨_,SqT.of ((w1.trans w2) _ _ ha)⟩,for_tup (K := K) (xs := nats b) (fun i σ H3 => Same H H3 ∧ ∃ x3,σ = [some (V.int (m : Nat)),some (V.ref a),some (V.ref l),x3] ∧ H3 l = some (.lst (mks m (b.take i)))) st (fun i σ H3 _ ⟨s3,_⟩ => SqT.of (s3 _ _ ha)) ?_ ?_⟩⟩
      · rintro i x σ H3 hi hP
        obtain ⟨p,rfl,h1,h2,h3,h4⟩ := key i x σ H3 hi hP
        obtain ⟨s3,x3,rfl,hl3⟩ := hP
        exact ⟨_,rfl,_,rfl,l,_,_,p,rfl,rfl,h2,h1,h3,_,rfl,h4⟩
      · rintro σ H3 ⟨s3,x3,rfl,hl3⟩
        rw [nats_len,List.take_length] at hl3
        exact ⟨_,rfl,q l _ hl0 s3 hl3⟩
theorem eiT {i j : Int} {A B : Prop} (h : i = j) (k : A) : if decide (V.int i = V.int j) = true then A else B := by
  rw [if_pos (by simp [h])]
  exact k
theorem eiF {i j : Int} {A B : Prop} (h : i ≠ j) (k : B) : if decide (V.int i = V.int j) = true then A else B := by
  rw [if_neg (by simp [h])]
  exact k
def dSt (x : Str) (L : List Nat) : PyData := .tuple (.str x :: L.map fun p => PyData.int ((p : Nat) : Int))
theorem st_isD {K : PySem.W.Frag} {H : Hp} {t : Addr} {x : Str} {L : List Nat} (h : H t = some (.tup (.str x :: nats L))) : IsD K H (dSt x L) (.ref t) := by
  simp only [dSt,IsD,IsDs]
  exact ⟨t,_,rfl,SqT.of h,_,_,rfl,rfl,ints_isD' L⟩
theorem st_shaped {x : Str} {L : List Nat} (hx : PyData.strOk x = true) : PySem.SeqAt.shaped (dSt x L) = true := by
  unfold PySem.SeqAt.shaped dSt
  rw [Bool.and_eq_true]
  refine ⟨?_,decide_eq_true ?_⟩
  · simp only [PyData.canLay0,PyData.canLayAll0,hx,lay_ints' L,Bool.and_self]
  · have := depth_ints' L
    simp only [PyData.depth,PyData.depthAll]
    omega
theorem st_eqv (x : Str) (L : List Nat) : PyData.eqv (dSt x L) (dSt x L) = true := by
  simp only [dSt,PyData.eqv,PyData.eqvAll,eqv_ints' L]
  simp
theorem isD_blkS {K : PySem.W.Frag} {H : Hp} {a : Addr} {L : List Nat} (h : H a = some (.lst (nats L))) : IsD K H (dBlk L) (.ref a) := by
  simp only [dBlk,IsD]
  exact ⟨a,_,rfl,SqL.of h,ints_isD' L⟩
theorem eqv_intsS : ∀ L M : List Nat,PyData.eqvAll (L.map fun p => PyData.int ((p : Nat) : Int)) (M.map fun p => PyData.int ((p : Nat) : Int)) = decide (L = M)
  | [],[] => by simp [PyData.eqvAll]
  | [],_ :: _ => by simp [PyData.eqvAll]
  | _ :: _,[] => by simp [PyData.eqvAll]
  | x :: L,y :: M => by
    have ih := eqv_intsS L M
    simp only [List.map_cons,PyData.eqvAll,PyData.eqv,ih]
    by_cases h : x = y
    · subst h
      simp
    · have : ¬ ((x : Int) = (y : Int)) := by omega
      simp [h,this]
theorem eqv_blkS (L M : List Nat) : PyData.eqv (dBlk L) (dBlk M) = decide (L = M) := by
  simp only [dBlk,PyData.eqv]
  exact eqv_intsS L M
theorem take_natsS (b : List Nat) : b.take (nats b).length = b := by rw [nats_len,List.take_length]
def ins (pts b : List Nat) : List Nat := b.filter fun x => decide (x ∈ pts)
theorem ins_snoc {pts b : List Nat} {i x : Nat} (h : b[i]? = some x) : ins pts (b.take (i + 1)) = if x ∈ pts then ins pts (b.take i) ++ [x] else ins pts (b.take i) := by
  unfold ins
  rw [take_snoc h,List.filter_append]
  by_cases hx : x ∈ pts
  · simp [hx]
  · simp [hx]
theorem ins_le (pts b : List Nat) : (ins pts b).length ≤ b.length := List.length_filter_le ..
def FirstW (bad : List Nat → Prop) (good x : Str) (L : List Nat → List Nat) (bs : List (List Nat)) (w : Str) (M : List Nat) : Prop :=
  (w = good ∧ M = [] ∧ ∀ b ∈ bs,¬ bad b) ∨ ∃ k b,w = x ∧ M = k :: L b ∧ bs[k]? = some b ∧ bad b ∧ ∀ (j : Nat) b',j < k → bs[j]? = some b' → ¬ bad b'
theorem first_none {bad : List Nat → Prop} {good x : Str} {L : List Nat → List Nat} {bs : List (List Nat)} (h : ∀ (j : Nat) b',j < bs.length → bs[j]? = some b' → ¬ bad b') : FirstW bad good x L bs good [] := by
  refine .inl ⟨rfl,rfl,fun b hb => ?_⟩
  obtain ⟨j,hj⟩ := List.getElem?_of_mem hb
  exact h j b (List.getElem?_eq_some_iff.mp hj).1 hj
theorem first_step {bad : List Nat → Prop} {bs : List (List Nat)} {i : Nat} {b : List Nat} (h : ∀ (j : Nat) b',j < i → bs[j]? = some b' → ¬ bad b') (hi : bs[i]? = some b) (hb : ¬ bad b) : ∀ (j : Nat) b',j < i + 1 → bs[j]? = some b' → ¬ bad b' := by
  intro j b' hj hj'
  by_cases e : j = i
  · subst e
    rw [hi] at hj'
    cases hj'
    exact hb
  · exact h j b' (by omega) hj'
def arcB (pts b : List Nat) : Prop := 2 < (ins pts b).length
def arcW (pts : List Nat) : List (List Nat) → Str → List Nat → Prop := FirstW (arcB pts) "arc" "three" fun b => (ins pts b).take 3
def metB (pts b : List Nat) : Prop := (ins pts b).length = 0
def metW (pts : List Nat) : List (List Nat) → Str → List Nat → Prop := FirstW (metB pts) "meets" "missed" fun _ => []
def spToldS (W : List Nat → List (List Nat) → Str → List Nat → Prop) : Sp := fun vs H Q _ => ∃ (t a : Addr) (m : Nat) (bs : List (List Nat)) (pts : List Nat),vs = [.ref t,.ref a] ∧ LayA H t m bs ∧ m ≤ 60 ∧ (∀ b ∈ bs,Blk m b) ∧ H a = some (.lst (nats pts)) ∧ (∀ x ∈ pts,x < m) ∧
  ∀ (u : Addr) (x : Str) (L : List Nat) (H' : Hp),Same H H' → H' u = some (.tup (.str x :: nats L)) → W pts bs x L → Q (.ref u) H'
def spMarkedOf : Sp := fun vs H Q _ => ∃ (d l : Addr) (m : Nat) (b pts : List Nat),vs = [.ref d,.ref l] ∧ H d = some (.tup (nats b)) ∧ H l = some (.lst (mks m pts)) ∧ m ≤ 60 ∧ Blk m b ∧ ∀ (r : Addr) (H' : Hp),H r = none → Same H H' → H' r = some (.lst (nats (ins pts b))) → Q (.ref r) H'
theorem scMarkedOf : FnScope ["points", "marks"] ["points", "marks"] (defScope sMarkedOf) := ⟨rfl,rfl,rfl,by decide +kernel,rfl,by decide +kernel,by decide +kernel⟩
theorem ok_markedOf {f : Addr} {fd : FuncData} (F : Fun K "marked_of" "marked_of" sMarkedOf f fd) (T : TxtB mg) : FnOk P w K mg base CX0 1 f fd ["points", "marks"] spMarkedOf := by
  refine F.okQ scMarkedOf (fun vs H Q E h => ?_) (fun cdv A outer s H vs Q E hr h => ?_)
  · obtain ⟨d,l,m,b,pts,rfl,_⟩ := h
    rfl
  · obtain ⟨d,l,m,b,pts,rfl,hd,hl,hm,hb,q⟩ := h
    refine ⟨_,(qss_one (qs_ret (qe_comp (g := gName 0) (N := ["point", "marks"]) (src := [none,some 1]) rfl (comp_scope (defScope sMarkedOf) ["points", "marks"] rfl rfl (by decide +kernel) rfl) (qi_tup (qv 0)) (fun _ _ _ _ _ => (qg_name (i := 0) (show (["point", "marks"] : List Str).Nodup by decide +kernel) rfl (Or.inl rfl) (Or.inr rfl))) (fun _ _ _ _ _ => (qif_one (qt_val (qe_ix (show IxR _ (rIxL K) from ix_list) (qv 1) (qv 0) (fun _ _ => rfl))))) (fun _ _ _ _ _ => (qv 0))))),?_⟩
    refine ⟨_,rfl,d,rfl,⟨_,SqT.of hd⟩,comp_tup (K := K) (xs := nats b) (fun i zs H2 => H2 = H ∧ zs = nats (ins pts (b.take i))) ⟨rfl,rfl⟩ (fun i zs H2 _ ⟨e,_⟩ => SqT.of (e ▸ hd)) ?_ ?_⟩
    · rintro i v zs H2 N hi ⟨rfl,rfl⟩ nx
      obtain ⟨x,hx,rfl⟩ := L2.nats_get hi
      have hxm := hb.lt x (List.mem_of_getElem? hx)
      have e := ins_snoc (pts := pts) hx
      refine ⟨Weak.set (by intro v z; cases z),?_⟩
      refine ⟨_,rfl,_,rfl,l,_,_,_,rfl,rfl,SqL.of hl,atI_nat (mks_get pts hxm),_,rfl,?_⟩
      have hlt : (ins pts (b.take i)).length < sizeLine := by
        refine Nat.lt_of_le_of_lt (ins_le ..) (Nat.lt_of_le_of_lt (List.length_take_le' ..) (Nat.lt_of_le_of_lt hb.len (Nat.lt_of_le_of_lt hm (by decide))))
      refine ite2 (fun h1 => ?_) (fun h1 => ?_)
      · have h1 := of_decide_eq_true h1
        rw [if_pos h1] at e
        refine ⟨_,rfl,by rw [nats_len]; exact hlt,nx _ _ ⟨rfl,by rw [e,nats_snoc]⟩⟩
      · have h1 : ¬ x ∈ pts := fun z => h1 (decide_eq_true z)
        rw [if_neg h1] at e
        exact nx _ _ ⟨rfl,by rw [e]⟩
    · rintro zs H2 ⟨rfl,rfl⟩
      rw [take_natsS]
      refine ⟨by rw [nats_len]; exact Nat.le_trans (ins_le ..) (Nat.le_trans hb.len (Nat.le_trans hm (by decide))),fun r hr => ?_⟩
      exact q r _ hr (same_new hr) upd_same
theorem three_of {L : List Nat} (h : 2 < L.length) : ∃ a b c,L[0]? = some a ∧ L[1]? = some b ∧ L[2]? = some c ∧ L.take 3 = [a,b,c] := by
  match L,h with
  | a :: b :: c :: r,_ => exact ⟨a,b,c,rfl,rfl,rfl,rfl⟩
theorem nats_at {L : List Nat} {i x : Nat} (h : L[i]? = some x) : (nats L)[i]? = some (V.int ((x : Nat) : Int)) := by
  unfold nats
  rw [List.getElem?_map,h]
  rfl
theorem scArcTold : FnScope ["M", "points", "marks", "number", "block", "inside"] ["M", "points"] (defScope sArcTold) := ⟨rfl,rfl,rfl,by decide +kernel,rfl,by decide +kernel,by decide +kernel⟩
theorem ok_arcTold {f : Addr} {fd : FuncData} (F : Fun K "arc_told" "arc_told" sArcTold f fd) (T : TxtB mg) (pMarksOf : Pm P w K mg base CX0 1 "marks_of" ["points", "block"] spMarks) (pMarkedOf : Pm P w K mg base CX0 1 "marked_of" ["points", "marks"] spMarkedOf) : FnOk P w K mg base CX0 2 f fd ["M", "points"] (spToldS arcW) := by
  refine F.okQ scArcTold (fun vs H Q E h => ?_) (fun cdv A outer s H vs Q E hr h => ?_)
  · obtain ⟨t,a,m,bs,pts,rfl,_⟩ := h
    rfl
  · obtain ⟨t,a,m,bs,pts,rfl,⟨lb,ws,ht,hlb,hT,hlen⟩,hm,hb,ha,hp,q⟩ := h
    refine ⟨_,(qss_cons (qs_set (i := 2) scArcTold.nd rfl (Or.inl rfl) (qe_callP pMarksOf hr rfl pass0 (qac (qe_ix ix_tup (qv 0) qe_int (fun _ _ => rfl)) (qac (qv 1) qa_nil))))
      (qss_cons (qs_for PassesOwn.never rfl (qi_enumT rfl T.enu (qac (qe_ix ix_tup (qv 0) qe_int (fun _ _ => rfl)) qa_nil)) (qg_tup rfl (qgs_cons (qg_name (i := 3) scArcTold.nd rfl (Or.inl rfl)) (qgs_cons (qg_name (i := 4) scArcTold.nd rfl (Or.inl rfl)) qgs_nil)))
        (qss_cons (qs_set (i := 5) scArcTold.nd rfl (Or.inl rfl) (qe_callP pMarkedOf hr rfl pass0 (qac (qv 4) (qac (qv 2) qa_nil))))
        (qss_one (qs_if (qt_cmpR op_gt (qe_callB call_len_seq (by rfl) T.len PySem.boot_len (qac (qv 5) qa_nil)) qe_int (nomark _)) (qss_one (qs_ret (qe_tup (qac qe_str (qac (qv 3) (qac (qe_ix ix_list (qv 5) qe_int (fun _ _ => rfl)) (qac (qe_ix ix_list (qv 5) qe_int (fun _ _ => rfl)) (qac (qe_ix ix_list (qv 5) qe_int (fun _ _ => rfl)) qa_nil)))))))) qss_nil))))
      (qss_one (qs_ret (qe_tup (qac qe_str qa_nil)))))),?_⟩
    refine ⟨_,rfl,t,_,0,.int (m : Nat),rfl,rfl,SqT.of ht,rfl,_,rfl,a,m,pts,rfl,.inl ha,hm,hp,fun l H1 hl0 s1 hl => ?_⟩
    have ht1 := s1 _ _ ht
    have hlb1 := s1 _ _ hlb
    refine ⟨_,rfl,t,_,1,.ref lb,rfl,rfl,SqT.of ht1,rfl,lb,rfl,⟨_,SqT.of hlb1⟩,for_enumT (K := K) (a := lb) (xs := ws) (fun i σ H2 => Same H1 H2 ∧ (∃ x3 x4 x5,σ = [some (.ref t),some (.ref a),some (.ref l),x3,x4,x5]) ∧ ∀ (j : Nat) b',j < i → bs[j]? = some b' → ¬ arcB pts b') ⟨Same.refl _,⟨none,none,none,rfl⟩,fun j b' z => by omega⟩ (fun i σ H2 _ ⟨e,_⟩ => SqT.of (e _ _ hlb1)) ?_ ?_⟩
    · rintro i v T1 σ H2 hi ⟨s2,⟨x3,x4,x5,rfl⟩,hno⟩ hT1
      obtain ⟨d,b,rfl,hbs,hd⟩ := (hT.sm (s1.trans s2)).get hi
      have hbb := hb b (List.mem_of_getElem? hbs)
      have w1 := same_new (o := .tup [V.int ((i : Nat) : Int),V.ref d]) hT1
      have s3 := s2.trans w1
      have hd3 := w1 _ _ hd
      refine ⟨T1,_,rfl,SqT.of upd_same,rfl,_,_,rfl,_,_,rfl,rfl,?_⟩
      generalize upd H2 T1 (.tup [V.int ((i : Nat) : Int),V.ref d]) = H3 at s3 hd3 ⊢
      refine ⟨_,rfl,_,rfl,d,l,m,b,pts,rfl,hd3,s3 _ _ hl,hm,hbb,fun r H4 hr0 s4 hr4 => ?_⟩
      refine ⟨_,rfl,r,_,rfl,.inl (SqL.of hr4),_,_,rfl,rfl,_,rfl,?_⟩
      rw [nats_len]
      refine ite2 (fun h1 => ?_) (fun h1 => ?_)
      · have h1 : arcB pts b := by
          have := of_decide_eq_true h1
          unfold arcB
          omega
        obtain ⟨x,y,z,e1,e2,e3,e4⟩ := three_of h1
        refine ⟨_,rfl,_,rfl,r,_,0,_,rfl,rfl,SqL.of hr4,atI_nat (nats_at e1),_,rfl,r,_,1,_,rfl,rfl,SqL.of hr4,atI_nat (nats_at e2),_,rfl,r,_,2,_,rfl,rfl,SqL.of hr4,atI_nat (nats_at e3),by show 5 ≤ sizeLine; decide,fun u hu => ?_⟩
        refine q u "three" [i,x,y,z] _ (s1.trans (s3.trans (s4.trans (same_new hu)))) upd_same (.inr ⟨i,b,rfl,?_,hbs,h1,hno⟩)
        show _ = i :: (ins pts b).take 3
        rw [e4]
      · have h1 : ¬ arcB pts b := fun z => h1 (decide_eq_true (by unfold arcB at z; omega))
        exact ⟨s3.trans s4,⟨_,_,_,rfl⟩,first_step hno hbs h1⟩
    · rintro σ H2 ⟨s2,⟨x3,x4,x5,rfl⟩,hno⟩
      refine ⟨by show 1 ≤ sizeLine; decide,fun u hu => q u "arc" [] _ (s1.trans (s2.trans (same_new hu))) upd_same (first_none ?_)⟩
      rw [hT.len] at hno
      exact hno
theorem scMeetingTold : FnScope ["M", "points", "marks", "number", "block"] ["M", "points"] (defScope sMeetingTold) := ⟨rfl,rfl,rfl,by decide +kernel,rfl,by decide +kernel,by decide +kernel⟩
theorem ok_metTold {f : Addr} {fd : FuncData} (F : Fun K "meeting_told" "meeting_told" sMeetingTold f fd) (T : TxtB mg) (pMarksOf : Pm P w K mg base CX0 1 "marks_of" ["points", "block"] spMarks) (pMarkedOf : Pm P w K mg base CX0 1 "marked_of" ["points", "marks"] spMarkedOf) : FnOk P w K mg base CX0 2 f fd ["M", "points"] (spToldS metW) := by
  refine F.okQ scMeetingTold (fun vs H Q E h => ?_) (fun cdv A outer s H vs Q E hr h => ?_)
  · obtain ⟨t,a,m,bs,pts,rfl,_⟩ := h
    rfl
  · obtain ⟨t,a,m,bs,pts,rfl,⟨lb,ws,ht,hlb,hT,hlen⟩,hm,hb,ha,hp,q⟩ := h
    refine ⟨_,(qss_cons (qs_set (i := 2) scMeetingTold.nd rfl (Or.inl rfl) (qe_callP pMarksOf hr rfl pass0 (qac (qe_ix ix_tup (qv 0) qe_int (fun _ _ => rfl)) (qac (qv 1) qa_nil))))
      (qss_cons (qs_for PassesOwn.never rfl (qi_enumT rfl T.enu (qac (qe_ix ix_tup (qv 0) qe_int (fun _ _ => rfl)) qa_nil)) (qg_tup rfl (qgs_cons (qg_name (i := 3) scMeetingTold.nd rfl (Or.inl rfl)) (qgs_cons (qg_name (i := 4) scMeetingTold.nd rfl (Or.inl rfl)) qgs_nil)))
        (qss_one (qs_if (qt_cmpR op_eq (qe_callB call_len_seq (by rfl) T.len PySem.boot_len (qac (qe_callP pMarkedOf hr rfl pass0 (qac (qv 4) (qac (qv 2) qa_nil))) qa_nil)) qe_int (nomark _)) (qss_one (qs_ret (qe_tup (qac qe_str (qac (qv 3) qa_nil))))) qss_nil)))
      (qss_one (qs_ret (qe_tup (qac qe_str qa_nil)))))),?_⟩
    refine ⟨_,rfl,t,_,0,.int (m : Nat),rfl,rfl,SqT.of ht,rfl,_,rfl,a,m,pts,rfl,.inl ha,hm,hp,fun l H1 hl0 s1 hl => ?_⟩
    have ht1 := s1 _ _ ht
    have hlb1 := s1 _ _ hlb
    refine ⟨_,rfl,t,_,1,.ref lb,rfl,rfl,SqT.of ht1,rfl,lb,rfl,⟨_,SqT.of hlb1⟩,for_enumT (K := K) (a := lb) (xs := ws) (fun i σ H2 => Same H1 H2 ∧ (∃ x3 x4,σ = [some (.ref t),some (.ref a),some (.ref l),x3,x4]) ∧ ∀ (j : Nat) b',j < i → bs[j]? = some b' → ¬ metB pts b') ⟨Same.refl _,⟨none,none,rfl⟩,fun j b' z => by omega⟩ (fun i σ H2 _ ⟨e,_⟩ => SqT.of (e _ _ hlb1)) ?_ ?_⟩
    · rintro i v T1 σ H2 hi ⟨s2,⟨x3,x4,rfl⟩,hno⟩ hT1
      obtain ⟨d,b,rfl,hbs,hd⟩ := (hT.sm (s1.trans s2)).get hi
      have hbb := hb b (List.mem_of_getElem? hbs)
      have w1 := same_new (o := .tup [V.int ((i : Nat) : Int),V.ref d]) hT1
      have s3 := s2.trans w1
      have hd3 := w1 _ _ hd
      refine ⟨T1,_,rfl,SqT.of upd_same,rfl,_,_,rfl,_,_,rfl,rfl,?_⟩
      generalize upd H2 T1 (.tup [V.int ((i : Nat) : Int),V.ref d]) = H3 at s3 hd3 ⊢
      refine ⟨_,rfl,_,rfl,d,l,m,b,pts,rfl,hd3,s3 _ _ hl,hm,hbb,fun r H4 hr0 s4 hr4 => ?_⟩
      refine ⟨r,_,rfl,.inl (SqL.of hr4),rfl,_,rfl,?_⟩
      rw [nats_len]
      by_cases h1 : metB pts b
      · refine eiT (show (((ins pts b).length : Nat) : Int) = 0 by unfold metB at h1; omega) ?_
        refine ⟨_,rfl,by show 2 ≤ sizeLine; decide,fun u hu => ?_⟩
        exact q u "missed" [i] _ (s1.trans (s3.trans (s4.trans (same_new hu)))) upd_same (.inr ⟨i,b,rfl,rfl,hbs,h1,hno⟩)
      · refine eiF (show (((ins pts b).length : Nat) : Int) ≠ 0 by unfold metB at h1; omega) ?_
        exact ⟨s3.trans s4,⟨_,_,rfl⟩,first_step hno hbs h1⟩
    · rintro σ H2 ⟨s2,⟨x3,x4,rfl⟩,hno⟩
      refine ⟨by show 1 ≤ sizeLine; decide,fun u hu => q u "meets" [] _ (s1.trans (s2.trans (same_new hu))) upd_same (first_none ?_)⟩
      rw [hT.len] at hno
      exact hno
theorem none_of {H H' : Hp} (s : Same H H') {r : Addr} (h : H' r = none) : H r = none := by
  cases e : H r with
  | none => rfl
  | some o => rw [s _ _ e] at h; cases h
theorem str_app_len (a b : Str) : (a ++ b).length = a.length + b.length := by
  show (a.cps ++ b.cps).size = _
  rw [Array.size_append]
  rfl
theorem scXInit : FnScope ["self", "block"] ["self", "block"] (defScope sXInit) := ⟨rfl,rfl,rfl,by decide +kernel,rfl,by decide +kernel,by decide +kernel⟩
theorem ok_xinit {f : Addr} {fd : FuncData} (F : FunD K "__init__" "NoArc.__init__" sXInit f fd) (B : BaseX K M) (mM : mg "MeetError" = some (.ref M)) : FnOk P w K mg base CX0 1 f fd ["self", "block"] (spXI K "block") := by
  refine F.okQ scXInit (fun vs H Q E h => ?_) (fun cdv A outer s H vs Q E hr h => ?_)
  · obtain ⟨e,C,fI,v,rfl,_⟩ := h
    rfl
  · obtain ⟨e,C,fI,v,rfl,hH,O,hv,q⟩ := h
    refine ⟨_,(qss_cons (qs_expr (qe_xinit B rfl mM (qac (qv 0) (qac (qe_fstr (qf_cons qe_str (qf_cons (qe_frep (qv 1)) qf_nil))) qa_nil)))) (qss_one (qs_xset (qv 0) (qv 1)))),?_⟩
    have fin : ∀ y : Str,y.length ≤ 5 → ∀ z : Str,z = Str.empty ++ "no arc; block: " ++ y → z.length ≤ sizeLine := fun y hy z hz => by
      have e0 : (Str.empty ++ ("no arc; block: " : Str)).length = 15 := by decide +kernel
      have : z.length = 15 + y.length := by rw [hz,str_app_len,e0]
      exact Nat.le_trans (show z.length ≤ 100 by omega) (by decide)
    refine ⟨_,rfl,_,rfl,by decide +kernel,_,rfl,?_⟩
    rcases hv with ⟨i,rfl,hi⟩ | rfl
    · have hd := dig_len ⟨i,by omega⟩
      refine .inl ⟨_,rfl,Nat.lt_of_le_of_lt (Nat.log2_le_self _) (by show i < 1920; omega),Nat.le_trans hd (by decide),_,rfl,fin _ hd _ rfl,fin _ hd _ rfl,e,C,fI, "block",none,_,rfl,hH,O,_,rfl,_,rfl,e,C,fI,rfl,hH,O,fun dx hdx => q dx hdx⟩
    · refine .inr ⟨rfl,_,rfl,fin _ (by decide +kernel) _ rfl,fin _ (by decide +kernel) _ rfl,e,C,fI, "block",none,_,rfl,hH,O,_,rfl,_,rfl,e,C,fI,rfl,hH,O,fun dx hdx => q dx hdx⟩
theorem bindsXI {f : Addr} {fd : FuncData} (F : FunD K "__init__" "NoArc.__init__" sXInit f fd) : Binds K fd ["self", "block"] [] := F.binds fun _ _ _ _ _ _ _ us hl => match us,hl with | [_,_],_ => ⟨_,rfl,rfl⟩
def kept (m : Nat) (pts : List Nat) : List Nat := (List.range m).filter fun p => decide (p ∈ pts)
theorem kept_mem {m : Nat} {pts : List Nat} {x : Nat} : x ∈ kept m pts ↔ x < m ∧ x ∈ pts := by
  unfold kept
  rw [List.mem_filter,List.mem_range,decide_eq_true_iff]
theorem kept_snoc (i : Nat) (pts : List Nat) : kept (i + 1) pts = if i ∈ pts then kept i pts ++ [i] else kept i pts := by
  unfold kept
  rw [List.range_succ,List.filter_append]
  by_cases h : i ∈ pts
  · simp [h]
  · simp [h]
theorem kept_le (m : Nat) (pts : List Nat) : (kept m pts).length ≤ m := by
  unfold kept
  exact Nat.le_trans (List.length_filter_le ..) (Nat.le_of_eq List.length_range)
def spAllM : Sp := fun vs H Q _ => ∃ (l : Addr) (m : Nat) (pts : List Nat),vs = [.ref l] ∧ H l = some (.lst (mks m pts)) ∧ m ≤ 60 ∧ ∀ (r : Addr) (H' : Hp),H r = none → Same H H' → H' r = some (.lst (nats (kept m pts))) → Q (.ref r) H'
theorem scAllMarked : FnScope ["marks"] ["marks"] (defScope sAllMarked) := ⟨rfl,rfl,rfl,by decide +kernel,rfl,by decide +kernel,by decide +kernel⟩
theorem ok_allM {f : Addr} {fd : FuncData} (F : Fun K "all_marked" "all_marked" sAllMarked f fd) (T : TxtB mg) : FnOk P w K mg base CX0 1 f fd ["marks"] spAllM := by
  refine F.okQ scAllMarked (fun vs H Q E h => ?_) (fun cdv A outer s H vs Q E hr h => ?_)
  · obtain ⟨l,m,pts,rfl,_⟩ := h
    rfl
  · obtain ⟨l,m,pts,rfl,hl,hm,q⟩ := h
    refine ⟨_,(qss_one (qs_ret (qe_comp (g := gTup K 2 (gCons (gName 0) (gCons (gName 1) gNil))) (N := ["point", "mark"]) (src := [none,none]) rfl (comp_scope (defScope sAllMarked) ["marks"] rfl rfl (by decide +kernel) rfl) (qi_enum rfl T.enu (qac (qv 0) qa_nil)) (fun _ _ _ _ _ => (show QG _ _ (gTup K 2 _) from qg_tup rfl (qgs_cons (qg_name (i := 0) (show (["point", "mark"] : List Str).Nodup by decide +kernel) rfl (Or.inl rfl) (Or.inr rfl)) (qgs_cons (qg_name (i := 1) (show (["point", "mark"] : List Str).Nodup by decide +kernel) rfl (Or.inl rfl) (Or.inr rfl)) qgs_nil)))) (fun _ _ _ _ _ => (qif_one (qt_val (qv 1)))) (fun _ _ _ _ _ => (qv 0))))),?_⟩
    refine ⟨_,rfl,l,rfl,⟨_,SqL.of hl⟩,comp_enum (K := K) (a := l) (xs := mks m pts) (fun i zs H2 => Same H H2 ∧ zs = nats (kept i pts)) ⟨Same.refl _,rfl⟩ (fun i zs H2 _ ⟨e,_⟩ => SqL.of (e _ _ hl)) ?_ ?_⟩
    · rintro i v x zs H2 N hi ⟨s2,rfl⟩ hx nx
      have hil := (List.getElem?_eq_some_iff.mp hi).1
      rw [mks_len] at hil
      rw [mks_get pts hil] at hi
      cases hi
      have w1 := same_new (o := .tup [.int ((i : Nat) : Int),.bl (decide (i ∈ pts))]) hx
      have e := kept_snoc i pts
      refine ⟨x,_,rfl,SqT.of upd_same,rfl,_,_,rfl,_,_,rfl,rfl,(Weak.set (by intro v z; cases z)).trans (Weak.set (by intro v z; cases z)),?_⟩
      refine ⟨_,rfl,_,rfl,?_⟩
      have hlt : (kept i pts).length < sizeLine := Nat.lt_of_le_of_lt (kept_le i pts) (Nat.lt_of_lt_of_le hil (Nat.le_trans hm (by decide)))
      refine ite2 (fun h1 => ?_) (fun h1 => ?_)
      · have h1 := of_decide_eq_true h1
        rw [if_pos h1] at e
        exact ⟨_,rfl,by rw [nats_len]; exact hlt,nx _ _ ⟨s2.trans w1,by rw [e,nats_snoc]⟩⟩
      · have h1 : ¬ i ∈ pts := fun z => h1 (decide_eq_true z)
        rw [if_neg h1] at e
        exact nx _ _ ⟨s2.trans w1,by rw [e]⟩
    · rintro zs H2 ⟨s2,rfl⟩
      rw [mks_len]
      refine ⟨by rw [nats_len]; exact Nat.le_trans (kept_le ..) (Nat.le_trans hm (by decide)),fun r hr' => ?_⟩
      exact q r _ (none_of s2 hr') (s2.trans (same_new hr')) upd_same
theorem qt_isN {X : Cx} {a : Expr} {ta : TE} {j pos' pos} (ha : QE X a ta) : QT X (.Compare a [.Is] [.Constant .none j pos'] pos) (tB (tIsN ta)) := qt_cmp (pc_isN ha.h)
theorem ins_mem {pts b : List Nat} {x : Nat} : x ∈ ins pts b ↔ x ∈ b ∧ x ∈ pts := by
  unfold ins
  rw [List.mem_filter,decide_eq_true_iff]
theorem ins_kept {m : Nat} {q b : List Nat} (hb : Blk m b) : ins (kept m q) b = ins q b := by
  unfold ins
  refine List.filter_congr fun x hx => ?_
  have := hb.lt x hx
  simp only [kept_mem,this,true_and]
theorem bls_uniq {m : Nat} {b c : List Nat} (hb : Bls m b) (hc : Bls m c) (h : ∀ x,x ∈ b ↔ x ∈ c) : b = c :=
  List.Perm.eq_of_pairwise (le := (· < ·)) (fun _ _ _ _ h1 h2 => absurd h1 (Nat.lt_asymm h2)) hb.so hc.so ((List.perm_ext_iff_of_nodup hb.nd hc.nd).mpr h)
theorem kept_bls (m : Nat) (q : List Nat) : Bls m (kept m q) := ⟨List.Pairwise.sublist List.filter_sublist List.pairwise_lt_range,fun x hx => List.mem_range.mp (List.mem_filter.mp hx).1⟩
theorem rep_snoc (i : Nat) (c : Bool) : (List.replicate i c).map V.bl ++ [V.bl c] = (List.replicate (i + 1) c).map V.bl := by
  rw [List.replicate_succ',List.map_append]
  rfl
theorem rep_len (i : Nat) (c : Bool) : ((List.replicate i c).map V.bl).length = i := by rw [List.length_map,List.length_replicate]
theorem rep_all (n : Nat) : (List.replicate n true).all id = true := by simp
def TwoV (H : Hp) (pts : List Nat) (bs : List (List Nat)) (p : Nat) (v : V) : Prop := (∃ (u : Addr) (k : Nat) (b : List Nat) (x y : Nat) (r : List Nat),v = .ref u ∧ H u = some (.tup (nats [p,k,x,y])) ∧ bs[k]? = some b ∧ p ∈ b ∧ ins pts b = x :: y :: r) ∨ (v = .non ∧ ∀ b ∈ bs,p ∈ b → (ins pts b).length ≤ 1)
def spTwo : Sp := fun vs H Q _ => ∃ (t l : Addr) (m p : Nat) (bs : List (List Nat)) (pts : List Nat),vs = [.ref t,.ref l,.int (p : Nat)] ∧ LayA H t m bs ∧ m ≤ 60 ∧ (∀ b ∈ bs,Blk m b) ∧ H l = some (.lst (mks m pts)) ∧ ∀ (v : V) (H' : Hp),Same H H' → TwoV H' pts bs p v → Q v H'
theorem two_of {L : List Nat} (h : 1 < L.length) : ∃ x y r,L = x :: y :: r := by
  match L,h with
  | x :: y :: r,_ => exact ⟨x,y,r,rfl⟩
theorem scTwoBeside : FnScope ["M", "marks", "point", "number", "block", "inside"] ["M", "marks", "point"] (defScope sTwoBeside) := ⟨rfl,rfl,rfl,by decide +kernel,rfl,by decide +kernel,by decide +kernel⟩
theorem ok_two {f : Addr} {fd : FuncData} (F : Fun K "two_beside" "two_beside" sTwoBeside f fd) (T : TxtB mg) (pMarkedOf : Pm P w K mg base CX0 1 "marked_of" ["points", "marks"] spMarkedOf) : FnOk P w K mg base CX0 2 f fd ["M", "marks", "point"] spTwo := by
  refine F.okQ scTwoBeside (fun vs H Q E h => ?_) (fun cdv A outer s H vs Q E hr h => ?_)
  · obtain ⟨t,l,m,p,bs,pts,rfl,_⟩ := h
    rfl
  · obtain ⟨t,l,m,p,bs,pts,rfl,⟨lb,ws,ht,hlb,hT,hlen⟩,hm,hb,hl,q⟩ := h
    refine ⟨_,(qss_cons (qs_for PassesOwn.never rfl (qi_enumT rfl T.enu (qac (qe_ix ix_tup (qv 0) qe_int (fun _ _ => rfl)) qa_nil)) (qg_tup rfl (qgs_cons (qg_name (i := 3) scTwoBeside.nd rfl (Or.inl rfl)) (qgs_cons (qg_name (i := 4) scTwoBeside.nd rfl (Or.inl rfl)) qgs_nil)))
        (qss_one (qs_if (qt_cmpR op_in_seq (qv 2) (qv 4) rfl) (qss_cons (qs_set (i := 5) scTwoBeside.nd rfl (Or.inl rfl) (qe_callP pMarkedOf hr rfl pass0 (qac (qv 4) (qac (qv 1) qa_nil))))
          (qss_one (qs_if (qt_cmpR op_gt (qe_callB call_len_seq (by rfl) T.len PySem.boot_len (qac (qv 5) qa_nil)) qe_int (nomark _)) (qss_one (qs_ret (qe_tup (qac (qv 2) (qac (qv 3) (qac (qe_ix ix_list (qv 5) qe_int (fun _ _ => rfl)) (qac (qe_ix ix_list (qv 5) qe_int (fun _ _ => rfl)) qa_nil))))))) qss_nil))) qss_nil)))
      (qss_one (qs_ret qe_non))),?_⟩
    refine ⟨_,rfl,t,_,1,.ref lb,rfl,rfl,SqT.of ht,rfl,lb,rfl,⟨_,SqT.of hlb⟩,for_enumT (K := K) (a := lb) (xs := ws) (fun i σ H2 => Same H H2 ∧ (∃ x3 x4 x5,σ = [some (.ref t),some (.ref l),some (.int (p : Nat)),x3,x4,x5]) ∧ ∀ (j : Nat) b',j < i → bs[j]? = some b' → ¬ (p ∈ b' ∧ 1 < (ins pts b').length)) ⟨Same.refl _,⟨none,none,none,rfl⟩,fun j b' z => by omega⟩ (fun i σ H2 _ ⟨e,_⟩ => SqT.of (e _ _ hlb)) ?_ ?_⟩
    · rintro i v T1 σ H2 hi ⟨s2,⟨x3,x4,x5,rfl⟩,hno⟩ hT1
      obtain ⟨d,b,rfl,hbs,hd⟩ := (hT.sm s2).get hi
      have hbb := hb b (List.mem_of_getElem? hbs)
      have w1 := same_new (o := .tup [V.int ((i : Nat) : Int),V.ref d]) hT1
      have s3 := s2.trans w1
      have hd3 := w1 _ _ hd
      refine ⟨T1,_,rfl,SqT.of upd_same,rfl,_,_,rfl,_,_,rfl,rfl,?_⟩
      generalize upd H2 T1 (.tup [V.int ((i : Nat) : Int),V.ref d]) = H3 at s3 hd3 ⊢
      refine ⟨_,rfl,_,rfl,d,nats b,rfl,.inr (SqT.of hd3),rfl,flat_nats b,_,rfl,?_⟩
      show if inV (V.int ((p : Nat) : Int)) (nats b) = true then _ else _
      rw [inV_nats]
      by_cases hpb : p ∈ b
      rotate_left
      · rw [decide_eq_false hpb]
        exact iteF ⟨s3,⟨_,_,_,rfl⟩,first_step hno hbs fun z => hpb z.1⟩
      rw [decide_eq_true hpb]
      refine iteT ⟨_,rfl,_,rfl,d,l,m,b,pts,rfl,hd3,s3 _ _ hl,hm,hbb,fun r H4 hr0 s4 hr4 => ?_⟩
      refine ⟨_,rfl,r,_,rfl,.inl (SqL.of hr4),_,_,rfl,rfl,_,rfl,?_⟩
      rw [nats_len]
      refine ite2 (fun h1 => ?_) (fun h1 => ?_)
      · have h1 : 1 < (ins pts b).length := by
          have := of_decide_eq_true h1
          omega
        obtain ⟨x,y,r',e⟩ := two_of h1
        refine ⟨_,rfl,_,rfl,_,rfl,r,_,0,_,rfl,rfl,SqL.of hr4,atI_nat (nats_at (x := x) (by rw [e]; rfl)),_,rfl,r,_,1,_,rfl,rfl,SqL.of hr4,atI_nat (nats_at (x := y) (by rw [e]; rfl)),by show 4 ≤ sizeLine; decide,fun u hu => ?_⟩
        exact q _ _ (s3.trans (s4.trans (same_new hu))) (.inl ⟨u,i,b,x,y,r',rfl,upd_same,hbs,hpb,e⟩)
      · have h1 : ¬ 1 < (ins pts b).length := fun z => h1 (decide_eq_true (by omega))
        exact ⟨s3.trans s4,⟨_,_,_,rfl⟩,first_step hno hbs fun z => h1 z.2⟩
    · rintro σ H2 ⟨s2,⟨x3,x4,x5,rfl⟩,hno⟩
      refine q _ _ s2 (.inr ⟨rfl,fun b hbm hpb => ?_⟩)
      obtain ⟨k,hk⟩ := List.getElem?_of_mem hbm
      have hkl := (List.getElem?_eq_some_iff.mp hk).1
      have := hno k b (by rw [hT.len]; exact hkl) hk
      exact Nat.le_of_not_lt fun z => this ⟨hpb,z⟩
theorem ins_more_le {q : List Nat} {i : Nat} : ∀ {b : List Nat},b.Nodup → (ins (q ++ [i]) b).length ≤ (ins q b).length + (if i ∈ b then 1 else 0)
  | [],_ => by simp [ins]
  | x :: b,h => by
    rw [List.nodup_cons] at h
    have ih := ins_more_le (q := q) (i := i) h.2
    unfold ins at ih ⊢
    by_cases e : x = i
    · subst e
      rw [if_neg h.1] at ih
      rw [if_pos (by simp)]
      by_cases hq : x ∈ q
      · rw [List.filter_cons_of_pos (by simp [hq]),List.filter_cons_of_pos (by simp [hq])]
        simp only [List.length_cons]
        omega
      · rw [List.filter_cons_of_pos (by simp),List.filter_cons_of_neg (by simp [hq])]
        simp only [List.length_cons]
        omega
    · have em : (if i ∈ x :: b then 1 else 0) = if i ∈ b then 1 else 0 := by
        simp [Ne.symm e]
      rw [em]
      by_cases hq : x ∈ q
      · rw [List.filter_cons_of_pos (by simp [hq]),List.filter_cons_of_pos (by simp [hq])]
        simp only [List.length_cons]
        omega
      · rw [List.filter_cons_of_neg (by simp [hq,e]),List.filter_cons_of_neg (by simp [hq])]
        exact ih
theorem ins_more_ge {q : List Nat} {i : Nat} : ∀ (b : List Nat),(ins q b).length ≤ (ins (q ++ [i]) b).length
  | [] => by simp [ins]
  | x :: b => by
    have ih := ins_more_ge (q := q) (i := i) b
    unfold ins at ih ⊢
    by_cases hq : x ∈ q
    · rw [List.filter_cons_of_pos (by simp [hq]),List.filter_cons_of_pos (by simp [hq])]
      simp only [List.length_cons]
      omega
    · rw [List.filter_cons_of_neg (by simp [hq])]
      refine Nat.le_trans ih ?_
      by_cases e : x = i
      · rw [List.filter_cons_of_pos (by simp [e])]
        simp only [List.length_cons]
        omega
      · rw [List.filter_cons_of_neg (by simp [hq,e])]
        exact Nat.le_refl _
structure Grown (H : Hp) (u : Addr) (m : Nat) (bs : List (List Nat)) (pts gr : List Nat) (gA sA : Addr) (rws : List V) (R : List (List Nat)) : Prop where
  tu : H u = some (.tup [.ref gA,.ref sA])
  tg : H gA = some (.lst (nats gr))
  ts : H sA = some (.lst rws)
  tp : TpAt H rws R
  gb : Bls m gr
  sub : ∀ x ∈ pts,x ∈ gr
  arc : ∀ b ∈ bs,¬ arcB gr b
  fst : R.map (fun r => r.getD 0 0) = (List.range m).filter fun p => decide (p ∉ gr)
  ok : ∀ r ∈ R,∃ p k x y b rest,r = [p,k,x,y] ∧ bs[k]? = some b ∧ p ∈ b ∧ ins gr b = x :: y :: rest
def spGrown (C : Addr) : Sp := fun vs H Q E => ∃ (t a : Addr) (m : Nat) (bs : List (List Nat)) (pts : List Nat),vs = [.ref t,.ref a] ∧ LayA H t m bs ∧ m ≤ 60 ∧ (∀ b ∈ bs,Blk m b) ∧ H a = some (.lst (nats pts)) ∧ Bls m pts ∧
  (∀ (k : Nat) b,bs[k]? = some b → arcB pts b → (∀ (j : Nat) b',j < k → bs[j]? = some b' → ¬ arcB pts b') → ∀ dx H',Same H H' → H' dx = some (.xd [("block",.int ((k : Nat) : Int))]) → E (.ref C) (some dx) H') ∧
  ((∀ b ∈ bs,¬ arcB pts b) → ∀ u gr gA sA rws R H',H gA = none → H sA = none → gA ≠ sA → Same H H' → Grown H' u m bs pts gr gA sA rws R → Q (.ref u) H')
theorem word_ne : decide (V.str "arc" = V.str "three") = false := decide_eq_false fun z => by
  have : ("arc" : Str) = ("three" : Str) := V.str.inj z
  revert this
  decide +kernel
theorem out_snoc (i : Nat) (q : List Nat) : ((List.range (i + 1)).filter fun p => decide (p ∉ q)) = if i ∈ q then (List.range i).filter (fun p => decide (p ∉ q)) else (List.range i).filter (fun p => decide (p ∉ q)) ++ [i] := by
  rw [List.range_succ,List.filter_append]
  by_cases h : i ∈ q
  · simp [h]
  · simp [h]
theorem scGrownArc : FnScope ["M", "points", "told", "marks", "point", "shown"] ["M", "points"] (defScope sGrownArc) := ⟨rfl,rfl,rfl,by decide +kernel,rfl,by decide +kernel,by decide +kernel⟩
theorem ok_grown {f fI : Addr} {fd fdI : FuncData} (F : Fun K "grown_arc" "grown_arc" sGrownArc f fd) (T : TxtB mg) (O : OwnX K C fI "block") (FI : FnOk P w K mg base CX0 1 fI fdI ["self", "block"] (spXI K "block")) (hb : Binds K fdI ["self", "block"] []) (mC : mg "NoArc" = some (.ref C))
    (pTold : Pm P w K mg base CX0 2 "arc_told" ["M", "points"] (spToldS arcW)) (pMarksOf : Pm P w K mg base CX0 1 "marks_of" ["points", "block"] spMarks) (pTwo : Pm P w K mg base CX0 2 "two_beside" ["M", "marks", "point"] spTwo) (pAllM : Pm P w K mg base CX0 1 "all_marked" ["marks"] spAllM) : FnOk P w K mg base (CXD P w) 3 f fd ["M", "points"] (spGrown C) := by
  refine F.okXDQ scGrownArc (fun vs H Q E h => ?_) (fun cdv A outer s H vs Q E hr2 h => ?_)
  · obtain ⟨t,a,m,bs,pts,rfl,_⟩ := h
    rfl
  · obtain ⟨t,a,m,bs,pts,rfl,⟨lb,ws,ht,hlb,hT,hlen⟩,hm,hbk,ha,hp,qE,qQ⟩ := h
    have hr1 := hr2.mono (show 1 ≤ 2 by decide)
    refine ⟨_,(qss_cons (qs_set (i := 2) scGrownArc.nd rfl (Or.inl rfl) (qe_callP pTold hr2 rfl pass0 (qac (qv 0) (qac (qv 1) qa_nil))))
      (qss_cons (qs_if (qt_cmpR op_eq (qe_ix ix_tup (qv 2) qe_int (fun _ _ => rfl)) qe_str (nomark _)) (qss_one (qs_raiseX O FI hr2 rfl mC hb .nil rfl rfl pass0 (qac (qe_ix ix_tup (qv 2) qe_int (fun _ _ => rfl)) qa_nil))) qss_nil)
      (QSs.nox (qss_cons (qs_set (i := 3) scGrownArc.nd rfl (Or.inr rfl) (qe_callP pMarksOf hr1 rfl pass0 (qac (qe_ix ix_tup (qv 0) qe_int (fun _ _ => rfl)) (qac (qv 1) qa_nil))))
      (qss_cons (qs_for PassesOwn.never rfl (qi_range1 rfl T.range (qac (qe_ix ix_tup (qv 0) qe_int (fun _ _ => rfl)) qa_nil)) (qg_name (i := 4) scGrownArc.nd rfl (Or.inl rfl))
        (qss_one (qs_if (QW.pt (qw_and (qt_not (qt_val (qe_ix ix_list (qv 3) (qv 4) (fun _ _ => rfl)))) (qw_and1 (qt_isN (qe_callP pTwo hr2 rfl pass0 (qac (qv 0) (qac (qv 3) (qac (qv 4) qa_nil)))))))) (qss_one (qs_asg qe_bl (qg_sub (qv 3) (qv 4) set_list))) qss_nil)))
      (qss_cons (qs_setComp (i := 5) (g := gName 0) (N := ["point", "M", "marks"]) (src := [none,some 0,some 3]) rfl (comp_scope (defScope sGrownArc) ["M", "points", "told", "marks", "point", "shown"] rfl rfl (by decide +kernel) rfl) (qi_range1 rfl T.range (qac (qe_ix ix_tup (qv 0) qe_int (fun _ _ => rfl)) qa_nil)) (fun _ _ _ _ _ => (qg_name (i := 0) (show (["point", "M", "marks"] : List Str).Nodup by decide +kernel) rfl (Or.inl rfl) (Or.inr rfl))) (fun _ _ _ _ _ => (qif_one (qt_not (qt_val (qe_ix (show IxR _ (rIxL K) from ix_list) (qv 2) (qv 0) (fun _ _ => rfl)))))) (fun _ _ _ _ _ => (qe_callP pTwo hr2 rfl pass0 (qac (qv 1) (qac (qv 2) (qac (qv 0) qa_nil))))) (qg_name (i := 5) scGrownArc.nd rfl (Or.inl rfl)))
      (qss_one (qs_ret (qe_tup (qac (qe_callP pAllM hr1 rfl pass0 (qac (qv 3) qa_nil)) (qac (qv 5) qa_nil))))))))))),?_⟩
    refine ⟨_,rfl,_,rfl,t,a,m,bs,pts,rfl,⟨lb,ws,ht,hlb,hT,hlen⟩,hm,hbk,ha,hp.lt,fun u x L H1 s1 hu hW => ?_⟩
    refine ⟨_,rfl,u,_,0,.str x,rfl,rfl,SqT.of hu,atI_nat (j := 0) rfl,rfl,_,rfl,?_⟩
    rcases hW with ⟨rfl,rfl,hno⟩ | ⟨k,b,rfl,rfl,hk,hmb,hf⟩
    rotate_left
    · rw [decide_eq_true rfl]
      refine iteT ⟨_,rfl,u,_,1,.int ((k : Nat) : Int),rfl,rfl,SqT.of hu,atI_nat (j := 1) rfl,by show 1 ≤ sizeLine; decide,fun x hx => ?_⟩
      have hkl := (List.getElem?_eq_some_iff.mp hk).1
      refine ⟨x,C,fI,_,rfl,upd_same,O,.inl ⟨k,rfl,by omega⟩,fun dx hdx => ⟨rfl,dx,upd_same,qE k b hk hmb hf dx _ ?_ ?_⟩⟩
      · intro c o hc
        have hc1 := s1 _ _ hc
        have n1 : c ≠ x := fun z => by rw [z,hx] at hc1; cases hc1
        have n2 : c ≠ dx := fun z => by
          rw [← z,upd_ne n1,hc1] at hdx
          cases hdx
        rw [unt_ne n1,upd_ne n1,upd_ne n2,upd_ne n1,hc1]
      · have n1 : dx ≠ x := fun z => by
          rw [z,upd_same] at hdx
          cases hdx
        rw [unt_ne n1,upd_ne n1,upd_same]
    · rw [word_ne]
      refine iteF ?_
      have ht1 := s1 _ _ ht
      have ha1 := s1 _ _ ha
      refine ⟨_,rfl,t,_,0,.int (m : Nat),rfl,rfl,SqT.of ht1,rfl,_,rfl,a,m,pts,rfl,.inl ha1,hm,hp.lt,fun l H2 hl0 s2 hl => ?_⟩
      have s12 := s1.trans s2
      have hlH : H l = none := none_of s1 hl0
      dsimp only
      refine seqVia (fun σ' H' => Same H H' ∧ (∃ x4,σ' = [some (.ref t),some (.ref a),some (.ref u),some (.ref l),x4,none]) ∧ ∃ q,H' l = some (.lst (mks m q)) ∧ (∀ x ∈ pts,x ∈ q) ∧ (∀ b ∈ bs,¬ arcB q b) ∧ ∀ p,p < m → p ∉ q → ∃ b ∈ bs,p ∈ b ∧ 1 < (ins q b).length) ?_ (fun D' go => ?_)
      rotate_left
      · refine ⟨_,rfl,t,_,0,.int (m : Nat),rfl,rfl,SqT.of (s12 _ _ ht),rfl,((m : Nat) : Int),rfl,by omega,by omega,?_⟩
        rw [Int.toNat_natCast]
        refine for_range (lo := 0) (n := m) (fun i σ H3 => Same H H3 ∧ (∃ x4,σ = [some (.ref t),some (.ref a),some (.ref u),some (.ref l),x4,none]) ∧ ∃ q,H3 l = some (.lst (mks m q)) ∧ (∀ x ∈ pts,x ∈ q) ∧ (∀ b ∈ bs,¬ arcB q b) ∧ ∀ p,p < i → p ∉ q → ∃ b ∈ bs,p ∈ b ∧ 1 < (ins q b).length) ⟨s12,⟨none,rfl⟩,pts,hl,fun _ z => z,hno,fun p z => absurd z (Nat.not_lt_zero p)⟩ ?_ ?_
        · rintro i σ H3 hi ⟨s3,⟨x4,rfl⟩,q,hq,hsub,hmt,hal⟩
          rw [Int.zero_add]
          refine ⟨_,rfl,_,rfl,l,_,_,_,rfl,rfl,SqL.of hq,atI_nat (mks_get q hi),_,rfl,?_⟩
          by_cases hiq : i ∈ q
          · rw [decide_eq_true hiq]
            refine iteF (iteF ⟨s3,⟨_,rfl⟩,q,hq,hsub,hmt,fun p hpi hpq => ?_⟩)
            by_cases e : p = i
            · exact absurd (e ▸ hiq) hpq
            · exact hal p (by omega) hpq
          rw [decide_eq_false hiq]
          refine iteT ⟨_,rfl,_,rfl,_,rfl,t,l,m,i,bs,q,rfl,⟨lb,ws,s3 _ _ ht,s3 _ _ hlb,hT.sm s3,hlen⟩,hm,hbk,hq,fun v H4 s4 hv => ?_⟩
          rcases hv with ⟨u',k,b,x,y,r,rfl,hu',hk,hpb,e⟩ | ⟨rfl,hv⟩
          · refine ⟨_,rfl,?_⟩
            rw [decide_eq_false (show ¬ V.ref u' = V.non from fun z => by cases z)]
            refine iteF ⟨s3.trans s4,⟨_,rfl⟩,q,s4 _ _ hq,hsub,hmt,fun p hpi hpq => ?_⟩
            by_cases ep : p = i
            · subst ep
              exact ⟨b,List.mem_of_getElem? hk,hpb,by rw [e]; simp⟩
            · exact hal p (by omega) hpq
          · refine ⟨_,rfl,?_⟩
            rw [decide_eq_true rfl]
            refine iteT ⟨_,rfl,_,rfl,l,_,_,i,rfl,rfl,s4 _ _ hq,?_,?_⟩
            · rw [mks_len]
              exact ixN_nat hi
            · rw [mks_set]
              refine ⟨same_upd (s3.trans s4) hlH,⟨_,rfl⟩,_,upd_same,fun x hx => List.mem_append_left _ (hsub x hx),fun b hb z => ?_,fun p hpi hpq => ?_⟩
              · have h1 := ins_more_le (q := q) (i := i) (hbk b hb).nd
                have h2 := hmt b hb
                unfold arcB at z h2
                by_cases hib : i ∈ b
                · have := hv b hb hib
                  rw [if_pos hib] at h1
                  omega
                · rw [if_neg hib] at h1
                  omega
              · have n1 : p ∉ q := fun z => hpq (List.mem_append_left _ z)
                have n2 : p ≠ i := fun z => hpq (List.mem_append_right _ (List.mem_singleton.mpr z))
                obtain ⟨b,hb,h1,h2⟩ := hal p (by omega) n1
                exact ⟨b,hb,h1,Nat.lt_of_lt_of_le h2 (ins_more_ge b)⟩
        · rintro σ H3 ⟨s3,⟨x4,rfl⟩,q,hq,hsub,hmt,hal⟩
          exact go _ _ ⟨s3,⟨_,rfl⟩,q,hq,hsub,hmt,hal⟩
      rintro σ' H3 ⟨s3,⟨x4,rfl⟩,q,hq,hsub,hmt,hal⟩
      refine ⟨_,rfl,t,_,0,.int (m : Nat),rfl,rfl,SqT.of (s3 _ _ ht),rfl,((m : Nat) : Int),rfl,by omega,by omega,?_⟩
      rw [Int.toNat_natCast]
      have fl : ∀ i,i ≤ m → ((List.range i).filter fun p => decide (p ∉ q)).length ≤ 60 := fun i hi => Nat.le_trans (List.length_filter_le ..) (by rw [List.length_range]; omega)
      refine comp_rng (lo := 0) (n := m) (fun i zs H5 => i ≤ m ∧ Same H3 H5 ∧ ∃ R : List (List Nat),TpAt H5 zs R ∧ R.map (fun r => r.getD 0 0) = (List.range i).filter (fun p => decide (p ∉ q)) ∧ ∀ r ∈ R,∃ p k x y b rest,r = [p,k,x,y] ∧ bs[k]? = some b ∧ p ∈ b ∧ ins q b = x :: y :: rest) ⟨Nat.zero_le _,Same.refl _,[],trivial,rfl,fun r hr => by cases hr⟩ ?_ ?_
      · rintro i zs H5 N hi ⟨_,s5,R,hR,hf,hok⟩ nx
        rw [Int.zero_add]
        have s35 := s3.trans s5
        have hzl : zs.length < sizeLine := by
          have := congrArg List.length hf
          rw [List.length_map] at this
          rw [hR.len,this]
          exact Nat.lt_of_le_of_lt (fl i (Nat.le_of_lt hi)) (by decide)
        refine ⟨Weak.set (by intro v z; cases z),?_⟩
        refine ⟨_,rfl,_,rfl,l,_,_,_,rfl,rfl,SqL.of (s5 _ _ hq),atI_nat (mks_get q hi),_,rfl,?_⟩
        have es := out_snoc i q
        by_cases hiq : i ∈ q
        · rw [decide_eq_true hiq]
          rw [if_pos hiq] at es
          exact iteF (nx _ _ ⟨hi,s5,R,hR,by rw [es]; exact hf,hok⟩)
        rw [decide_eq_false hiq]
        rw [if_neg hiq] at es
        refine iteT ⟨_,rfl,_,rfl,_,rfl,t,l,m,i,bs,q,rfl,⟨lb,ws,s35 _ _ ht,s35 _ _ hlb,hT.sm s35,hlen⟩,hm,hbk,s5 _ _ hq,fun v H6 s6 hv => ?_⟩
        rcases hv with ⟨u',k,b,x,y,r,rfl,hu',hk,hpb,e⟩ | ⟨rfl,hv⟩
        rotate_left
        · obtain ⟨b,hb,h1,h2⟩ := hal i hi hiq
          have := hv b hb h1
          omega
        refine ⟨hzl,nx _ _ ⟨hi,s5.trans s6,R ++ [[i,k,x,y]],(hR.sm s6).snoc hu',?_,fun r' hr' => ?_⟩⟩
        · rw [List.map_append,hf,es]
          rfl
        · rcases List.mem_append.mp hr' with z | z
          · exact hok r' z
          · rw [List.mem_singleton.mp z]
            exact ⟨i,k,x,y,b,r,rfl,hk,hpb,e⟩
      · rintro zs H5 ⟨_,s5,R,hR,hf,hok⟩
        have hzl : zs.length ≤ sizeLine := by
          have := congrArg List.length hf
          rw [List.length_map] at this
          rw [hR.len,this]
          exact Nat.le_trans (fl m (Nat.le_refl m)) (by decide)
        refine ⟨hzl,fun sA hsA => ?_⟩
        have w5 := same_new (o := .lst zs) hsA
        have hsA5 : upd H5 sA (.lst zs) sA = some (.lst zs) := upd_same
        have hR5 := hR.sm w5
        have s6 := s5.trans w5
        have sAn : H sA = none := none_of (s3.trans s5) hsA
        generalize upd H5 sA (.lst zs) = H6 at hsA5 hR5 s6 ⊢
        refine ⟨_,rfl,l,m,q,rfl,s6 _ _ hq,hm,fun gA H7 hgA s7 hg7 => ⟨_,rfl,by show 2 ≤ sizeLine; decide,fun u' hu' => ?_⟩⟩
        have w7 := same_new (o := .tup [V.ref gA,V.ref sA]) hu'
        have s37 := s3.trans (s6.trans (s7.trans w7))
        have nks : gA ≠ sA := fun z => by
          rw [z,hsA5] at hgA
          cases hgA
        have ek : ∀ p,p < m → (p ∉ kept m q ↔ p ∉ q) := fun p hpm => by
          rw [kept_mem]
          exact ⟨fun z h => z ⟨hpm,h⟩,fun z h => z h.2⟩
        refine qQ hno u' (kept m q) gA sA zs R _ (none_of (s3.trans s6) hgA) sAn nks s37 ⟨upd_same,w7 _ _ hg7,(s7.trans w7) _ _ hsA5,hR5.sm (s7.trans w7),kept_bls m q,fun x hx => kept_mem.mpr ⟨hp.lt x hx,hsub x hx⟩,fun b hb => ?_,?_,fun r hr => ?_⟩
        · unfold arcB
          rw [ins_kept (hbk b hb)]
          exact hmt b hb
        · rw [hf]
          refine List.filter_congr fun p hpm => ?_
          have := ek p (List.mem_range.mp hpm)
          simp only [this]
        · obtain ⟨p,k,x,y,b,rest,h1,h2,h3,h4⟩ := hok r hr
          exact ⟨p,k,x,y,b,rest,h1,h2,h3,by rw [ins_kept (hbk b (List.mem_of_getElem? h2))]; exact h4⟩
def AloneV (pts : List Nat) (bs : List (List Nat)) (p : Nat) (v : V) : Prop := (∃ (k : Nat) (b : List Nat),v = .int ((k : Nat) : Int) ∧ bs[k]? = some b ∧ ins pts b = [p]) ∨ (v = .non ∧ ∀ b ∈ bs,ins pts b ≠ [p])
def spAlone : Sp := fun vs H Q _ => ∃ (t l : Addr) (m p : Nat) (bs : List (List Nat)) (pts : List Nat),vs = [.ref t,.ref l,.int (p : Nat)] ∧ LayA H t m bs ∧ m ≤ 60 ∧ (∀ b ∈ bs,Blk m b) ∧ H l = some (.lst (mks m pts)) ∧ ∀ (v : V) (H' : Hp),Same H H' → AloneV pts bs p v → Q v H'
theorem scBlockAlone : FnScope ["M", "marks", "point", "number", "block"] ["M", "marks", "point"] (defScope sBlockAlone) := ⟨rfl,rfl,rfl,by decide +kernel,rfl,by decide +kernel,by decide +kernel⟩
theorem ok_alone {f : Addr} {fd : FuncData} (F : Fun K "block_alone" "block_alone" sBlockAlone f fd) (T : TxtB mg) (pMarkedOf : Pm P w K mg base CX0 1 "marked_of" ["points", "marks"] spMarkedOf) : FnOk P w K mg base CX0 2 f fd ["M", "marks", "point"] spAlone := by
  refine F.okQ scBlockAlone (fun vs H Q E h => ?_) (fun cdv A outer s H vs Q E hr h => ?_)
  · obtain ⟨t,l,m,p,bs,pts,rfl,_⟩ := h
    rfl
  · obtain ⟨t,l,m,p,bs,pts,rfl,⟨lb,ws,ht,hlb,hT,hlen⟩,hm,hb,hl,q⟩ := h
    refine ⟨_,(qss_cons (qs_for PassesOwn.never rfl (qi_enumT rfl T.enu (qac (qe_ix ix_tup (qv 0) qe_int (fun _ _ => rfl)) qa_nil)) (qg_tup rfl (qgs_cons (qg_name (i := 3) scBlockAlone.nd rfl (Or.inl rfl)) (qgs_cons (qg_name (i := 4) scBlockAlone.nd rfl (Or.inl rfl)) qgs_nil)))
        (qss_one (qs_if (qt_cmpR (op_eqD hr.units) (qe_callP pMarkedOf hr rfl pass0 (qac (qv 4) (qac (qv 1) qa_nil))) (qe_lst (qac (qv 2) qa_nil)) (nomark _)) (qss_one (qs_ret (qv 3))) qss_nil)))
      (qss_one (qs_ret qe_non))),?_⟩
    refine ⟨_,rfl,t,_,1,.ref lb,rfl,rfl,SqT.of ht,rfl,lb,rfl,⟨_,SqT.of hlb⟩,for_enumT (K := K) (a := lb) (xs := ws) (fun i σ H2 => Same H H2 ∧ (∃ x3 x4,σ = [some (.ref t),some (.ref l),some (.int (p : Nat)),x3,x4]) ∧ ∀ (j : Nat) b',j < i → bs[j]? = some b' → ¬ ins pts b' = [p]) ⟨Same.refl _,⟨none,none,rfl⟩,fun j b' z => by omega⟩ (fun i σ H2 _ ⟨e,_⟩ => SqT.of (e _ _ hlb)) ?_ ?_⟩
    · rintro i v T1 σ H2 hi ⟨s2,⟨x3,x4,rfl⟩,hno⟩ hT1
      obtain ⟨d,b,rfl,hbs,hd⟩ := (hT.sm s2).get hi
      have hbb := hb b (List.mem_of_getElem? hbs)
      have w1 := same_new (o := .tup [V.int ((i : Nat) : Int),V.ref d]) hT1
      have s3 := s2.trans w1
      have hd3 := w1 _ _ hd
      refine ⟨T1,_,rfl,SqT.of upd_same,rfl,_,_,rfl,_,_,rfl,rfl,?_⟩
      generalize upd H2 T1 (.tup [V.int ((i : Nat) : Int),V.ref d]) = H3 at s3 hd3 ⊢
      refine ⟨_,rfl,_,rfl,d,l,m,b,pts,rfl,hd3,s3 _ _ hl,hm,hbb,fun r H4 hr0 s4 hr4 => ?_⟩
      refine ⟨_,rfl,by show 1 ≤ sizeLine; decide,fun u hu => ?_⟩
      have v1 := same_new (o := .lst [V.int ((p : Nat) : Int)]) hu
      refine ⟨dBlk (ins pts b),dBlk [p],isD_blkS (v1 _ _ hr4),isD_blkS (L := [p]) upd_same,shaped_blk _,shaped_blk _,_,rfl,?_⟩
      show if PyData.eqv (dBlk (ins pts b)) (dBlk [p]) = true then _ else _
      rw [eqv_blkS]
      by_cases h1 : ins pts b = [p]
      · rw [decide_eq_true h1]
        refine iteT ⟨_,rfl,?_⟩
        exact q _ _ (s3.trans (s4.trans v1)) (.inl ⟨i,b,rfl,hbs,h1⟩)
      · rw [decide_eq_false h1]
        refine iteF ?_
        exact ⟨s3.trans (s4.trans v1),⟨_,_,rfl⟩,first_step hno hbs h1⟩
    · rintro σ H2 ⟨s2,⟨x3,x4,rfl⟩,hno⟩
      refine q _ _ s2 (.inr ⟨rfl,fun b hbm => ?_⟩)
      obtain ⟨k,hk⟩ := List.getElem?_of_mem hbm
      have hkl := (List.getElem?_eq_some_iff.mp hk).1
      exact hno k b (by rw [hT.len]; exact hkl) hk
theorem ins_less {q b : List Nat} {i : Nat} : ins (q.filter fun y => decide (y ≠ i)) b = (ins q b).filter fun y => decide (y ≠ i) := by
  unfold ins
  rw [List.filter_filter]
  refine List.filter_congr fun x _ => ?_
  by_cases h1 : x ∈ q <;> by_cases h2 : x = i <;> simp [h1,h2]
theorem mks_less {m i : Nat} (q : List Nat) : (mks m q).set i (V.bl false) = mks m (q.filter fun y => decide (y ≠ i)) := by
  unfold mks
  apply List.ext_getElem
  · simp
  intro j h1 h2
  rw [List.getElem_set]
  simp only [List.getElem_map,List.getElem_range]
  by_cases h : i = j
  · subst h
    simp
  · simp [h,Ne.symm h]
theorem met_less {m i : Nat} {q b : List Nat} (hb : Blk m b) (h : ¬ metB q b) (h1 : ins q b ≠ [i]) : ¬ metB (q.filter fun y => decide (y ≠ i)) b := by
  unfold metB at h ⊢
  rw [ins_less]
  intro z
  have z := List.length_eq_zero_iff.mp z
  have all : ∀ x ∈ ins q b,x = i := fun x hx => by
    have := List.filter_eq_nil_iff.mp z x hx
    simpa using this
  have nd : (ins q b).Nodup := hb.nd.sublist List.filter_sublist
  match e : ins q b with
  | [] => rw [e] at h; exact h rfl
  | [x] => rw [e] at all h1; exact h1 (by rw [all x (by simp)])
  | x :: y :: r =>
    rw [e] at all nd
    have e1 := all x (by simp)
    have e2 := all y (by simp)
    rw [List.nodup_cons] at nd
    exact nd.1 (by rw [e1,e2]; simp)
theorem kept_of {m : Nat} {q pts : List Nat} (hp : Bls m pts) (h : ∀ x ∈ q,x ∈ pts) : kept m q = ins (kept m q) pts := by
  refine bls_uniq (kept_bls m q) ⟨hp.so.sublist List.filter_sublist,fun x hx => hp.lt x (List.mem_filter.mp hx).1⟩ fun x => ?_
  rw [ins_mem,kept_mem]
  exact ⟨fun z => ⟨h x z.2,z⟩,fun z => z.2⟩
def RwAt (H : Hp) : List V → List (Nat × Nat) → Prop
  | [],[] => True
  | v :: vs,r :: rs => (∃ c,v = .ref c ∧ H c = some (.tup [.int ((r.1 : Nat) : Int),.int ((r.2 : Nat) : Int)])) ∧ RwAt H vs rs
  | _,_ => False
theorem RwAt.sm {H H' : Hp} (s : Same H H') : ∀ {vs : List V} {rs : List (Nat × Nat)},RwAt H vs rs → RwAt H' vs rs
  | [],[],_ => trivial
  | _ :: _,_ :: _,⟨⟨c,e,h⟩,t⟩ => ⟨⟨c,e,s _ _ h⟩,RwAt.sm s t⟩
  | [],_ :: _,h => h.elim
  | _ :: _,[],h => h.elim
theorem RwAt.snoc {H : Hp} {c : Addr} {p k : Nat} (hc : H c = some (.tup [.int ((p : Nat) : Int),.int ((k : Nat) : Int)])) : ∀ {vs : List V} {rs : List (Nat × Nat)},RwAt H vs rs → RwAt H (vs ++ [.ref c]) (rs ++ [(p,k)])
  | [],[],_ => ⟨⟨c,rfl,hc⟩,trivial⟩
  | _ :: _,_ :: _,⟨h,t⟩ => ⟨h,RwAt.snoc hc t⟩
  | [],_ :: _,h => h.elim
  | _ :: _,[],h => h.elim
theorem RwAt.len {H : Hp} : ∀ {vs : List V} {rs : List (Nat × Nat)},RwAt H vs rs → vs.length = rs.length
  | [],[],_ => rfl
  | _ :: _,_ :: _,⟨_,t⟩ => congrArg (· + 1) (RwAt.len t)
  | [],_ :: _,h => h.elim
  | _ :: _,[],h => h.elim
structure Told (H : Hp) (u : Addr) (bs : List (List Nat)) (pts kp : List Nat) (kA sA : Addr) (rws : List V) (R : List (Nat × Nat)) : Prop where
  tu : H u = some (.tup [.ref kA,.ref sA])
  tk : H kA = some (.lst (nats kp))
  ts : H sA = some (.lst rws)
  rw_ : RwAt H rws R
  fst : R.map (·.1) = kp
  al : ∀ r ∈ R,∃ b,bs[r.2]? = some b ∧ ins kp b = [r.1]
  kp_ : kp = ins kp pts
  met : ∀ b ∈ bs,¬ metB kp b
def spThin0 : Sp := fun vs H Q _ => ∃ (t a : Addr) (m : Nat) (bs : List (List Nat)) (pts : List Nat),vs = [.ref t,.ref a] ∧ LayA H t m bs ∧ m ≤ 60 ∧ (∀ b ∈ bs,Blk m b) ∧ H a = some (.lst (nats pts)) ∧ Bls m pts ∧ (∀ b ∈ bs,¬ metB pts b) ∧
  ∀ u kp kA sA rws R H',H kA = none → H sA = none → kA ≠ sA → Same H H' → Told H' u bs pts kp kA sA rws R → Q (.ref u) H'
theorem word_neM : decide (V.str "meets" = V.str "missed") = false := decide_eq_false fun z => by
  have : ("meets" : Str) = ("missed" : Str) := V.str.inj z
  revert this
  decide +kernel
theorem scThinnedSet : FnScope ["M", "points", "told", "marks", "point", "kept"] ["M", "points"] (defScope sThinnedSet) := ⟨rfl,rfl,rfl,by decide +kernel,rfl,by decide +kernel,by decide +kernel⟩
theorem ok_thin0 {f : Addr} {fd : FuncData} (F : Fun K "thinned_set" "thinned_set" sThinnedSet f fd) (T : TxtB mg)
    (pTold : Pm P w K mg base CX0 2 "meeting_told" ["M", "points"] (spToldS metW)) (pMarksOf : Pm P w K mg base CX0 1 "marks_of" ["points", "block"] spMarks) (pAlone : Pm P w K mg base CX0 2 "block_alone" ["M", "marks", "point"] spAlone) (pAllM : Pm P w K mg base CX0 1 "all_marked" ["marks"] spAllM) : FnOk P w K mg base CX0 3 f fd ["M", "points"] spThin0 := by
  refine F.okQ scThinnedSet (fun vs H Q E h => ?_) (fun cdv A outer s H vs Q E hr2 h => ?_)
  · obtain ⟨t,a,m,bs,pts,rfl,_⟩ := h
    rfl
  · obtain ⟨t,a,m,bs,pts,rfl,⟨lb,ws,ht,hlb,hT,hlen⟩,hm,hbk,ha,hp,hall,qQ0⟩ := h
    have qQ := fun (_ : ∀ b ∈ bs,¬ metB pts b) => qQ0
    have hr1 := hr2.mono (show 1 ≤ 2 by decide)
    refine ⟨_,(qss_cons (qs_set (i := 2) scThinnedSet.nd rfl (Or.inl rfl) (qe_callP pTold hr2 rfl pass0 (qac (qv 0) (qac (qv 1) qa_nil))))
      (qss_cons (qs_if (qt_cmpR op_eq (qe_ix ix_tup (qv 2) qe_int (fun _ _ => rfl)) qe_str (nomark _)) qss_never qss_nil)
      (qss_cons (qs_set (i := 3) scThinnedSet.nd rfl (Or.inr rfl) (qe_callP pMarksOf hr1 rfl pass0 (qac (qe_ix ix_tup (qv 0) qe_int (fun _ _ => rfl)) (qac (qv 1) qa_nil))))
      (qss_cons (qs_for PassesOwn.never rfl (qi_range1 rfl T.range (qac (qe_ix ix_tup (qv 0) qe_int (fun _ _ => rfl)) qa_nil)) (qg_name (i := 4) scThinnedSet.nd rfl (Or.inl rfl))
        (qss_one (qs_if (QW.pt (qw_and (qt_val (qe_ix ix_list (qv 3) (qv 4) (fun _ _ => rfl))) (qw_and1 (qt_isN (qe_callP pAlone hr2 rfl pass0 (qac (qv 0) (qac (qv 3) (qac (qv 4) qa_nil)))))))) (qss_one (qs_asg qe_bl (qg_sub (qv 3) (qv 4) set_list))) qss_nil)))
      (qss_cons (qs_set (i := 5) scThinnedSet.nd rfl (Or.inl rfl) (qe_callP pAllM hr1 rfl pass0 (qac (qv 3) qa_nil)))
      (qss_one (qs_ret (qe_tup (qac (qv 5) (qac (qe_comp (g := gName 0) (N := ["point", "M", "marks"]) (src := [none,some 0,some 3]) rfl (comp_scope (defScope sThinnedSet) ["M", "points", "told", "marks", "point", "kept"] rfl rfl (by decide +kernel) rfl) (qi_list (qv 5)) (fun _ _ _ _ _ => (qg_name (i := 0) (show (["point", "M", "marks"] : List Str).Nodup by decide +kernel) rfl (Or.inl rfl) (Or.inr rfl))) (fun _ _ _ _ _ => qif_nil) (fun _ _ _ _ _ => (qe_tup (qac (qv 0) (qac (qe_callP pAlone hr2 rfl pass0 (qac (qv 1) (qac (qv 2) (qac (qv 0) qa_nil)))) qa_nil))))) qa_nil)))))))))),?_⟩
    refine ⟨_,rfl,_,rfl,t,a,m,bs,pts,rfl,⟨lb,ws,ht,hlb,hT,hlen⟩,hm,hbk,ha,hp.lt,fun u x L H1 s1 hu hW => ?_⟩
    refine ⟨_,rfl,u,_,0,.str x,rfl,rfl,SqT.of hu,atI_nat (j := 0) rfl,rfl,_,rfl,?_⟩
    rcases hW with ⟨rfl,rfl,hno⟩ | ⟨k,b,rfl,rfl,hk,hmb,hf⟩
    rotate_left
    · exact absurd hmb (hall b (List.mem_of_getElem? hk))
    · rw [word_neM]
      refine iteF ?_
      have ht1 := s1 _ _ ht
      have ha1 := s1 _ _ ha
      refine ⟨_,rfl,t,_,0,.int (m : Nat),rfl,rfl,SqT.of ht1,rfl,_,rfl,a,m,pts,rfl,.inl ha1,hm,hp.lt,fun l H2 hl0 s2 hl => ?_⟩
      have s12 := s1.trans s2
      have hlH : H l = none := none_of s1 hl0
      dsimp only
      refine seqVia (fun σ' H' => Same H H' ∧ σ'.take 4 = [some (.ref t),some (.ref a),some (.ref u),some (.ref l)] ∧ (∃ x4,σ' = [some (.ref t),some (.ref a),some (.ref u),some (.ref l),x4,none]) ∧ ∃ q,H' l = some (.lst (mks m q)) ∧ (∀ x ∈ q,x ∈ pts) ∧ (∀ b ∈ bs,¬ metB q b) ∧ ∀ p ∈ q,p < m → ∃ b ∈ bs,ins q b = [p]) ?_ (fun D' go => ?_)
      rotate_left
      · refine ⟨_,rfl,t,_,0,.int (m : Nat),rfl,rfl,SqT.of (s12 _ _ ht),rfl,((m : Nat) : Int),rfl,by omega,by omega,?_⟩
        rw [Int.toNat_natCast]
        refine for_range (lo := 0) (n := m) (fun i σ H3 => Same H H3 ∧ (∃ x4,σ = [some (.ref t),some (.ref a),some (.ref u),some (.ref l),x4,none]) ∧ ∃ q,H3 l = some (.lst (mks m q)) ∧ (∀ x ∈ q,x ∈ pts) ∧ (∀ b ∈ bs,¬ metB q b) ∧ ∀ p ∈ q,p < i → ∃ b ∈ bs,ins q b = [p]) ⟨s12,⟨none,rfl⟩,pts,hl,fun _ z => z,hno,fun p _ z => absurd z (Nat.not_lt_zero p)⟩ ?_ ?_
        · rintro i σ H3 hi ⟨s3,⟨x4,rfl⟩,q,hq,hsub,hmt,hal⟩
          rw [Int.zero_add]
          refine ⟨_,rfl,_,rfl,l,_,_,_,rfl,rfl,SqL.of hq,atI_nat (mks_get q hi),_,rfl,?_⟩
          have stay : i ∉ q → ∀ p ∈ q,p < i + 1 → ∃ b ∈ bs,ins q b = [p] := fun hiq p hpq hpi => by
            by_cases e : p = i
            · exact absurd (e ▸ hpq) hiq
            · exact hal p hpq (by omega)
          by_cases hiq : i ∈ q
          rotate_left
          · rw [decide_eq_false hiq]
            exact iteF (iteF ⟨s3,⟨_,rfl⟩,q,hq,hsub,hmt,stay hiq⟩)
          rw [decide_eq_true hiq]
          refine iteT ⟨_,rfl,_,rfl,_,rfl,t,l,m,i,bs,q,rfl,⟨lb,ws,s3 _ _ ht,s3 _ _ hlb,hT.sm s3,hlen⟩,hm,hbk,hq,fun v H4 s4 hv => ?_⟩
          rcases hv with ⟨k,b,rfl,hk,hkb⟩ | ⟨rfl,hv⟩
          · refine ⟨_,rfl,?_⟩
            rw [decide_eq_false (show ¬ V.int ((k : Nat) : Int) = V.non from fun z => by cases z)]
            refine iteF ⟨s3.trans s4,⟨_,rfl⟩,q,s4 _ _ hq,hsub,hmt,fun p hpq hpi => ?_⟩
            by_cases e : p = i
            · subst e
              exact ⟨b,List.mem_of_getElem? hk,hkb⟩
            · exact hal p hpq (by omega)
          · refine ⟨_,rfl,?_⟩
            rw [decide_eq_true rfl]
            refine iteT ⟨_,rfl,_,rfl,l,_,_,i,rfl,rfl,s4 _ _ hq,?_,?_⟩
            · rw [mks_len]
              exact ixN_nat hi
            · rw [mks_less]
              refine ⟨same_upd (s3.trans s4) hlH,⟨_,rfl⟩,_,upd_same,fun x hx => hsub x (List.mem_filter.mp hx).1,fun b hb => met_less (hbk b hb) (hmt b hb) (hv b hb),fun p hpq hpi => ?_⟩
              obtain ⟨h1,h2⟩ := List.mem_filter.mp hpq
              have h2 : p ≠ i := of_decide_eq_true h2
              obtain ⟨b,hb,e⟩ := hal p h1 (by omega)
              refine ⟨b,hb,?_⟩
              rw [ins_less,e]
              simp [h2]
        · rintro σ H3 ⟨s3,⟨x4,rfl⟩,q,hq,hsub,hmt,hal⟩
          exact go _ _ ⟨s3,rfl,⟨_,rfl⟩,q,hq,hsub,hmt,hal⟩
      rintro σ' H3 ⟨s3,_,⟨x4,rfl⟩,q,hq,hsub,hmt,hal⟩
      refine ⟨_,rfl,l,m,q,rfl,hq,hm,fun kA H4 hkA s4 hk4 => ?_⟩
      have s34 := s3.trans s4
      have hq4 := s4 _ _ hq
      have kl := kept_le m q
      have hz : (kept m q).length < sizeLine := Nat.lt_of_le_of_lt (Nat.le_trans kl hm) (by decide)
      have hget : ∀ i x,(nats (kept m q))[i]? = some x → ∃ p : Nat,x = V.int ((p : Nat) : Int) ∧ (kept m q)[i]? = some p ∧ ∃ b ∈ bs,ins q b = [p] := fun i x hx => by
        obtain ⟨p,hp',rfl⟩ := L2.nats_get hx
        obtain ⟨h1,h2⟩ := kept_mem.mp (List.mem_of_getElem? hp')
        exact ⟨p,rfl,hp',hal p h2 h1⟩
      refine ⟨_,rfl,_,rfl,kA,rfl,⟨_,SqL.of hk4⟩,comp_list (K := K) (a := kA) (xs := nats (kept m q)) (fun i zs H5 => Same H4 H5 ∧ ∃ R : List (Nat × Nat),RwAt H5 zs R ∧ R.map (·.1) = (kept m q).take i ∧ ∀ r ∈ R,∃ b,bs[r.2]? = some b ∧ ins q b = [r.1]) ⟨Same.refl _,[],trivial,rfl,fun r hr => by cases hr⟩ (fun i zs H5 _ ⟨e,_⟩ => SqL.of (e _ _ hk4)) ?_ ?_⟩
      · rintro i v zs H5 N hi ⟨s5,R,hR,hf,hal5⟩ nx
        obtain ⟨p,rfl,hp',b',hb',eb'⟩ := hget i v hi
        have s35 := s34.trans s5
        refine ⟨Weak.set (by intro v z; cases z),?_⟩
        refine ⟨_,rfl,_,rfl,_,rfl,_,rfl,t,l,m,p,bs,q,rfl,⟨lb,ws,s35 _ _ ht,s35 _ _ hlb,hT.sm s35,hlen⟩,hm,hbk,s5 _ _ hq4,fun v H6 s6 hv => ?_⟩
        rcases hv with ⟨k,b,rfl,hk,hkb⟩ | ⟨rfl,hv⟩
        rotate_left
        · exact absurd eb' (hv b' hb')
        refine ⟨by show 2 ≤ sizeLine; decide,fun c hc => ?_⟩
        have w6 := same_new (o := .tup [V.int ((p : Nat) : Int),V.int ((k : Nat) : Int)]) hc
        have hil : R.length = i := by
          have := congrArg List.length hf
          rw [List.length_map,List.length_take] at this
          have := (List.getElem?_eq_some_iff.mp hp').1
          omega
        have hzl : zs.length < sizeLine := by
          rw [hR.len,hil]
          exact Nat.lt_of_lt_of_le (List.getElem?_eq_some_iff.mp hp').1 (Nat.le_of_lt hz)
        refine ⟨hzl,nx _ _ ⟨s5.trans (s6.trans w6),R ++ [(p,k)],RwAt.snoc upd_same (hR.sm (s6.trans w6)),?_,fun r hr => ?_⟩⟩
        · rw [List.map_append,hf,take_snoc hp']
          rfl
        · rcases List.mem_append.mp hr with z | z
          · exact hal5 r z
          · rw [List.mem_singleton.mp z]
            exact ⟨b,hk,hkb⟩
      · rintro zs H5 ⟨s5,R,hR,hf,hal5⟩
        rw [nats_len,List.take_length] at hf
        have hzl : zs.length ≤ sizeLine := by
          have := congrArg List.length hf
          rw [List.length_map] at this
          rw [hR.len,this]
          exact Nat.le_of_lt hz
        refine ⟨hzl,fun sA hsA => ⟨by show 2 ≤ sizeLine; decide,fun u' hu' => ?_⟩⟩
        have w5 := same_new (o := .lst zs) hsA
        have w6 := same_new (o := .tup [V.ref kA,V.ref sA]) hu'
        have s45 := s5.trans (w5.trans w6)
        have nks : kA ≠ sA := fun z => by
          have := s5 _ _ hk4
          rw [z,hsA] at this
          cases this
        refine qQ hno u' (kept m q) kA sA zs R _ (none_of s3 hkA) (none_of (s34.trans s5) hsA) nks (s34.trans s45) ⟨upd_same,s45 _ _ hk4,w6 _ _ upd_same,hR.sm (w5.trans w6),hf,fun r hr => ?_,kept_of hp hsub,fun b hb => ?_⟩
        · obtain ⟨b,h1,h2⟩ := hal5 r hr
          exact ⟨b,h1,by rw [ins_kept (hbk b (List.mem_of_getElem? h1))]; exact h2⟩
        · unfold metB
          rw [ins_kept (hbk b hb)]
          exact hmt b hb

structure ArP (m r : Nat) (bs : List (List Nat)) : Prop where
  nd : ∀ b ∈ bs,b.Nodup
  one : ∀ x y,x < m → y < m → x ≠ y → (bs.countP fun b => decide (x ∈ b) && decide (y ∈ b)) = 1
  deg : ∀ x,x < m → (bs.countP fun b => decide (x ∈ b)) = r
theorem ar_sum_le {α : Type} {f g : α → Nat} : ∀ {l : List α},(∀ a ∈ l,f a ≤ g a) → (l.map f).sum ≤ (l.map g).sum
  | [],_ => Nat.le_refl _
  | a :: l,h => by
    rw [List.map_cons,List.sum_cons,List.map_cons,List.sum_cons]
    exact Nat.add_le_add (h a (List.mem_cons_self ..)) (ar_sum_le fun b hb => h b (List.mem_cons_of_mem _ hb))
theorem ar_sum_countP {α : Type} (p : α → Bool) : ∀ l : List α,(l.map fun a => if p a = true then 1 else 0).sum = l.countP p
  | [] => rfl
  | a :: l => by
    rw [List.map_cons,List.sum_cons,List.countP_cons,ar_sum_countP p l]
    omega
theorem ar_add_row (r : Nat → List Nat → Bool) (y : Nat) (g : List Nat) : ∀ bs : List (List Nat),(bs.countP fun b => r y b) + (bs.map fun b => g.countP fun y => r y b).sum = (bs.map fun b => (y :: g).countP fun y => r y b).sum
  | [] => rfl
  | b :: bs => by
    have ih := ar_add_row r y g bs
    simp only [List.map_cons,List.sum_cons,List.countP_cons] at ih ⊢
    omega
theorem ar_two_sum (x : Nat) : ∀ bs : List (List Nat),(bs.map fun b => if decide (x ∈ b) = true then 2 else 0).sum = (bs.countP fun b => decide (x ∈ b)) * 2
  | [] => rfl
  | b :: bs => by
    rw [List.map_cons,List.sum_cons,ar_two_sum x bs,List.countP_cons]
    by_cases h : x ∈ b
    · simp [h]; omega
    · simp [h]
theorem ar_swap (r : Nat → List Nat → Bool) (bs : List (List Nat)) : ∀ g : List Nat,(g.map fun y => bs.countP fun b => r y b).sum = (bs.map fun b => g.countP fun y => r y b).sum
  | [] => by
    simp only [List.map_nil,List.sum_nil,List.countP_nil]
    induction bs with
    | nil => rfl
    | cons b bs ih => rw [List.map_cons,List.sum_cons,← ih,Nat.add_zero]
  | y :: g => by
    rw [List.map_cons,List.sum_cons,ar_swap r bs g,ar_add_row]
theorem ar_sum_const {α : Type} {f : α → Nat} {c : Nat} : ∀ {l : List α},(∀ a ∈ l,f a = c) → (l.map f).sum = l.length * c
  | [],_ => by simp
  | a :: l,h => by
    rw [List.map_cons,List.sum_cons,h a (List.mem_cons_self ..),ar_sum_const fun b hb => h b (List.mem_cons_of_mem _ hb),List.length_cons,Nat.add_mul,Nat.one_mul,Nat.add_comm]
theorem ar_count_ins {g b : List Nat} (hg : g.Nodup) (hb : b.Nodup) : g.countP (fun y => decide (y ∈ b)) = (ins g b).length := by
  rw [List.countP_eq_length_filter]
  unfold ins
  refine List.Perm.length_eq ((List.perm_ext_iff_of_nodup (hg.sublist List.filter_sublist) (hb.sublist List.filter_sublist)).mpr fun x => ?_)
  rw [List.mem_filter,List.mem_filter,decide_eq_true_iff,decide_eq_true_iff]
  exact and_comm
theorem ar_arc_le {m r : Nat} {bs : List (List Nat)} {g : List Nat} (P : ArP m r bs) (hg : g.Nodup) (hm : ∀ x ∈ g,x < m) (ha : ∀ b ∈ bs,(ins g b).length ≤ 2) : g.length ≤ r + 1 := by
  cases hgl : g with
  | nil => exact Nat.zero_le _
  | cons x t =>
    have hx : x ∈ g := by rw [hgl]; exact List.mem_cons_self ..
    have hxt : x ∉ t := by rw [hgl] at hg; exact (List.nodup_cons.mp hg).1
    have ht : ∀ y ∈ t,y ∈ g := fun y hy => by rw [hgl]; exact List.mem_cons_of_mem _ hy
    have htn : t.Nodup := by rw [hgl] at hg; exact (List.nodup_cons.mp hg).2
    have h1 : (t.map fun y => bs.countP fun b => decide (x ∈ b) && decide (y ∈ b)).sum = t.length * 1 := ar_sum_const fun y hy => P.one x y (hm x hx) (hm y (ht y hy)) fun e => hxt (e ▸ hy)
    rw [ar_swap (fun y b => decide (x ∈ b) && decide (y ∈ b))] at h1
    have h2 : (bs.map fun b => t.countP fun y => decide (x ∈ b) && decide (y ∈ b)).sum ≤ (bs.map fun b => if decide (x ∈ b) = true then 1 else 0).sum := ar_sum_le fun b hb => by
      by_cases hxb : x ∈ b
      · rw [decide_eq_true hxb,if_pos rfl]
        have h3 := ha b hb
        rw [← ar_count_ins hg (P.nd b hb),hgl,List.countP_cons,decide_eq_true hxb] at h3
        simp only [Bool.true_and]
        simp at h3
        omega
      · rw [decide_eq_false hxb]
        simp
    rw [ar_sum_countP,P.deg x (hm x hx)] at h2
    rw [List.length_cons]
    omega
theorem ar_arc_even {m r : Nat} {bs : List (List Nat)} {g : List Nat} (P : ArP m r bs) (hg : g.Nodup) (hm : ∀ x ∈ g,x < m) (ha : ∀ b ∈ bs,(ins g b).length ≤ 2) (hl : g.length = r + 1) {z : Nat} (hz : z < m) (hzg : z ∉ g) : g.length % 2 = 0 := by
  -- each line with a point of the arc has two
  have two : ∀ b ∈ bs,∀ x ∈ g,x ∈ b → (ins g b).length = 2 := fun b0 hb0 x hx hxb => by
    have hle := ha b0 hb0
    rcases Nat.lt_or_ge (ins g b0).length 2 with hlt | hge
    rotate_left
    · omega
    exfalso
    -- all others of g lie on lines of x but b0: at most r - 1 of them
    have h1 : (g.map fun y => bs.countP fun b => decide (x ∈ b) && decide (y ∈ b)).sum = (g.map fun y => if decide (y = x) = true then r else 1).sum := by
      congr 1
      refine List.map_congr_left fun y hy => ?_
      by_cases e : y = x
      · subst e
        rw [decide_eq_true rfl,if_pos rfl]
        have := P.deg y (hm y hy)
        rw [← this]
        congr 1
        funext b
        simp
      · rw [decide_eq_false e,if_neg (by decide)]
        exact P.one x y (hm x hx) (hm y hy) fun z => e z.symm
    have h2 : (g.map fun y => if decide (y = x) = true then r else 1).sum + 1 = g.length + r := by
      have : ∀ l : List Nat,l.Nodup → x ∈ l → (l.map fun y => if decide (y = x) = true then r else 1).sum + 1 = l.length + r := by
        intro l
        induction l with
        | nil => intro _ h; cases h
        | cons a l ih =>
          intro hn hx
          rw [List.map_cons,List.sum_cons,List.length_cons]
          by_cases e : a = x
          · subst e
            have hnl := (List.nodup_cons.mp hn).1
            rw [decide_eq_true rfl,if_pos rfl]
            have : (l.map fun y => if decide (y = a) = true then r else 1).sum = l.length * 1 := ar_sum_const fun y hy => by
              rw [decide_eq_false (show ¬ y = a from fun e => hnl (e ▸ hy)),if_neg (by decide)]
            omega
          · rw [decide_eq_false e,if_neg (by decide)]
            have hx' : x ∈ l := by
              rcases List.mem_cons.mp hx with z | z
              · exact absurd z.symm e
              · exact z
            have := ih (List.nodup_cons.mp hn).2 hx'
            omega
      exact this g hg hx
    rw [ar_swap (fun y b => decide (x ∈ b) && decide (y ∈ b))] at h1
    -- by lines
    have h3 : (bs.map fun b => g.countP fun y => decide (x ∈ b) && decide (y ∈ b)).sum + 1 ≤ (bs.map fun b => if decide (x ∈ b) = true then 2 else 0).sum := by
      have key : ∀ l : List (List Nat),(∀ b ∈ l,b ∈ bs) → b0 ∈ l → (l.map fun b => g.countP fun y => decide (x ∈ b) && decide (y ∈ b)).sum + 1 ≤ (l.map fun b => if decide (x ∈ b) = true then 2 else 0).sum := by
        have le1 : ∀ b ∈ bs,(g.countP fun y => decide (x ∈ b) && decide (y ∈ b)) ≤ if decide (x ∈ b) = true then 2 else 0 := fun b hb => by
          by_cases hxb : x ∈ b
          · rw [decide_eq_true hxb,if_pos rfl]
            simp only [Bool.true_and]
            rw [ar_count_ins hg (P.nd b hb)]
            exact ha b hb
          · rw [decide_eq_false hxb]
            simp
        intro l
        induction l with
        | nil => intro _ h; cases h
        | cons b l ih =>
          intro hs hb
          rw [List.map_cons,List.sum_cons,List.map_cons,List.sum_cons]
          rcases List.mem_cons.mp hb with e | e
          · subst e
            have h5 : (g.countP fun y => decide (x ∈ b0) && decide (y ∈ b0)) + 1 ≤ if decide (x ∈ b0) = true then 2 else 0 := by
              rw [decide_eq_true hxb,if_pos rfl]
              simp only [Bool.true_and]
              rw [ar_count_ins hg (P.nd b0 hb0)]
              omega
            have h6 := ar_sum_le (l := l) fun b hb => le1 b (hs b (List.mem_cons_of_mem _ hb))
            omega
          · have h5 := le1 b (hs b (List.mem_cons_self ..))
            have h6 := ih (fun b hb => hs b (List.mem_cons_of_mem _ hb)) e
            omega
      exact key bs (fun _ h => h) hb0
    have h4 : (bs.map fun b => if decide (x ∈ b) = true then 2 else 0).sum = r * 2 := by
      rw [← P.deg x (hm x hx),ar_two_sum]
    omega
  -- the lines of z part the arc in twos
  have h1 : (g.map fun y => bs.countP fun b => decide (z ∈ b) && decide (y ∈ b)).sum = g.length * 1 := ar_sum_const fun y hy => P.one z y hz (hm y hy) fun e => hzg (e ▸ hy)
  rw [ar_swap (fun y b => decide (z ∈ b) && decide (y ∈ b))] at h1
  have h2 : ∀ l : List (List Nat),(∀ b ∈ l,b ∈ bs) → (l.map fun b => g.countP fun y => decide (z ∈ b) && decide (y ∈ b)).sum % 2 = 0 := by
    intro l
    induction l with
    | nil => intro _; rfl
    | cons b l ih =>
      intro hs
      rw [List.map_cons,List.sum_cons]
      have h3 := ih fun b hb => hs b (List.mem_cons_of_mem _ hb)
      have hb := hs b (List.mem_cons_self ..)
      have h4 : (g.countP fun y => decide (z ∈ b) && decide (y ∈ b)) % 2 = 0 := by
        by_cases hzb : z ∈ b
        · rw [decide_eq_true hzb]
          simp only [Bool.true_and]
          rw [ar_count_ins hg (P.nd b hb)]
          by_cases he : (ins g b).length = 0
          · rw [he]
          · obtain ⟨x,hx⟩ := List.exists_mem_of_ne_nil (ins g b) (fun e => he (by rw [e]; rfl))
            have h5 := List.mem_filter.mp hx
            rw [two b hb x (of_decide_eq_true h5.2) h5.1]
        · rw [decide_eq_false hzb]
          simp
      omega
  have := h2 bs fun _ h => h
  rw [h1] at this
  omega
def sortB : List Nat → Bool
  | a :: b :: r => decide (a < b) && sortB (b :: r)
  | _ => true
theorem sortB_so : ∀ {l : List Nat},sortB l = true → l.Pairwise (· < ·)
  | [],_ => List.Pairwise.nil
  | [a],_ => by simp
  | a :: b :: r,h => by
    rw [sortB,Bool.and_eq_true] at h
    have ih := sortB_so h.2
    have hab : a < b := of_decide_eq_true h.1
    refine List.pairwise_cons.mpr ⟨fun x hx => ?_,ih⟩
    rcases List.mem_cons.mp hx with z | z
    · rw [z]; exact hab
    · exact Nat.lt_trans hab ((List.pairwise_cons.mp ih).1 x z)
def chkL (m r k : Nat) (bs : List (List Nat)) : Bool := bs.all (fun b => sortB b && (b.all (fun x => decide (x < m)) && decide (b.length = k))) && (List.range m).all fun x => decide ((bs.countP fun b => decide (x ∈ b)) = r) && (List.range x).all fun y => decide ((bs.countP fun b => decide (x ∈ b) && decide (y ∈ b)) = 1)
def chkM (bs : List (List Nat)) : Bool := bs.all fun b => bs.all (fun c => decide (ins b c ≠ [])) && b.all fun p => bs.any fun c => decide (ins b c = [p])
def chkF (bs : List (List Nat)) : Bool := bs.all fun b => bs.any fun c => decide (ins b c = [])
structure LF (q : Nat) (flat : Bool) (m : Nat) (bs : List (List Nat)) : Prop where
  ar : ArP m (q + 1) bs
  bl : ∀ b ∈ bs,Bls m b
  len : ∀ b ∈ bs,b.length = if flat = true then q else q + 1
  pos : 0 < bs.length
  le : bs.length ≤ 200
  m60 : m ≤ 60
  big : q * q ≤ m
  q2 : 2 ≤ q
  q5 : q ≤ 5
  meet : flat = false → ∀ b ∈ bs,(∀ c ∈ bs,ins b c ≠ []) ∧ ∀ p ∈ b,∃ c ∈ bs,ins b c = [p]
  off : flat = true → ∀ b ∈ bs,∃ c ∈ bs,ins b c = []
theorem lf_of {q m : Nat} {flat : Bool} {bs : List (List Nat)} (h1 : chkL m (q + 1) (if flat = true then q else q + 1) bs = true) (h2 : (if flat = true then chkF bs else chkM bs) = true) (h3 : 0 < bs.length ∧ bs.length ≤ 200 ∧ m ≤ 60 ∧ q * q ≤ m ∧ 2 ≤ q ∧ q ≤ 5) : LF q flat m bs := by
  unfold chkL at h1
  rw [Bool.and_eq_true,List.all_eq_true,List.all_eq_true] at h1
  obtain ⟨h1,h4⟩ := h1
  have hb : ∀ b ∈ bs,Bls m b ∧ b.length = if flat = true then q else q + 1 := fun b hb => by
    have := h1 b hb
    rw [Bool.and_eq_true,Bool.and_eq_true,List.all_eq_true] at this
    exact ⟨⟨sortB_so this.1,fun x hx => of_decide_eq_true (this.2.1 x hx)⟩,of_decide_eq_true this.2.2⟩
  have hx : ∀ x,x < m → (bs.countP fun b => decide (x ∈ b)) = q + 1 ∧ ∀ y,y < x → (bs.countP fun b => decide (x ∈ b) && decide (y ∈ b)) = 1 := fun x hx => by
    have := h4 x (List.mem_range.mpr hx)
    rw [Bool.and_eq_true,List.all_eq_true] at this
    exact ⟨of_decide_eq_true this.1,fun y hy => of_decide_eq_true (this.2 y (List.mem_range.mpr hy))⟩
  refine ⟨⟨fun b h => (hb b h).1.nd,fun x y h5 h6 h7 => ?_,fun x h => (hx x h).1⟩,fun b h => (hb b h).1,fun b h => (hb b h).2,h3.1,h3.2.1,h3.2.2.1,h3.2.2.2.1,h3.2.2.2.2.1,h3.2.2.2.2.2,fun e b hbm => ?_,fun e b hbm => ?_⟩
  · rcases Nat.lt_or_gt_of_ne h7 with z | z
    · rw [← (hx y h6).2 x z]
      congr 1
      funext b
      exact Bool.and_comm _ _
    · exact (hx x h5).2 y z
  · rw [e,if_neg (by decide)] at h2
    unfold chkM at h2
    rw [List.all_eq_true] at h2
    have := h2 b hbm
    rw [Bool.and_eq_true,List.all_eq_true,List.all_eq_true] at this
    refine ⟨fun c hc => of_decide_eq_true (this.1 c hc),fun p hp => ?_⟩
    obtain ⟨c,hc,e⟩ := List.any_eq_true.mp (this.2 p hp)
    exact ⟨c,hc,of_decide_eq_true e⟩
  · rw [e,if_pos rfl] at h2
    unfold chkF at h2
    rw [List.all_eq_true] at h2
    obtain ⟨c,hc,e⟩ := List.any_eq_true.mp (h2 b hbm)
    exact ⟨c,hc,of_decide_eq_true e⟩
def layP2 : List (List Nat) := [[1,3,5],[0,3,4],[2,3,6],[0,1,2],[1,4,6],[0,5,6],[2,4,5]]
def layP3 : List (List Nat) := [[1,4,7,10],[0,4,5,6],[3,4,9,11],[2,4,8,12],[0,1,2,3],[1,6,9,12],[1,5,8,11],[0,10,11,12],[3,6,8,10],[2,5,9,10],[0,7,8,9],[2,6,7,11],[3,5,7,12]]
def layP4 : List (List Nat) := [[1,5,9,13,17],[0,5,6,7,8],[2,5,10,15,20],[4,5,12,14,19],[3,5,11,16,18],[0,1,2,3,4],[1,6,10,14,18],[1,8,12,16,20],[1,7,11,15,19],[0,9,10,11,12],[2,6,9,16,19],[4,8,9,15,18],[3,7,9,14,20],[0,17,18,19,20],[3,6,12,15,17],[2,8,11,14,17],[4,7,10,16,17],[0,13,14,15,16],[4,6,11,13,20],[3,8,10,13,19],[2,7,12,13,18]]
def layP5 : List (List Nat) := [[1,6,11,16,21,26],[0,6,7,8,9,10],[5,6,15,19,23,27],[3,6,13,20,22,29],[4,6,14,17,25,28],[2,6,12,18,24,30],[0,1,2,3,4,5],[1,10,15,20,25,30],[1,8,13,18,23,28],[1,9,14,19,24,29],[1,7,12,17,22,27],[0,26,27,28,29,30],[5,10,14,18,22,26],[3,8,15,17,24,26],[4,9,12,20,23,26],[2,7,13,19,25,26],[0,16,17,18,19,20],[4,10,13,16,24,27],[5,8,12,16,25,29],[2,9,15,16,22,28],[3,7,14,16,23,30],[0,21,22,23,24,25],[3,10,12,19,21,28],[2,8,14,20,21,27],[5,9,13,17,21,30],[4,7,15,18,21,29],[0,11,12,13,14,15],[2,10,11,17,23,29],[4,8,11,19,22,30],[3,9,11,18,25,27],[5,7,11,20,24,28]]
def layF2 : List (List Nat) := [[0,2],[1,3],[0,3],[1,2],[0,1],[2,3]]
def layF3 : List (List Nat) := [[0,3,6],[1,4,7],[2,5,8],[0,4,8],[1,5,6],[2,3,7],[0,5,7],[1,3,8],[2,4,6],[0,1,2],[3,4,5],[6,7,8]]
def layF4 : List (List Nat) := [[0,4,8,12],[1,5,9,13],[2,6,10,14],[3,7,11,15],[0,5,10,15],[1,4,11,14],[2,7,8,13],[3,6,9,12],[0,6,11,13],[1,7,10,12],[2,4,9,15],[3,5,8,14],[0,7,9,14],[1,6,8,15],[2,5,11,12],[3,4,10,13],[0,1,2,3],[4,5,6,7],[8,9,10,11],[12,13,14,15]]
def layF5 : List (List Nat) := [[0,5,10,15,20],[1,6,11,16,21],[2,7,12,17,22],[3,8,13,18,23],[4,9,14,19,24],[0,6,12,18,24],[1,7,13,19,20],[2,8,14,15,21],[3,9,10,16,22],[4,5,11,17,23],[0,7,14,16,23],[1,8,10,17,24],[2,9,11,18,20],[3,5,12,19,21],[4,6,13,15,22],[0,8,11,19,22],[1,9,12,15,23],[2,5,13,16,24],[3,6,14,17,20],[4,7,10,18,21],[0,9,13,17,21],[1,5,14,18,22],[2,6,10,19,23],[3,7,11,15,24],[4,8,12,16,20],[0,1,2,3,4],[5,6,7,8,9],[10,11,12,13,14],[15,16,17,18,19],[20,21,22,23,24]]
theorem layP2_eq : planeL 2 [0,1] = layP2 := by decide +kernel
theorem layP3_eq : planeL 3 [0,1] = layP3 := by decide +kernel
theorem layP4_eq : planeL 2 [1,1,1] = layP4 := by decide +kernel
theorem layP5_eq : planeL 5 [0,1] = layP5 := by decide +kernel
theorem layF2_eq : flatL 2 [0,1] = layF2 := by decide +kernel
theorem layF3_eq : flatL 3 [0,1] = layF3 := by decide +kernel
theorem layF4_eq : flatL 2 [1,1,1] = layF4 := by decide +kernel
theorem layF5_eq : flatL 5 [0,1] = layF5 := by decide +kernel
theorem layP2_ok : LF 2 false 7 layP2 := lf_of (by decide +kernel) (by decide +kernel) (by decide)
theorem layP3_ok : LF 3 false 13 layP3 := lf_of (by decide +kernel) (by decide +kernel) (by decide)
theorem layP4_ok : LF 4 false 21 layP4 := lf_of (by decide +kernel) (by decide +kernel) (by decide)
theorem layP5_ok : LF 5 false 31 layP5 := lf_of (by decide +kernel) (by decide +kernel) (by decide)
theorem layF2_ok : LF 2 true 4 layF2 := lf_of (by decide +kernel) (by decide +kernel) (by decide)
theorem layF3_ok : LF 3 true 9 layF3 := lf_of (by decide +kernel) (by decide +kernel) (by decide)
theorem layF4_ok : LF 4 true 16 layF4 := lf_of (by decide +kernel) (by decide +kernel) (by decide)
theorem layF5_ok : LF 5 true 25 layF5 := lf_of (by decide +kernel) (by decide +kernel) (by decide)
def spAsked : Sp := fun vs H Q _ => ∃ (t a : Addr) (m : Nat) (bs : List (List Nat)) (pts : List Nat),vs = [.ref t,.ref a] ∧ LayA H t m bs ∧ m ≤ 60 ∧ (∀ b ∈ bs,Blk m b) ∧ H a = some (.lst (nats pts)) ∧ Bls m pts ∧
  ((∃ b ∈ bs,arcB pts b) → ∀ H',Same H H' → Q .non H') ∧ ((∀ b ∈ bs,¬ arcB pts b) → ∀ u gr gA sA rws R H',Same H H' → Grown H' u m bs pts gr gA sA rws R → Q (.ref u) H')
theorem scLAsked : FnScope ["_law_layout", "_law_points", "_law_grown"] ["_law_layout", "_law_points"] (defScope sLAsked) := ⟨rfl,rfl,rfl,by decide +kernel,rfl,by decide +kernel,by decide +kernel⟩
theorem ok_asked {f fI : Addr} {fd fdI : FuncData} (F : Fun K "_law_asked" "_law_asked" sLAsked f fd) (D : MarksX K mg M C fI fdI) (pGrown : Pm P w K mg base (CXD P w) 3 "grown_arc" ["M", "points"] (spGrown C)) : FnOk P w K mg base CX0 4 f fd ["_law_layout", "_law_points"] spAsked := by
  refine F.okQ scLAsked (fun vs H Q E h => ?_) (fun cdv A outer s H vs Q E hr3 h => ?_)
  · obtain ⟨t,a,m,bs,pts,rfl,_⟩ := h
    rfl
  · obtain ⟨t,a,m,bs,pts,rfl,hL,hm,hbk,ha,hp,qN,qG⟩ := h
    refine ⟨_,(qss_cons (qs_set (i := 2) scLAsked.nd rfl (Or.inl rfl) qe_non)
      (qss_cons (qs_tryDN rfl rfl rfl (fun pn E => qss_one (qs_set (i := 2) scLAsked.nd rfl (Or.inl rfl) (qe_callP pGrown hr3 rfl (passTD rfl) (qac (qv 0) (qac (qv 1) qa_nil))))) rfl D.mC D.R.eC (fun a => qss_one (qs_set (i := 2) scLAsked.nd rfl (Or.inl rfl) qe_non)))
      (qss_one (qs_ret (qv 2))))),?_⟩
    refine ⟨_,rfl,_,rfl,t,a,m,bs,pts,rfl,hL,hm,hbk,ha,hp,fun k' b' hk' hb' hf' dx H1 s1 hdx => ?_,fun hno u gr gA sA rws R H1 _ _ _ s1 hG => ?_⟩
    · exact ⟨C,rfl,mro_self D.R.eC,_,rfl,qN ⟨b',List.mem_of_getElem? hk',hb'⟩ _ s1⟩
    · exact ⟨_,rfl,qG hno u gr gA sA rws R _ s1 hG⟩
def spShownL : Sp := fun vs H Q _ => ∃ (t u : Addr) (m : Nat) (bs : List (List Nat)) (pts gr : List Nat) (gA sA : Addr) (rws : List V) (R : List (List Nat)),vs = [.ref t,.ref gA,.ref sA] ∧ LayA H t m bs ∧ m ≤ 60 ∧ (∀ b ∈ bs,Bls m b) ∧ Grown H u m bs pts gr gA sA rws R ∧ ∀ H',Same H H' → Q (.bl true) H'
theorem scLShown : FnScope ["_law_layout", "_law_grown", "_law_shown_here", "_law_beside", "_law_point", "_law_number", "_law_a", "_law_b"] ["_law_layout", "_law_grown", "_law_shown_here"] (defScope sLShown) := ⟨rfl,rfl,rfl,by decide +kernel,rfl,by decide +kernel,by decide +kernel⟩
theorem outs_le (m : Nat) (gr : List Nat) : ((List.range m).filter fun p => decide (p ∉ gr)).length ≤ m := Nat.le_trans (List.length_filter_le ..) (by rw [List.length_range]; exact Nat.le_refl _)
theorem ok_shownL {f : Addr} {fd : FuncData} (F : Fun K "_law_shown" "_law_shown" sLShown f fd) (T : TxtB mg) : FnOk P w K mg base CX0 1 f fd ["_law_layout", "_law_grown", "_law_shown_here"] spShownL := by
  refine F.okQ scLShown (fun vs H Q E h => ?_) (fun cdv A outer s H vs Q E hr h => ?_)
  · obtain ⟨t,u,m,bs,pts,gr,gA,sA,rws,R,rfl,_⟩ := h
    rfl
  · obtain ⟨t,u,m,bs,pts,gr,gA,sA,rws,R,rfl,⟨lb,ws,ht,hlb,hT,hlen⟩,hm,hbk,G,q⟩ := h
    refine ⟨_,(qss_cons (qs_setComp (i := 3) (g := gName 0) (N := ["_law_point", "_law_grown"]) (src := [none,some 1]) rfl (comp_scope (defScope sLShown) ["_law_layout", "_law_grown", "_law_shown_here", "_law_beside", "_law_point", "_law_number", "_law_a", "_law_b"] rfl rfl (by decide +kernel) rfl) (qi_range1 rfl T.range (qac (qe_ix ix_tup (qv 0) qe_int (fun _ _ => rfl)) qa_nil)) (fun _ _ _ _ _ => (qg_name (i := 0) (show (["_law_point", "_law_grown"] : List Str).Nodup by decide +kernel) rfl (Or.inl rfl) (Or.inr rfl))) (fun _ _ _ _ _ => (qif_one (qt_cmpR (show OpR _ _ (rIn K true) from op_notIn_seq) (qv 0) (qv 1) rfl))) (fun _ _ _ _ _ => (qv 0)) (qg_name (i := 3) scLShown.nd rfl (Or.inl rfl)))
      (qss_cons (qs_if (qt_cmpR (op_neD hr.units) (qe_comp (g := gName 0) (N := ["_law_row"]) (src := [none]) rfl (comp_scope (defScope sLShown) ["_law_layout", "_law_grown", "_law_shown_here", "_law_beside", "_law_point", "_law_number", "_law_a", "_law_b"] rfl rfl (by decide +kernel) rfl) (qi_list (qv 2)) (fun _ _ _ _ _ => (qg_name (i := 0) (show (["_law_row"] : List Str).Nodup by decide +kernel) rfl (Or.inl rfl) (Or.inr rfl))) (fun _ _ _ _ _ => qif_nil) (fun _ _ _ _ _ => (qe_ix (show IxR _ (rIxT K) from ix_tup) (qv 0) qe_int (fun _ _ => rfl)))) (qv 3) (nomark _)) (qss_one (qs_ret qe_bl)) qss_nil)
      (qss_cons (qs_for PassesOwn.never rfl (qi_list (qv 2)) (qg_tup rfl (qgs_cons (qg_name (i := 4) scLShown.nd rfl (Or.inl rfl)) (qgs_cons (qg_name (i := 5) scLShown.nd rfl (Or.inr rfl)) (qgs_cons (qg_name (i := 6) scLShown.nd rfl (Or.inl rfl)) (qgs_cons (qg_name (i := 7) scLShown.nd rfl (Or.inl rfl)) qgs_nil)))))
        (qss_one (qs_if (QW.pt (qw_or (qt_cmpR op_notIn_seq (qv 6) (qv 1) rfl) (qw_or (qt_cmpR op_notIn_seq (qv 7) (qv 1) rfl) (qw_or (qt_cmpR op_eq (qv 6) (qv 7) (nomark _)) (qw_or1 (qt_not (qt_val (qe_callB (call_all rfl) (by rfl) T.all (by decide +kernel) (qac (qe_comp (g := gName 0) (N := ["_law_one", "_law_layout", "_law_number"]) (src := [none,some 0,some 5]) rfl (comp_scope (defScope sLShown) ["_law_layout", "_law_grown", "_law_shown_here", "_law_beside", "_law_point", "_law_number", "_law_a", "_law_b"] rfl rfl (by decide +kernel) rfl) (qi_list (qe_lst (qac (qv 4) (qac (qv 6) (qac (qv 7) qa_nil))))) (fun _ _ _ _ _ => (qg_name (i := 0) (show (["_law_one", "_law_layout", "_law_number"] : List Str).Nodup by decide +kernel) rfl (Or.inl rfl) (Or.inr rfl))) (fun _ _ _ _ _ => qif_nil) (fun _ _ _ _ _ => (qe_cmpR (show OpR _ _ (rIn K false) from op_in_seq) (qv 0) (qe_ix (show IxR _ (rIxT K) from ix_tup) (qe_ix (show IxR _ (rIxT K) from ix_tup) (qv 1) qe_int (fun _ _ => rfl)) (qv 2) (fun _ _ => rfl)) rfl))) qa_nil))))))))) (qss_one (qs_ret qe_bl)) qss_nil)))
      (qss_one (qs_ret qe_bl))))),?_⟩
    have hRl : R.length ≤ m := by
      have := congrArg List.length G.fst
      rw [List.length_map] at this
      have h2 := outs_le m gr
      omega
    refine ⟨_,rfl,t,_,0,.int (m : Nat),rfl,rfl,SqT.of ht,rfl,((m : Nat) : Int),rfl,by omega,by omega,?_⟩
    rw [Int.toNat_natCast]
    refine comp_rng (lo := 0) (n := m) (fun i zs H2 => H2 = H ∧ zs = nats ((List.range i).filter fun p => decide (p ∉ gr))) ⟨rfl,rfl⟩ ?_ ?_
    · rintro i zs H2 N hi ⟨rfl,rfl⟩ nx
      rw [Int.zero_add]
      refine ⟨Weak.set (by intro v z; cases z),_,rfl,_,rfl,gA,nats gr,rfl,.inl (SqL.of G.tg),rfl,flat_nats gr,_,rfl,?_⟩
      show if (!inV (V.int ((i : Nat) : Int)) (nats gr)) = true then _ else _
      rw [inV_nats]
      have e := out_snoc i gr
      by_cases hg : i ∈ gr
      · rw [if_pos hg] at e
        rw [decide_eq_true hg]
        exact iteF (nx _ _ ⟨rfl,by rw [e]⟩)
      · rw [if_neg hg] at e
        rw [decide_eq_false hg]
        refine iteT ⟨_,rfl,?_,nx _ _ ⟨rfl,by rw [e,nats_snoc]⟩⟩
        rw [nats_len]
        exact Nat.lt_of_le_of_lt (outs_le i gr) (Nat.lt_of_lt_of_le hi (Nat.le_trans hm (by decide)))
    rintro zs H2 ⟨rfl,rfl⟩
    refine ⟨by rw [nats_len]; exact Nat.le_trans (outs_le m gr) (Nat.le_trans hm (by decide)),fun r hr' => ?_⟩
    have w1 := same_new (o := .lst (nats ((List.range m).filter fun p => decide (p ∉ gr)))) hr'
    have hr1 : upd H2 r (.lst (nats ((List.range m).filter fun p => decide (p ∉ gr)))) r = some (.lst (nats ((List.range m).filter fun p => decide (p ∉ gr)))) := upd_same
    generalize upd H2 r (.lst (nats ((List.range m).filter fun p => decide (p ∉ gr)))) = H1 at w1 hr1 ⊢
    have ts1 := w1 _ _ G.ts
    have tp1 := G.tp.sm w1
    refine ⟨_,rfl,sA,rfl,⟨_,SqL.of ts1⟩,comp_list (K := K) (a := sA) (xs := rws) (fun i zs H3 => H3 = H1 ∧ zs = nats ((R.take i).map fun r => r.getD 0 0)) ⟨rfl,rfl⟩ (fun i zs H3 _ ⟨e,_⟩ => SqL.of (e ▸ ts1)) ?_ ?_⟩
    · rintro i v zs H3 N hi ⟨rfl,rfl⟩ nx
      obtain ⟨d,rw',rfl,hrw,hd⟩ := tp1.get hi
      obtain ⟨p,k,x,y,b,rest,rfl,_,_,_⟩ := G.ok rw' (List.mem_of_getElem? hrw)
      have hil := (List.getElem?_eq_some_iff.mp hrw).1
      refine ⟨Weak.set (by intro v z; cases z),_,rfl,d,_,0,.int ((p : Nat) : Int),rfl,rfl,SqT.of hd,rfl,?_,nx _ _ ⟨rfl,?_⟩⟩
      · rw [nats_len,List.length_map,List.length_take]
        exact Nat.lt_of_lt_of_le (show _ < 61 by omega) (by decide)
      · rw [take_snoc hrw,List.map_append,← nats_snoc]
        rfl
    rintro zs H3 ⟨rfl,rfl⟩
    rw [tp1.len,List.take_length,G.fst]
    refine ⟨by rw [nats_len]; exact Nat.le_trans (outs_le m gr) (Nat.le_trans hm (by decide)),fun r2 hr2 => ?_⟩
    have w2 := same_new (o := .lst (nats ((List.range m).filter fun p => decide (p ∉ gr)))) hr2
    have hr22 : upd H3 r2 (.lst (nats ((List.range m).filter fun p => decide (p ∉ gr)))) r2 = some (.lst (nats ((List.range m).filter fun p => decide (p ∉ gr)))) := upd_same
    have s12 := w1.trans w2
    have hr12 := w2 _ _ hr1
    generalize upd H3 r2 (.lst (nats ((List.range m).filter fun p => decide (p ∉ gr)))) = H4 at w2 hr22 s12 hr12 ⊢
    refine ⟨_,rfl,dBlk _,dBlk _,isD_blkS hr22,isD_blkS hr12,shaped_blk _,shaped_blk _,_,rfl,?_⟩
    show if (!PyData.eqv (dBlk ((List.range m).filter fun p => decide (p ∉ gr))) (dBlk ((List.range m).filter fun p => decide (p ∉ gr)))) = true then _ else _
    rw [eqv_blkS,decide_eq_true rfl]
    refine iteF ?_
    have ts4 := s12 _ _ G.ts
    refine ⟨_,rfl,sA,rfl,⟨_,SqL.of ts4⟩,for_list (K := K) (a := sA) (xs := rws) (fun i σ H5 => Same H2 H5 ∧ ∃ x4 x5 x6 x7,σ = [some (.ref t),some (.ref gA),some (.ref sA),some (.ref r),x4,x5,x6,x7]) ⟨s12,none,none,none,none,rfl⟩ (fun i σ H5 _ ⟨e,_⟩ => SqL.of (e _ _ G.ts)) ?_ ?_⟩
    rotate_left
    · rintro σ H5 ⟨s5,x4,x5,x6,x7,rfl⟩
      exact q _ s5
    rintro i v σ H5 hi ⟨s5,x4,x5,x6,x7,rfl⟩
    obtain ⟨c,rw',rfl,hrw,hc⟩ := (G.tp.sm s5).get hi
    obtain ⟨p,k,x,y,b,rest,rfl,hkb,hpb,hib⟩ := G.ok rw' (List.mem_of_getElem? hrw)
    have hbb := hbk b (List.mem_of_getElem? hkb)
    have hkl := (List.getElem?_eq_some_iff.mp hkb).1
    have xy : x < y := by
      have : (ins gr b).Pairwise (· < ·) := hbb.so.sublist List.filter_sublist
      rw [hib,List.pairwise_cons] at this
      exact this.1 y (by simp)
    have hx := ins_mem.mp (show x ∈ ins gr b by rw [hib]; simp)
    have hy := ins_mem.mp (show y ∈ ins gr b by rw [hib]; simp)
    refine ⟨c,_,rfl,SqT.of hc,rfl,_,_,rfl,_,_,rfl,_,_,rfl,_,_,rfl,rfl,?_⟩
    have ha3 := s5 _ _ G.tg
    refine ⟨_,rfl,_,rfl,gA,nats gr,rfl,.inl (SqL.of ha3),rfl,flat_nats gr,_,rfl,?_⟩
    show if (!inV (V.int ((x : Nat) : Int)) (nats gr)) = true then _ else _
    rw [inV_nats,decide_eq_true hx.2]
    refine iteF ⟨_,rfl,_,rfl,gA,nats gr,rfl,.inl (SqL.of ha3),rfl,flat_nats gr,_,rfl,?_⟩
    show if (!inV (V.int ((y : Nat) : Int)) (nats gr)) = true then _ else _
    rw [inV_nats,decide_eq_true hy.2]
    refine iteF ⟨_,rfl,_,rfl,rfl,_,rfl,?_⟩
    rw [decide_eq_false (fun z => by injection z with z; omega)]
    refine iteF ⟨_,rfl,_,rfl,_,rfl,by show 3 ≤ sizeLine; decide,fun d hd => ?_⟩
    have w4 := same_new (o := .lst [V.int ((p : Nat) : Int),V.int ((x : Nat) : Int),V.int ((y : Nat) : Int)]) hd
    have hd4 : upd H5 d (.lst [V.int ((p : Nat) : Int),V.int ((x : Nat) : Int),V.int ((y : Nat) : Int)]) d = some (.lst (nats [p,x,y])) := upd_same
    have s4 := s5.trans w4
    generalize upd H5 d (.lst [V.int ((p : Nat) : Int),V.int ((x : Nat) : Int),V.int ((y : Nat) : Int)]) = H6 at hd4 s4 ⊢
    have gi : ws[k]? = some (ws[k]'(by rw [hT.len]; exact hkl)) := List.getElem?_eq_getElem _
    obtain ⟨db,b',ed,hbs,hdb⟩ := (hT.sm s4).get gi
    rw [hkb] at hbs
    cases hbs
    have all : ∀ z ∈ [p,x,y],z ∈ b := fun z hz => by
      simp only [List.mem_cons,List.not_mem_nil,or_false] at hz
      rcases hz with rfl | rfl | rfl
      · exact hpb
      · exact hx.1
      · exact hy.1
    refine ⟨d,rfl,⟨_,SqL.of hd4⟩,comp_list (K := K) (a := d) (xs := nats [p,x,y]) (fun i zs H7 => H7 = H6 ∧ zs = (List.replicate i true).map V.bl) ⟨rfl,rfl⟩ (fun i zs H7 _ ⟨e,_⟩ => SqL.of (e ▸ hd4)) ?_ ?_⟩
    · rintro i v zs H7 N hi ⟨rfl,rfl⟩ nx
      obtain ⟨z,hz,rfl⟩ := L2.nats_get hi
      have hil : i < 3 := (List.getElem?_eq_some_iff.mp hz).1
      have hl : ((List.replicate i true).map V.bl).length < sizeLine := by
        rw [rep_len]
        exact Nat.lt_of_lt_of_le hil (by decide)
      refine ⟨Weak.set (by intro v z; cases z),?_⟩
      refine ⟨_,rfl,_,rfl,t,_,1,.ref lb,rfl,rfl,SqT.of (s4 _ _ ht),rfl,_,rfl,lb,ws,_,_,rfl,rfl,SqT.of (s4 _ _ hlb),atI_nat gi,db,nats b,ed,.inr (SqT.of hdb),rfl,flat_nats b,?_⟩
      have e : inV (V.int ((z : Nat) : Int)) (nats b) = true := by
        rw [inV_nats]
        exact decide_eq_true (all z (List.mem_of_getElem? hz))
      refine ⟨hl,nx _ _ ⟨rfl,?_⟩⟩
      show _ ++ [V.bl (inV (V.int ((z : Nat) : Int)) (nats b))] = _
      rw [e]
      exact rep_snoc ..
    rintro zs H7 ⟨rfl,rfl⟩
    refine ⟨by rw [rep_len]; show 3 ≤ sizeLine; decide,fun r5 hr5 => ⟨r5,_,rfl,SqL.of upd_same,?_⟩⟩
    rw [rep_all]
    exact ⟨_,rfl,iteF ⟨s4.trans (same_new hr5),_,_,_,_,rfl⟩⟩
theorem cut_len {ns : List Int} (lo hi : Option Int) : ∃ nc : List Int,cutV (ns.map V.int) lo hi = nc.map V.int ∧ nc.length ≤ ns.length := by
  unfold cutV
  refine ⟨(ns.drop (HT.sIx (ns.map V.int).length 0 lo)).take (HT.sIx (ns.map V.int).length (ns.map V.int).length hi - HT.sIx (ns.map V.int).length 0 lo),by rw [List.map_take,List.map_drop],?_⟩
  rw [List.length_take,List.length_drop]
  omega
theorem ints_blk {m : Nat} {L : List Int} (nd : L.Nodup) (lim : ∀ x ∈ L,0 ≤ x ∧ x < ((m : Nat) : Int)) : ∃ b : List Nat,L = b.map (fun p : Nat => (p : Int)) ∧ Blk m b := by
  have e : L = (L.map Int.toNat).map (fun p : Nat => (p : Int)) := by
    rw [List.map_map]
    conv => lhs; rw [← List.map_id L]
    refine List.map_congr_left fun x hx => ?_
    have := lim x hx
    show x = ((x.toNat : Nat) : Int)
    omega
  refine ⟨L.map Int.toNat,e,?_,fun y hy => ?_⟩
  · rw [List.nodup_iff_pairwise_ne,List.pairwise_map]
    refine (List.Pairwise.and_mem.mp (List.nodup_iff_pairwise_ne.mp nd)).imp fun ⟨ha,hb,z⟩ => ?_
    have h1 := lim _ ha
    have h2 := lim _ hb
    omega
  · obtain ⟨x,hx,rfl⟩ := List.mem_map.mp hy
    have := lim x hx
    omega
structure Fr (q p : Nat) (row : List Nat) : Prop where
  ok : FOk p row
  pl : LF q false (nT (nF p row)) (planeL p row)
  fl : LF q true (nF p row * nF p row) (flatL p row)
theorem fr2 : Fr 2 2 [0,1] := ⟨fac_ok (n := 1) (x := 0) (by decide) (by decide) (by decide) (by decide) (dv_one 2 0),by rw [layP2_eq]; exact layP2_ok,by rw [layF2_eq]; exact layF2_ok⟩
theorem fr3 : Fr 3 3 [0,1] := ⟨fac_ok (n := 1) (x := 0) (by decide) (by decide) (by decide) (by decide) (dv_one 3 0),by rw [layP3_eq]; exact layP3_ok,by rw [layF3_eq]; exact layF3_ok⟩
theorem fr4 : Fr 4 2 [1,1,1] := ⟨fac_ok (n := 2) (x := 3) (by decide) (by decide) (by decide) (by decide) irr22,by rw [layP4_eq]; exact layP4_ok,by rw [layF4_eq]; exact layF4_ok⟩
theorem fr5 : Fr 5 5 [0,1] := ⟨fac_ok (n := 1) (x := 0) (by decide) (by decide) (by decide) (by decide) (dv_one 5 0),by rw [layP5_eq]; exact layP5_ok,by rw [layF5_eq]; exact layF5_ok⟩
theorem lf_arc {q m : Nat} {flat : Bool} {bs : List (List Nat)} {g : List Nat} (h : LF q flat m bs) (hg : Bls m g) (ha : ∀ b ∈ bs,¬ arcB g b) : g.length ≤ q + 1 + (if q % 2 = 0 then 1 else 0) := by
  have ha' : ∀ b ∈ bs,(ins g b).length ≤ 2 := fun b hb => Nat.le_of_not_lt (ha b hb)
  have h1 := ar_arc_le h.ar hg.nd hg.lt ha'
  split
  · exact h1
  · rename_i ho
    rcases Nat.lt_or_ge g.length (q + 1 + 1) with z | z
    · omega
    exfalso
    have hl : g.length = q + 1 + 1 := Nat.le_antisymm h1 z
    have hq2 := h.q2
    have hq5 := h.q5
    have hlt : g.length < m := by
      have hb := h.big
      have : q + 1 + 1 < q * q := by
        have : q = 3 ∨ q = 5 := by omega
        rcases this with rfl | rfl <;> decide
      omega
    have : ∃ z,z < m ∧ z ∉ g := Classical.byContradiction fun no => by
      have all : ∀ z,z < m → z ∈ g := fun z hz => Classical.byContradiction fun hn => no ⟨z,hz,hn⟩
      have e := bls_uniq hg (⟨List.pairwise_lt_range,fun x hx => List.mem_range.mp hx⟩ : Bls m (List.range m)) fun x => ⟨fun hx => List.mem_range.mpr (hg.lt x hx),fun hx => all x (List.mem_range.mp hx)⟩
      rw [e,List.length_range] at hlt
      omega
    obtain ⟨z,hz,hzg⟩ := this
    have := ar_arc_even h.ar hg.nd hg.lt ha' hl hz hzg
    omega
def offG (m : Nat) (g : List Nat) : List Nat := (List.range m).filter fun p => decide (p ∉ g)
theorem lf_off {q m : Nat} {flat : Bool} {bs : List (List Nat)} {g : List Nat} (h : LF q flat m bs) (ha : ∀ b ∈ bs,¬ arcB g b) (hf : flat = false ∨ 2 < q) : ∀ b ∈ bs,¬ metB (offG m g) b := fun b hb hm => by
  refine ha b hb ?_
  have e : ins (offG m g) b = [] := List.length_eq_zero_iff.mp hm
  have hin : ∀ x ∈ b,x ∈ g := fun x hx => Classical.byContradiction fun hn => by
    have : x ∈ ins (offG m g) b := ins_mem.mpr ⟨hx,by
      unfold offG
      exact List.mem_filter.mpr ⟨List.mem_range.mpr ((h.bl b hb).lt x hx),decide_eq_true hn⟩⟩
    rw [e] at this
    cases this
  have : ins g b = b := by
    unfold ins
    exact List.filter_eq_self.mpr fun x hx => decide_eq_true (hin x hx)
  unfold arcB
  rw [this,h.len b hb]
  have := h.q2
  rcases hf with z | z
  · rw [z,if_neg (by decide)]; omega
  · split <;> omega
theorem lf_thin {q m : Nat} {bs : List (List Nat)} {b kp : List Nat} (h : LF q false m bs) (hb : b ∈ bs) (e : kp = ins kp b) (hm : ∀ c ∈ bs,¬ metB kp c) : kp = b := by
  have hin : ∀ p ∈ b,p ∈ kp := fun p hp => by
    obtain ⟨c,hc,ec⟩ := (h.meet rfl b hb).2 p hp
    have hne : ins kp c ≠ [] := fun z => hm c hc (by unfold metB; rw [z]; rfl)
    obtain ⟨x,hx⟩ := List.exists_mem_of_ne_nil _ hne
    have h1 := ins_mem.mp hx
    have h2 := h1.2
    rw [e] at h2
    have h3 := ins_mem.mp h2
    have : x ∈ ins b c := ins_mem.mpr ⟨h1.1,h3.1⟩
    rw [ec] at this
    rw [← List.mem_singleton.mp this]
    exact h1.2
  rw [e]
  unfold ins
  exact List.filter_eq_self.mpr fun x hx => decide_eq_true (hin x hx)
theorem arc_no {pts : List Nat} {bs : List (List Nat)} {x : Str} {L : List Nat} (h : arcW pts bs x L) (ha : ∀ b ∈ bs,¬ arcB pts b) : x = "arc" ∧ L = [] := by
  rcases h with ⟨rfl,rfl,_⟩ | ⟨k,b,_,_,hk,hb,_⟩
  · exact ⟨rfl,rfl⟩
  · exact absurd hb (ha b (List.mem_of_getElem? hk))
theorem arc_yes {pts : List Nat} {bs : List (List Nat)} {x : Str} {L : List Nat} (h : arcW pts bs x L) (ha : ∃ b ∈ bs,arcB pts b) : x = "three" := by
  obtain ⟨b,hb,ha⟩ := ha
  rcases h with ⟨_,_,h⟩ | ⟨k,b,rfl,_,_,_,_⟩
  · exact absurd ha (h b hb)
  · rfl
theorem met_no {pts : List Nat} {bs : List (List Nat)} {x : Str} {L : List Nat} (h : metW pts bs x L) (ha : ∀ b ∈ bs,¬ metB pts b) : x = "meets" ∧ L = [] := by
  rcases h with ⟨rfl,rfl,_⟩ | ⟨k,b,_,_,hk,hb,_⟩
  · exact ⟨rfl,rfl⟩
  · exact absurd hb (ha b (List.mem_of_getElem? hk))
theorem met_yes {pts : List Nat} {bs : List (List Nat)} {x : Str} {L : List Nat} (h : metW pts bs x L) (ha : ∃ b ∈ bs,metB pts b) : x = "missed" := by
  obtain ⟨b,hb,ha⟩ := ha
  rcases h with ⟨_,_,h⟩ | ⟨k,b,rfl,_,_,_,_⟩
  · exact absurd ha (h b hb)
  · rfl
def W2 (CF f1 f2 : Addr) (f : Addr) (sp : Sp) : Prop := (f = f1 ∧ sp = spPlaneOf CF) ∨ (f = f2 ∧ sp = spFlatOf CF)
theorem word_arc : PyData.strOk "arc" = true := by decide +kernel
theorem word_meets : PyData.strOk "meets" = true := by decide +kernel
theorem scLaw : FnScope ["_law_script", "_law_xs", "_law_p", "_law_row", "_law_field", "_law_q", "_law_flat", "_law_layout", "_law_ys", "_law_points", "_law_found", "_law_grown", "_law_shown_here", "_law_off", "_law_line"] ["_law_script"] (defScope sLaw) := ⟨rfl,rfl,rfl,by decide +kernel,rfl,by decide +kernel,by decide +kernel⟩
theorem ok_law {f CF f1 f2 : Addr} {fd fd1 fd2 : FuncData} (F : Fun K "law" "law" sLaw f fd) (T : TxtB mg) (pCell : Pm P w K mg base CX0 1 "_law_cell" ["_law_script", "_law_k"] (spCell2 K)) (pLNumbers : Pm P w K mg base CX0 1 "_law_numbers" ["_law_cell_here", "_law_many"] spNums)
    (pField : Mkp P w K mg base CX0 7 "Field" CF ["self", "p", "row"] (spInit CF)) (m1 : mg "plane_of" = some (.ref f1)) (m2 : mg "flat_of" = some (.ref f2)) (k1 : PySem.W.keepIn K (.ref f1) = true) (k2 : PySem.W.keepIn K (.ref f2) = true) (b1 : Binds K fd1 ["field"] []) (b2 : Binds K fd2 ["field"] []) (F1 : FnOk P w K mg base CX0 7 f1 fd1 ["field"] (spPlaneOf CF)) (F2 : FnOk P w K mg base CX0 5 f2 fd2 ["field"] (spFlatOf CF))
    (pLAsked : Pm P w K mg base CX0 4 "_law_asked" ["_law_layout", "_law_points"] spAsked) (pArcTold : Pm P w K mg base CX0 2 "arc_told" ["M", "points"] (spToldS arcW)) (pLShown : Pm P w K mg base CX0 1 "_law_shown" ["_law_layout", "_law_grown", "_law_shown_here"] spShownL) (pMeetingTold : Pm P w K mg base CX0 2 "meeting_told" ["M", "points"] (spToldS metW)) (pThin : Pm P w K mg base CX0 3 "thinned_set" ["M", "points"] spThin0) : FnOk P w K mg base CX0 12 f fd ["_law_script"] (spLaw K) := by
  refine F.okQ scLaw (fun vs H Q E h => ?_) (fun cdv A outer s H vs Q E hr h => ?_)
  · obtain ⟨a,ns,rfl,_⟩ := h
    rfl
  · obtain ⟨a,ns,rfl,hS,hns,k⟩ := h
    have hr1 := hr.mono (show 1 ≤ 11 by decide)
    have hr2 := hr.mono (show 2 ≤ 11 by decide)
    have hr3 := hr.mono (show 3 ≤ 11 by decide)
    have hr4 := hr.mono (show 4 ≤ 11 by decide)
    have hr7 := hr.mono (show 7 ≤ 11 by decide)
    have hr8 := hr.mono (show 8 ≤ 11 by decide)
    have hW : ∀ f sp,W2 CF f1 f2 f sp → ∃ fd ps,PySem.W.keepIn K (.ref f) = true ∧ Binds K fd ps [] ∧ FnOk P w K mg base CX0 7 f fd ps sp := fun f sp h => by
      rcases h with ⟨rfl,rfl⟩ | ⟨rfl,rfl⟩
      · exact ⟨fd1,_,k1,b1,F1⟩
      · exact ⟨fd2,_,k2,b2,F2.mono (by decide)⟩
    refine ⟨_,(qss_cons (qs_set (i := 1) scLaw.nd rfl (Or.inl rfl) (qe_callP pLNumbers hr1 rfl pass0 (qac (qe_callP pCell hr1 rfl pass0 (qac (qv 0) (qac qe_int qa_nil))) (qac qe_int qa_nil))))
      (qss_cons (qs_asg (qe_ix ix_list (qe_lst (qac (qe_tup (qac qe_int (qac (qe_tup (qac qe_int (qac qe_int qa_nil))) qa_nil))) (qac (qe_tup (qac qe_int (qac (qe_tup (qac qe_int (qac qe_int qa_nil))) qa_nil))) (qac (qe_tup (qac qe_int (qac (qe_tup (qac qe_int (qac qe_int (qac qe_int qa_nil)))) qa_nil))) (qac (qe_tup (qac qe_int (qac (qe_tup (qac qe_int (qac qe_int qa_nil))) qa_nil))) qa_nil))))) (qe_op op_mod (qe_ix ix_list (qv 1) qe_int (fun _ _ => rfl)) qe_int) (fun _ _ => rfl)) (qg_tup rfl (qgs_cons (qg_name (i := 2) scLaw.nd rfl (Or.inl rfl)) (qgs_cons (qg_name (i := 3) scLaw.nd rfl (Or.inl rfl)) qgs_nil))))
      (qss_cons (qs_set (i := 4) scLaw.nd rfl (Or.inl rfl) (qe_makeP pField hr8 rfl pass0 (qac (qv 2) (qac (qv 3) qa_nil))))
      (qss_cons (qs_set (i := 5) scLaw.nd rfl (Or.inl rfl) (qe_ix ix_list (qe_lst (qac qe_int (qac qe_int (qac qe_int (qac qe_int qa_nil))))) (qe_op op_mod (qe_ix ix_list (qv 1) qe_int (fun _ _ => rfl)) qe_int) (fun _ _ => rfl)))
      (qss_cons (qs_set (i := 6) scLaw.nd rfl (Or.inl rfl) (qe_cmpR op_eq (qe_op op_mod (qe_ix ix_list (qv 1) qe_int (fun _ _ => rfl)) qe_int) qe_int (nomark _)))
      (qss_cons (qs_set (i := 7) scLaw.nd rfl (Or.inr rfl) (qe_callV (W := W2 CF f1 f2) (qe_ix ix_list (qe_lst (qac (qe_fn rfl m1) (qac (qe_fn rfl m2) qa_nil))) (qe_callTy call_int1 (by rfl) T.int PyProof.Rows.boot_int (qac (qv 6) qa_nil)) (fun _ _ => rfl)) hW hr7 pass0 (qac (qv 4) qa_nil)))
      (qss_cons (qs_set (i := 8) scLaw.nd rfl (Or.inl rfl) (qe_callP pLNumbers hr1 rfl pass0 (qac (qe_callP pCell hr1 rfl pass0 (qac (qv 0) (qac qe_int qa_nil))) (qac qe_int qa_nil))))
      (qss_cons (qs_set (i := 9) scLaw.nd rfl (Or.inl rfl) (qe_callB (show CallR _ _ (rSortS P w) from call_sortS rfl) (by rfl) T.sor (by decide +kernel) (qac (qe_callTy (show CallR _ _ (rSetW P w K) from call_setW rfl) (by rfl) T.set (by decide +kernel) (qac (qe_comp (g := gName 0) (N := ["_law_y", "_law_layout"]) (src := [none,some 7]) rfl (comp_scope (defScope sLaw) ["_law_script", "_law_xs", "_law_p", "_law_row", "_law_field", "_law_q", "_law_flat", "_law_layout", "_law_ys", "_law_points", "_law_found", "_law_grown", "_law_shown_here", "_law_off", "_law_line"] rfl rfl (by decide +kernel) rfl) (qi_list (qe_slice sl_list (qv 8) (qo_some qe_int) (qo_some (qe_op op_add qe_int (qe_op op_mod (qe_ix ix_list (qv 8) qe_int (fun _ _ => rfl)) qe_int))))) (fun _ _ _ _ _ => (qg_name (i := 0) (show (["_law_y", "_law_layout"] : List Str).Nodup by decide +kernel) rfl (Or.inl rfl) (Or.inr rfl))) (fun _ _ _ _ _ => qif_nil) (fun _ _ _ _ _ => (qe_op op_mod (qv 0) (qe_ix (show IxR _ (rIxT K) from ix_tup) (qv 1) qe_int (fun _ _ => rfl))))) qa_nil)) qa_nil)))
      (qss_cons (qs_set (i := 10) scLaw.nd rfl (Or.inl rfl) (qe_callP pLAsked hr4 rfl pass0 (qac (qv 7) (qac (qv 9) qa_nil))))
      (qss_cons (qs_if (qt_isN (qv 10)) (qss_one (qs_ret (qe_cmpR op_eq (qe_ix ix_tup (qe_callP pArcTold hr2 rfl pass0 (qac (qv 7) (qac (qv 9) qa_nil))) qe_int (fun _ _ => rfl)) qe_str (nomark _)))) qss_nil)
      (qss_cons (qs_asg (qv 10) (qg_tup rfl (qgs_cons (qg_name (i := 11) scLaw.nd rfl (Or.inr rfl)) (qgs_cons (qg_name (i := 12) scLaw.nd rfl (Or.inl rfl)) qgs_nil))))
      (qss_cons (qs_if (QW.pt (qw_or (qt_cmpR (op_neD hr.units) (qe_callP pArcTold hr2 rfl pass0 (qac (qv 7) (qac (qv 11) qa_nil))) (qe_tup (qac qe_str qa_nil)) (nomark _)) (qw_or1 (qt_cmpR op_gt (qe_callB call_len_seq (by rfl) T.len PySem.boot_len (qac (qv 11) qa_nil)) (qe_op op_add (qe_op op_add (qv 5) qe_int) (qe_callTy call_int1 (by rfl) T.int PyProof.Rows.boot_int (qac (qe_cmpR op_eq (qe_op op_mod (qv 5) qe_int) qe_int (nomark _)) qa_nil))) (nomark _))))) (qss_one (qs_ret qe_bl)) qss_nil)
      (qss_cons (qs_if (qt_not (qt_val (qe_callP pLShown hr1 rfl pass0 (qac (qv 7) (qac (qv 11) (qac (qv 12) qa_nil)))))) (qss_one (qs_ret qe_bl)) qss_nil)
      (qss_cons (qs_setComp (i := 13) (g := gName 0) (N := ["_law_point", "_law_grown"]) (src := [none,some 11]) rfl (comp_scope (defScope sLaw) ["_law_script", "_law_xs", "_law_p", "_law_row", "_law_field", "_law_q", "_law_flat", "_law_layout", "_law_ys", "_law_points", "_law_found", "_law_grown", "_law_shown_here", "_law_off", "_law_line"] rfl rfl (by decide +kernel) rfl) (qi_range1 rfl T.range (qac (qe_ix ix_tup (qv 7) qe_int (fun _ _ => rfl)) qa_nil)) (fun _ _ _ _ _ => (qg_name (i := 0) (show (["_law_point", "_law_grown"] : List Str).Nodup by decide +kernel) rfl (Or.inl rfl) (Or.inr rfl))) (fun _ _ _ _ _ => (qif_one (qt_cmpR (show OpR _ _ (rIn K true) from op_notIn_seq) (qv 0) (qv 1) rfl))) (fun _ _ _ _ _ => (qv 0)) (qg_name (i := 13) scLaw.nd rfl (Or.inl rfl)))
      (qss_cons (qs_if (QW.pt (qw_and (QW.pt (qw_or (qt_not (qt_val (qv 6))) (qw_or1 (qt_cmpR op_gt (qv 5) qe_int (nomark _))))) (qw_and1 (qt_cmpR (op_neD hr.units) (qe_callP pMeetingTold hr2 rfl pass0 (qac (qv 7) (qac (qv 13) qa_nil))) (qe_tup (qac qe_str qa_nil)) (nomark _))))) (qss_one (qs_ret qe_bl)) qss_nil)
      (qss_cons (qs_set (i := 14) scLaw.nd rfl (Or.inl rfl) (qe_callTy call_list_of (by rfl) T.lst (by decide +kernel) (qac (qe_ix ix_tup (qe_ix ix_tup (qv 7) qe_int (fun _ _ => rfl)) (qe_op op_mod (qe_ix ix_list (qv 1) qe_int (fun _ _ => rfl)) (qe_callB call_len_seq (by rfl) T.len PySem.boot_len (qac (qe_ix ix_tup (qv 7) qe_int (fun _ _ => rfl)) qa_nil))) (fun _ _ => rfl)) qa_nil)))
      (qss_cons (qs_if (qt_val (qv 6)) (qss_one (qs_ret (qe_cmpR op_eq (qe_ix ix_tup (qe_callP pMeetingTold hr2 rfl pass0 (qac (qv 7) (qac (qv 14) qa_nil))) qe_int (fun _ _ => rfl)) qe_str (nomark _)))) qss_nil)
      (qss_one (qs_ret (qe_and (qe_cmpR (op_eqD hr.units) (qe_callP pMeetingTold hr2 rfl pass0 (qac (qv 7) (qac (qv 14) qa_nil))) (qe_tup (qac qe_str qa_nil)) (nomark _)) (qe_one (qe_cmpR (op_eqD hr.units) (qe_ix ix_tup (qe_callP pThin hr3 rfl pass0 (qac (qv 7) (qac (qv 14) qa_nil))) qe_int (fun _ _ => rfl)) (qv 14) (nomark _))))))))))))))))))))))),?_⟩
    refine ⟨_,rfl,a,ns,0,rfl,hS,by decide,fun c1 H1 s1 => ⟨c1,4,rfl,by decide,fun lx xs H2 hlx s2 hx2 hn hxs => ?_⟩⟩
    obtain ⟨x0,e0,m0⟩ := at_ok (ns := xs) (i := 0) (by omega)
    obtain ⟨x1,e1,m1'⟩ := at_ok (ns := xs) (i := 1) (by omega)
    obtain ⟨x2,e2,m2'⟩ := at_ok (ns := xs) (i := 2) (by omega)
    have s12 := s1.trans s2
    dsimp only
    refine seqVia (fun σ' H' => ∃ (q p : Nat) (row : List Nat) (rr : Addr),Fr q p row ∧ atI [V.int 2,.int 3,.int 4,.int 5] (x0 % 4) = some (.int ((q : Nat) : Int)) ∧ H' rr = some (.tup (nats row)) ∧ Same H2 H' ∧ σ' = [some (.ref a),some (.ref lx),some (.int ((p : Nat) : Int)),some (.ref rr),none,none,none,none,none,none,none,none,none,none,none]) ?_ (fun D' go => ?_)
    rotate_left
    · refine ⟨by show 2 ≤ sizeLine; decide,fun r1 hr1 => ?_⟩
      have wr1 := same_new (o := .tup [V.int 0,.int 1]) hr1
      have gr1 : upd H2 r1 (.tup [V.int 0,.int 1]) r1 = some (.tup [V.int 0,.int 1]) := upd_same
      have hx2 := wr1 _ _ hx2
      have sG := wr1
      generalize upd H2 r1 (.tup [V.int 0,.int 1]) = G0 at hx2 gr1 sG ⊢
      clear wr1
      refine ⟨by show 2 ≤ sizeLine; decide,fun t1 ht1 => ?_⟩
      have wt1 := same_new (o := .tup [V.int 2,.ref r1]) ht1
      have gt1 : upd G0 t1 (.tup [V.int 2,.ref r1]) t1 = some (.tup [V.int 2,.ref r1]) := upd_same
      have hx2 := wt1 _ _ hx2
      have gr1 := wt1 _ _ gr1
      have sG := sG.trans wt1
      generalize upd G0 t1 (.tup [V.int 2,.ref r1]) = G1 at hx2 gr1 gt1 sG ⊢
      clear wt1
      refine ⟨by show 2 ≤ sizeLine; decide,fun r2 hr2 => ?_⟩
      have wr2 := same_new (o := .tup [V.int 0,.int 1]) hr2
      have gr2 : upd G1 r2 (.tup [V.int 0,.int 1]) r2 = some (.tup [V.int 0,.int 1]) := upd_same
      have hx2 := wr2 _ _ hx2
      have gr1 := wr2 _ _ gr1
      have gt1 := wr2 _ _ gt1
      have sG := sG.trans wr2
      generalize upd G1 r2 (.tup [V.int 0,.int 1]) = G2 at hx2 gr1 gt1 gr2 sG ⊢
      clear wr2
      refine ⟨by show 2 ≤ sizeLine; decide,fun t2 ht2 => ?_⟩
      have wt2 := same_new (o := .tup [V.int 3,.ref r2]) ht2
      have gt2 : upd G2 t2 (.tup [V.int 3,.ref r2]) t2 = some (.tup [V.int 3,.ref r2]) := upd_same
      have hx2 := wt2 _ _ hx2
      have gr1 := wt2 _ _ gr1
      have gt1 := wt2 _ _ gt1
      have gr2 := wt2 _ _ gr2
      have sG := sG.trans wt2
      generalize upd G2 t2 (.tup [V.int 3,.ref r2]) = G3 at hx2 gr1 gt1 gr2 gt2 sG ⊢
      clear wt2
      refine ⟨by show 3 ≤ sizeLine; decide,fun r3 hr3 => ?_⟩
      have wr3 := same_new (o := .tup [V.int 1,.int 1,.int 1]) hr3
      have gr3 : upd G3 r3 (.tup [V.int 1,.int 1,.int 1]) r3 = some (.tup [V.int 1,.int 1,.int 1]) := upd_same
      have hx2 := wr3 _ _ hx2
      have gr1 := wr3 _ _ gr1
      have gt1 := wr3 _ _ gt1
      have gr2 := wr3 _ _ gr2
      have gt2 := wr3 _ _ gt2
      have sG := sG.trans wr3
      generalize upd G3 r3 (.tup [V.int 1,.int 1,.int 1]) = G4 at hx2 gr1 gt1 gr2 gt2 gr3 sG ⊢
      clear wr3
      refine ⟨by show 2 ≤ sizeLine; decide,fun t3 ht3 => ?_⟩
      have wt3 := same_new (o := .tup [V.int 2,.ref r3]) ht3
      have gt3 : upd G4 t3 (.tup [V.int 2,.ref r3]) t3 = some (.tup [V.int 2,.ref r3]) := upd_same
      have hx2 := wt3 _ _ hx2
      have gr1 := wt3 _ _ gr1
      have gt1 := wt3 _ _ gt1
      have gr2 := wt3 _ _ gr2
      have gt2 := wt3 _ _ gt2
      have gr3 := wt3 _ _ gr3
      have sG := sG.trans wt3
      generalize upd G4 t3 (.tup [V.int 2,.ref r3]) = G5 at hx2 gr1 gt1 gr2 gt2 gr3 gt3 sG ⊢
      clear wt3
      refine ⟨by show 2 ≤ sizeLine; decide,fun r4 hr4 => ?_⟩
      have wr4 := same_new (o := .tup [V.int 0,.int 1]) hr4
      have gr4 : upd G5 r4 (.tup [V.int 0,.int 1]) r4 = some (.tup [V.int 0,.int 1]) := upd_same
      have hx2 := wr4 _ _ hx2
      have gr1 := wr4 _ _ gr1
      have gt1 := wr4 _ _ gt1
      have gr2 := wr4 _ _ gr2
      have gt2 := wr4 _ _ gt2
      have gr3 := wr4 _ _ gr3
      have gt3 := wr4 _ _ gt3
      have sG := sG.trans wr4
      generalize upd G5 r4 (.tup [V.int 0,.int 1]) = G6 at hx2 gr1 gt1 gr2 gt2 gr3 gt3 gr4 sG ⊢
      clear wr4
      refine ⟨by show 2 ≤ sizeLine; decide,fun t4 ht4 => ?_⟩
      have wt4 := same_new (o := .tup [V.int 5,.ref r4]) ht4
      have gt4 : upd G6 t4 (.tup [V.int 5,.ref r4]) t4 = some (.tup [V.int 5,.ref r4]) := upd_same
      have hx2 := wt4 _ _ hx2
      have gr1 := wt4 _ _ gr1
      have gt1 := wt4 _ _ gt1
      have gr2 := wt4 _ _ gr2
      have gt2 := wt4 _ _ gt2
      have gr3 := wt4 _ _ gr3
      have gt3 := wt4 _ _ gt3
      have gr4 := wt4 _ _ gr4
      have sG := sG.trans wt4
      generalize upd G6 t4 (.tup [V.int 5,.ref r4]) = G7 at hx2 gr1 gt1 gr2 gt2 gr3 gt3 gr4 gt4 sG ⊢
      clear wt4
      refine ⟨by show 4 ≤ sizeLine; decide,fun d hd => ?_⟩
      have wd := same_new (o := .lst [V.ref t1,.ref t2,.ref t3,.ref t4]) hd
      have gd : upd G7 d (.lst [V.ref t1,.ref t2,.ref t3,.ref t4]) d = some (.lst [V.ref t1,.ref t2,.ref t3,.ref t4]) := upd_same
      have hx2 := wd _ _ hx2
      have gr1 := wd _ _ gr1
      have gt1 := wd _ _ gt1
      have gr2 := wd _ _ gr2
      have gt2 := wd _ _ gt2
      have gr3 := wd _ _ gr3
      have gt3 := wd _ _ gt3
      have gr4 := wd _ _ gr4
      have gt4 := wd _ _ gt4
      have sG := sG.trans wd
      generalize upd G7 d (.lst [V.ref t1,.ref t2,.ref t3,.ref t4]) = G8 at hx2 gr1 gt1 gr2 gt2 gr3 gt3 gr4 gt4 gd sG ⊢
      clear wd
      have hz : x0 % 4 = 0 ∨ x0 % 4 = 1 ∨ x0 % 4 = 2 ∨ x0 % 4 = 3 := by omega
      refine ⟨_,rfl,lx,_,0,.int x0,rfl,rfl,SqL.of hx2,e0,_,_,rfl,rfl,(by decide : (0 : Int) < 4),?_⟩
      rcases hz with hz | hz | hz | hz
      · exact ⟨d,_,_,.ref t1,rfl,rfl,SqL.of gd,by rw [hz]; rfl,t1,_,rfl,SqT.of gt1,rfl,_,_,rfl,_,_,rfl,rfl,go _ _ ⟨2,2,[0,1],r1,fr2,by rw [hz]; rfl,gr1,sG,rfl⟩⟩
      · exact ⟨d,_,_,.ref t2,rfl,rfl,SqL.of gd,by rw [hz]; rfl,t2,_,rfl,SqT.of gt2,rfl,_,_,rfl,_,_,rfl,rfl,go _ _ ⟨3,3,[0,1],r2,fr3,by rw [hz]; rfl,gr2,sG,rfl⟩⟩
      · exact ⟨d,_,_,.ref t3,rfl,rfl,SqL.of gd,by rw [hz]; rfl,t3,_,rfl,SqT.of gt3,rfl,_,_,rfl,_,_,rfl,rfl,go _ _ ⟨4,2,[1,1,1],r3,fr4,by rw [hz]; rfl,gr3,sG,rfl⟩⟩
      · exact ⟨d,_,_,.ref t4,rfl,rfl,SqL.of gd,by rw [hz]; rfl,t4,_,rfl,SqT.of gt4,rfl,_,_,rfl,_,_,rfl,rfl,go _ _ ⟨5,5,[0,1],r4,fr5,by rw [hz]; rfl,gr4,sG,rfl⟩⟩
    rintro σ' H3 ⟨q,p,row,rr,hF,hq,hrr,s3,rfl⟩
    have hx3 := s3 _ _ hx2
    refine ⟨_,rfl,_,rfl,fun x dx hx hdx hne => ?_⟩
    refine ⟨x,dx,rr,p,row,upd H3 dx (.own x),rfl,(by rw [upd_ne (Ne.symm hne)]; exact hx),rfl,(same_new hdx) _ _ hrr,hF.ok,fun H4 s4 hFA => ⟨rfl,?_⟩⟩
    have s34 := (same_new (o := .own x) hdx).trans s4
    have hx4 := s34 _ _ hx3
    refine ⟨by show 4 ≤ sizeLine; decide,fun d4 hd4 => ?_⟩
    have w4 := same_new (o := .lst [V.int 2,.int 3,.int 4,.int 5]) hd4
    have hx5 := w4 _ _ hx4
    refine ⟨_,rfl,lx,_,0,.int x0,rfl,rfl,SqL.of hx5,e0,_,_,rfl,rfl,(by decide : (0 : Int) < 4),d4,_,_,.int ((q : Nat) : Int),rfl,rfl,SqL.of upd_same,hq,?_⟩
    refine ⟨_,rfl,lx,_,1,.int x1,rfl,rfl,SqL.of hx5,e1,_,_,rfl,rfl,(by decide : (0 : Int) < 2),rfl,?_⟩
    have hFA5 := hFA.sm w4
    have sS5 := s12.trans (s3.trans (s34.trans w4))
    generalize upd H4 d4 (.lst [V.int 2,.int 3,.int 4,.int 5]) = H5 at hx5 hFA5 sS5 ⊢
    dsimp only
    generalize decide (V.int (x1 % 2) = V.int 1) = flat0
    refine seqVia (fun σ' H' => ∃ (flat : Bool) (t m : Nat) (bs : List (List Nat)) (lb : Addr) (ws : List V),LF q flat m bs ∧ H' t = some (.tup [.int ((m : Nat) : Int),.ref lb]) ∧ H' lb = some (.tup ws) ∧ TpAt H' ws bs ∧ Same H5 H' ∧ σ' = [some (.ref a),some (.ref lx),some (.int ((p : Nat) : Int)),some (.ref rr),some (.ref x),some (.int ((q : Nat) : Int)),some (.bl flat),some (.ref t),none,none,none,none,none,none,none]) ?_ (fun D' go => ?_)
    rotate_left
    · refine ⟨by show 2 ≤ sizeLine; decide,fun d5 hd5 => ⟨_,rfl,?_⟩⟩
      have w5 := same_new (o := .lst [V.ref f1,.ref f2]) hd5
      cases flat0 with
      | false =>
        refine .inr ⟨_,rfl,d5,_,_,.ref f1,rfl,rfl,SqL.of upd_same,rfl,f1,_,rfl,.inl ⟨rfl,rfl⟩,_,rfl,x,p,row,rfl,hFA5.sm w5,hF.ok,fun t l ws H' s' ht hl hT => ?_⟩
        exact go _ _ ⟨false,t,_,_,l,ws,hF.pl,ht,hl,hT,w5.trans s',rfl⟩
      | true =>
        refine .inr ⟨_,rfl,d5,_,_,.ref f2,rfl,rfl,SqL.of upd_same,rfl,f2,_,rfl,.inr ⟨rfl,rfl⟩,_,rfl,x,p,row,rfl,hFA5.sm w5,hF.ok,fun t l ws H' s' ht hl hT => ?_⟩
        exact go _ _ ⟨true,t,_,_,l,ws,hF.fl,ht,hl,hT,w5.trans s',rfl⟩
    rintro σ' H6 ⟨flat,t,m,bs,lb,ws,hL,ht,hlb,hT,s6,rfl⟩
    have hx6 := s6 _ _ hx5
    have hblk : ∀ b ∈ bs,Blk m b := fun b h => (hL.bl b h).blk
    have hm60 := hL.m60
    have hm4 : 4 ≤ m := Nat.le_trans (Nat.mul_le_mul hL.q2 hL.q2) hL.big
    have hm0 : (0 : Int) < ((m : Nat) : Int) := by omega
    refine ⟨_,rfl,a,ns,1,rfl,(sS5.trans s6).seq hS,by decide,fun c7 H7 s7 => ⟨c7,4,rfl,by decide,fun ly ys H8 hly s8 hy8 hny hys => ?_⟩⟩
    obtain ⟨y0,ey0,hym0⟩ := at_ok (ns := ys) (i := 0) (by omega)
    have s68 := s7.trans s8
    obtain ⟨nc,ecut,ncl⟩ := cut_len (ns := ys) (some 1) (some (1 + y0 % 4))
    refine ⟨_,rfl,_,rfl,_,rfl,ly,_,0,.int y0,rfl,rfl,SqL.of hy8,ey0,_,_,rfl,rfl,(by decide : (0 : Int) < 4),_,_,rfl,rfl,_,rfl,ly,_,rfl,SqL.of hy8,fun dc hdc => ?_⟩
    rw [ecut]
    have wc := same_new (o := .lst (nc.map V.int)) hdc
    have hdc9 : upd H8 dc (.lst (nc.map V.int)) dc = some (.lst (nc.map V.int)) := upd_same
    have s69 := s68.trans wc
    generalize upd H8 dc (.lst (nc.map V.int)) = H9 at hdc9 s69 ⊢
    refine ⟨dc,rfl,⟨_,SqL.of hdc9⟩,comp_list (K := K) (a := dc) (xs := nc.map V.int) (fun i zs H10 => H10 = H9 ∧ zs = ((nc.take i).map fun z => z % ((m : Nat) : Int)).map V.int) ⟨rfl,rfl⟩ (fun i zs H10 _ ⟨e,_⟩ => SqL.of (e ▸ hdc9)) ?_ ?_⟩
    · rintro i v zs H10 N hi' ⟨rfl,rfl⟩ nx
      rw [List.getElem?_map] at hi'
      cases hz : nc[i]? with
      | none => rw [hz] at hi'; cases hi'
      | some z =>
        rw [hz] at hi'
        cases hi'
        refine ⟨Weak.set (by intro v z; cases z),_,rfl,_,rfl,t,_,0,.int (m : Nat),rfl,rfl,SqT.of (s69 _ _ ht),rfl,_,_,rfl,rfl,hm0,?_,nx _ _ ⟨rfl,?_⟩⟩
        · rw [List.length_map,List.length_map,List.length_take]
          exact Nat.lt_of_le_of_lt (show _ ≤ 5 by omega) (by decide)
        · rw [take_snoc hz,List.map_append,List.map_append]
          rfl
    rintro zs H10 ⟨rfl,rfl⟩
    rw [show nc.take (nc.map V.int).length = nc by rw [List.length_map,List.take_length]]
    refine ⟨by rw [List.length_map,List.length_map]; exact Nat.le_trans (show nc.length ≤ 5 by omega) (by decide),fun rs hrs => ?_⟩
    refine ⟨rs,nc.map fun z => z % ((m : Nat) : Int),rfl,SqL.of upd_same,by rw [List.length_map]; omega,fun sl L hsl nd mem => ?_⟩
    have lim : ∀ x ∈ L,0 ≤ x ∧ x < ((m : Nat) : Int) := fun x hx => by
      obtain ⟨z,_,rfl⟩ := List.mem_map.mp ((mem x).mp hx)
      exact ⟨Int.emod_nonneg _ (by omega),Int.emod_lt_of_pos _ hm0⟩
    obtain ⟨bL,eL,bLb⟩ := ints_blk nd lim
    refine ⟨sl,L,rfl,upd_same,by rw [eL,List.length_map]; have := bLb.len; omega,fun u ns' hu p5 so5 => ?_⟩
    obtain ⟨b,eb,hbb0⟩ := ints_blk (p5.nodup_iff.mpr nd) (fun x hx => lim x (p5.mem_iff.mp hx))
    have hbb : Bls m b := blk_sorted hbb0 (by
      rw [eb,List.pairwise_map] at so5
      exact so5.imp fun z => by omega)
    rw [eb,show (b.map fun p : Nat => (p : Int)).map V.int = nats b by simp [nats]]
    have wr := same_new (o := .lst ((nc.map fun z => z % ((m : Nat) : Int)).map V.int)) hrs
    have wl := same_new (o := LS P w sl L) hsl
    have s6a := s69.trans (wr.trans wl)
    generalize upd (upd H10 rs (.lst ((nc.map fun z => z % ((m : Nat) : Int)).map V.int))) sl (LS P w sl L) = H11 at s6a hu ⊢
    have wu := same_new (o := .lst (nats b)) hu
    have hu12 : upd H11 u (.lst (nats b)) u = some (.lst (nats b)) := upd_same
    have s6c := s6a.trans wu
    generalize upd H11 u (.lst (nats b)) = H12 at wu hu12 s6c ⊢
    have hLA : ∀ {H' : Hp},Same H6 H' → LayA H' t m bs := fun s => ⟨lb,ws,s _ _ ht,s _ _ hlb,hT.sm s,hL.le⟩
    refine ⟨_,rfl,_,rfl,t,u,m,bs,b,rfl,hLA s6c,hm60,hblk,hu12,hbb,fun hA H13 s13 => ?_,fun hA g gr gA sA rws R H13 s13 G => ?_⟩
    · refine ⟨_,rfl,_,rfl,?_⟩
      rw [decide_eq_true rfl]
      refine iteT ⟨_,rfl,_,rfl,t,u,m,bs,b,rfl,hLA (s6c.trans s13),hm60,hblk,s13 _ _ hu12,hbb.lt,fun v y L' H14 s14 hv hy => ?_⟩
      have := arc_yes hy hA
      subst this
      refine ⟨v,_,0,.str "three",rfl,rfl,SqT.of hv,atI_nat (j := 0) rfl,rfl,?_⟩
      rw [decide_eq_true rfl]
      exact k _
    refine ⟨_,rfl,_,rfl,?_⟩
    rw [decide_eq_false (show ¬ V.ref g = V.non from fun z => by cases z)]
    refine iteF ?_
    refine ⟨_,rfl,g,_,rfl,SqT.of G.tu,rfl,_,_,rfl,_,_,rfl,rfl,?_⟩
    have s6d := s6c.trans s13
    refine ⟨_,rfl,_,rfl,t,gA,m,bs,gr,rfl,hLA s6d,hm60,hblk,G.tg,G.gb.lt,fun v y L' H14 s14 hv hy => ?_⟩
    obtain ⟨rfl,rfl⟩ := arc_no hy G.arc
    refine ⟨by show 1 ≤ sizeLine; decide,fun d1 hd1 => ?_⟩
    have w15 := same_new (o := .tup [V.str "arc"]) hd1
    have s1d := s14.trans w15
    refine ⟨dSt "arc" [],dSt "arc" [],st_isD (w15 _ _ hv),st_isD upd_same,st_shaped word_arc,st_shaped word_arc,_,rfl,?_⟩
    show if (!PyData.eqv (dSt "arc" []) (dSt "arc" [])) = true then _ else _
    rw [st_eqv]
    refine iteF ?_
    generalize upd H14 d1 (.tup [V.str "arc"]) = H15 at s1d ⊢
    have hlen := lf_arc hL G.gb G.arc
    have G' : Grown H15 g m bs b gr gA sA rws R := ⟨s1d _ _ G.tu,s1d _ _ G.tg,s1d _ _ G.ts,G.tp.sm s1d,G.gb,G.sub,G.arc,G.fst,G.ok⟩
    have s6e := s6d.trans s1d
    refine ⟨_,rfl,gA,_,rfl,.inl (SqL.of G'.tg),_,rfl,_,_,rfl,rfl,_,rfl,_,_,rfl,rfl,(by decide : (0 : Int) < 2),rfl,.inr ⟨_,rfl,_,_,rfl,rfl,_,_,rfl,rfl,_,rfl,?_⟩⟩
    refine ite2 (fun h1 => ?_) (fun _ => ?_)
    · exfalso
      have h1 := of_decide_eq_true h1
      rw [nats_len] at h1
      by_cases he : q % 2 = 0
      · rw [decide_eq_true (show V.int ((q : Int) % 2) = V.int 0 from congrArg V.int (by omega)),if_pos rfl] at h1
        rw [if_pos he] at hlen
        omega
      · rw [decide_eq_false (show ¬ V.int ((q : Int) % 2) = V.int 0 from fun z => by injection z with z; omega),if_neg (by decide)] at h1
        rw [if_neg he] at hlen
        omega
    refine ⟨_,rfl,_,rfl,_,rfl,t,g,m,bs,b,gr,gA,sA,rws,R,rfl,hLA s6e,hm60,hL.bl,G',fun H16 s16 => ⟨_,rfl,iteF ?_⟩⟩
    have s6f := s6e.trans s16
    have hgA := s16 _ _ G'.tg
    refine ⟨_,rfl,t,_,0,.int (m : Nat),rfl,rfl,SqT.of (s6f _ _ ht),rfl,((m : Nat) : Int),rfl,by omega,by omega,?_⟩
    rw [Int.toNat_natCast]
    refine comp_rng (lo := 0) (n := m) (fun i zs H2 => H2 = H16 ∧ zs = nats ((List.range i).filter fun p => decide (p ∉ gr))) ⟨rfl,rfl⟩ ?_ ?_
    · rintro i zs H17 N hi ⟨rfl,rfl⟩ nx
      rw [Int.zero_add]
      refine ⟨Weak.set (by intro v z; cases z),_,rfl,_,rfl,gA,nats gr,rfl,.inl (SqL.of hgA),rfl,flat_nats gr,_,rfl,?_⟩
      show if (!inV (V.int ((i : Nat) : Int)) (nats gr)) = true then _ else _
      rw [inV_nats]
      have e := out_snoc i gr
      by_cases hg : i ∈ gr
      · rw [if_pos hg] at e
        rw [decide_eq_true hg]
        exact iteF (nx _ _ ⟨rfl,by rw [e]⟩)
      · rw [if_neg hg] at e
        rw [decide_eq_false hg]
        refine iteT ⟨_,rfl,?_,nx _ _ ⟨rfl,by rw [e,nats_snoc]⟩⟩
        rw [nats_len]
        exact Nat.lt_of_le_of_lt (outs_le i gr) (Nat.lt_of_lt_of_le hi (Nat.le_trans hm60 (by decide)))
    rintro zs H17 ⟨rfl,rfl⟩
    refine ⟨by rw [nats_len]; exact Nat.le_trans (outs_le m gr) (Nat.le_trans hm60 (by decide)),fun r hr' => ?_⟩
    have w17 := same_new (o := .lst (nats (offG m gr))) hr'
    have hoff : upd H17 r (.lst (nats (offG m gr))) r = some (.lst (nats (offG m gr))) := upd_same
    have s6g := s6f.trans w17
    unfold offG at w17 hoff s6g
    generalize upd H17 r (.lst (nats ((List.range m).filter fun p => decide (p ∉ gr)))) = H18 at hoff s6g ⊢
    dsimp only
    refine seqVia (fun σ' H' => Same H6 H' ∧ ∃ x9 x10 x11 x12,σ' = [some (.ref a),some (.ref lx),some (.int ((p : Nat) : Int)),some (.ref rr),some (.ref x),some (.int ((q : Nat) : Int)),some (.bl flat),some (.ref t),some (.ref ly),x9,x10,x11,x12,some (.ref r),none]) ?_ (fun D' go => ?_)
    rotate_left
    · have hlt : ∀ y ∈ offG m gr,y < m := fun y hy => List.mem_range.mp (List.mem_filter.mp hy).1
      cases flat with
      | false =>
        refine ⟨_,rfl,_,rfl,iteT ?_⟩
        refine iteT ?_
        refine ⟨_,rfl,_,rfl,t,r,m,bs,offG m gr,rfl,hLA s6g,hm60,hblk,hoff,hlt,fun v y L' H21 s21 hv hy => ?_⟩
        obtain ⟨rfl,rfl⟩ := met_no hy (lf_off hL G.arc (.inl rfl))
        refine ⟨by show 1 ≤ sizeLine; decide,fun d1 hd1 => ?_⟩
        have w22 := same_new (o := .tup [V.str "meets"]) hd1
        have s22 := s21.trans w22
        refine ⟨dSt "meets" [],dSt "meets" [],st_isD (w22 _ _ hv),st_isD upd_same,st_shaped word_meets,st_shaped word_meets,_,rfl,?_⟩
        show if (!PyData.eqv (dSt "meets" []) (dSt "meets" [])) = true then _ else _
        rw [st_eqv]
        exact iteF (go _ _ ⟨s6g.trans s22,_,_,_,_,rfl⟩)
      | true =>
        refine ⟨_,rfl,_,rfl,iteF ⟨_,rfl,_,_,rfl,rfl,_,rfl,?_⟩⟩
        refine ite2 (fun h2 => ?_) (fun _ => ?_)
        rotate_left
        · exact iteF (go _ _ ⟨s6g,_,_,_,_,rfl⟩)
        have h2 := of_decide_eq_true h2
        refine ⟨_,rfl,_,rfl,t,r,m,bs,offG m gr,rfl,hLA s6g,hm60,hblk,hoff,hlt,fun v y L' H21 s21 hv hy => ?_⟩
        obtain ⟨rfl,rfl⟩ := met_no hy (lf_off hL G.arc (.inr (by omega)))
        refine ⟨by show 1 ≤ sizeLine; decide,fun d1 hd1 => ?_⟩
        have w22 := same_new (o := .tup [V.str "meets"]) hd1
        have s22 := s21.trans w22
        refine ⟨dSt "meets" [],dSt "meets" [],st_isD (w22 _ _ hv),st_isD upd_same,st_shaped word_meets,st_shaped word_meets,_,rfl,?_⟩
        show if (!PyData.eqv (dSt "meets" []) (dSt "meets" [])) = true then _ else _
        rw [st_eqv]
        exact iteF (go _ _ ⟨s6g.trans s22,_,_,_,_,rfl⟩)
    rintro σ' H19 ⟨s19,x9,x10,x11,x12,rfl⟩
    have hx19 := s19 _ _ hx6
    have hwl : ws.length = bs.length := hT.len
    have hbp : (0 : Int) < ((ws.length : Nat) : Int) := by have := hL.pos; omega
    obtain ⟨j,hj,ej⟩ : ∃ j : Nat,j < ws.length ∧ x2 % ((ws.length : Nat) : Int) = ((j : Nat) : Int) := ⟨(x2 % ((ws.length : Nat) : Int)).toNat,by have := Int.emod_lt_of_pos x2 hbp; have := Int.emod_nonneg x2 (show ((ws.length : Nat) : Int) ≠ 0 by omega); omega,by have := Int.emod_nonneg x2 (show ((ws.length : Nat) : Int) ≠ 0 by omega); omega⟩
    obtain ⟨dl,bl,ed,hbl,hdl⟩ := (hT.sm s19).get (List.getElem?_eq_getElem hj)
    have hbm : bl ∈ bs := List.mem_of_getElem? hbl
    have hbls := hL.bl bl hbm
    refine ⟨_,rfl,t,_,1,.ref lb,rfl,rfl,SqT.of (s19 _ _ ht),rfl,_,rfl,lx,_,2,.int x2,rfl,rfl,SqL.of hx19,e2,_,rfl,t,_,1,.ref lb,rfl,rfl,SqT.of (s19 _ _ ht),rfl,lb,ws,rfl,.inr (SqT.of (s19 _ _ hlb)),_,_,rfl,rfl,hbp,?_⟩
    refine ⟨lb,ws,_,_,rfl,rfl,SqT.of (s19 _ _ hlb),by rw [ej]; exact atI_nat (List.getElem?_eq_getElem hj),dl,nats bl,congrArg (fun v => [v]) ed,.inr (SqT.of hdl),fun ln hln => ?_⟩
    have w20 := s19.trans (same_new (o := .lst (nats bl)) hln)
    have hln20 : upd H19 ln (.lst (nats bl)) ln = some (.lst (nats bl)) := upd_same
    generalize upd H19 ln (.lst (nats bl)) = H20 at w20 hln20 ⊢
    cases flat with
    | true =>
      refine ⟨_,rfl,_,rfl,?_⟩
      refine iteT ⟨_,rfl,_,rfl,t,ln,m,bs,bl,rfl,hLA w20,hm60,hblk,hln20,hbls.lt,fun v y L' H21 s21 hv hy => ?_⟩
      obtain ⟨c,hc,ec⟩ := hL.off rfl bl hbm
      have := met_yes hy ⟨c,hc,by unfold metB; rw [ec]; rfl⟩
      subst this
      refine ⟨v,_,0,.str "missed",rfl,rfl,SqT.of hv,atI_nat (j := 0) rfl,rfl,?_⟩
      rw [decide_eq_true rfl]
      exact k _
    | false =>
      refine ⟨_,rfl,_,rfl,?_⟩
      refine iteF ⟨_,rfl,_,rfl,t,ln,m,bs,bl,rfl,hLA w20,hm60,hblk,hln20,hbls.lt,fun v y L' H21 s21 hv hy => ?_⟩
      have hmt : ∀ c ∈ bs,¬ metB bl c := fun c hc z => (hL.meet rfl bl hbm).1 c hc (List.length_eq_zero_iff.mp z)
      obtain ⟨rfl,rfl⟩ := met_no hy hmt
      refine ⟨by show 1 ≤ sizeLine; decide,fun d1 hd1 => ?_⟩
      have w22 := same_new (o := .tup [V.str "meets"]) hd1
      have s22 := s21.trans w22
      refine ⟨dSt "meets" [],dSt "meets" [],st_isD (w22 _ _ hv),st_isD upd_same,st_shaped word_meets,st_shaped word_meets,?_⟩
      show ∃ c,V.bl (PyData.eqv (dSt "meets" []) (dSt "meets" [])) = V.bl c ∧ _
      rw [st_eqv]
      refine ⟨_,rfl,iteT ?_⟩
      have w23 := w20.trans s22
      have hln22 := s22 _ _ hln20
      refine ⟨_,rfl,_,rfl,t,ln,m,bs,bl,rfl,hLA w23,hm60,hblk,hln22,hbls,hmt,fun z kp kA sA' rws' R' H23 hkA hsA hne23 s23 hK => ?_⟩
      have := lf_thin hL hbm hK.kp_ hK.met
      subst this
      refine ⟨z,_,0,.ref kA,rfl,rfl,SqT.of hK.tu,rfl,_,rfl,dBlk kp,dBlk kp,isD_blkS hK.tk,isD_blkS (s23 _ _ hln22),shaped_blk _,shaped_blk _,?_⟩
      show Q (V.bl (PyData.eqv (dBlk kp) (dBlk kp))) _
      rw [eqv_blkS,decide_eq_true rfl]
      exact k _
structure FieldC (K : PySem.W.Frag) (C : Addr) : Prop where
  nC : PySem.W.nsIn K mainGlobals "Field" = some (some (.ref C))
  Z : FieldK K C
  mkc : PySem.W.makesIn K C = true
  kc : PySem.W.keepIn K (.ref C) = true
  nR : PySem.W.nsIn K mainGlobals "reversed" = some none
  iInit : ∃ (f : Addr) (fd : FuncData),Meth K C "__init__" f ∧ Fun K "__init__" "Field.__init__" sMInit f fd
  iSize : ∃ (f : Addr) (fd : FuncData),Meth K C "size" f ∧ Fun K "size" "Field.size" sMSize f fd
  iPlus : ∃ (f : Addr) (fd : FuncData),Meth K C "plus" f ∧ Fun K "plus" "Field.plus" sMPlus f fd
  iTimes : ∃ (f : Addr) (fd : FuncData),Meth K C "times" f ∧ Fun K "times" "Field.times" sMTimes f fd
  iMustHave : ∃ (f : Addr) (fd : FuncData),Meth K C "must_have" f ∧ Fun K "must_have" "Field.must_have" sMMustHave f fd
theorem field_mk {K : PySem.W.Frag} {C f0 f1 f2 f3 f4 : Addr} {oc0 kV0 dc0 pm0 cd0 ct0 : Value} {od0 an0 : Option Addr} {sl0 : Array (Option Value)} {oc1 kV1 dc1 pm1 cd1 ct1 : Value} {od1 an1 : Option Addr} {sl1 : Array (Option Value)} {oc2 kV2 dc2 pm2 cd2 ct2 : Value} {od2 an2 : Option Addr} {sl2 : Array (Option Value)} {oc3 kV3 dc3 pm3 cd3 ct3 : Value} {od3 an3 : Option Addr} {sl3 : Array (Option Value)} {oc4 kV4 dc4 pm4 cd4 ct4 : Value} {od4 an4 : Option Addr} {sl4 : Array (Option Value)}
    (nC : PySem.W.nsIn K mainGlobals "Field" = some (some (.ref C))) (pg : PySem.W.plainGet K C Str.empty = true) (hd : PySem.W.hasDictIn K C = true) (po : PySem.W.plainOver K C = true) (sa : PySem.W.findIn K (.ref C) "__setattr__" = some (some (.builtin "object.__setattr__"))) (mk : PySem.W.makesIn K C = true) (kc : PySem.W.keepIn K (.ref C) = true) (n0 : PySem.W.findIn K (.ref C) "many" = some none) (n1 : PySem.W.findIn K (.ref C) "prime" = some none) (n2 : PySem.W.findIn K (.ref C) "row" = some none) (nR : PySem.W.nsIn K mainGlobals "reversed" = some none)
    (a0 : PySem.W.findIn K (.ref C) "__init__" = some (some (.ref f0))) (i0 : PySem.W.isFn K (.ref f0) = true) (l0 : K.lookup f0 = some ⟨oc0,od0,.func (PySem.W.fnOf "__init__" "Field.__init__" (defArgs sMInit) (defBody sMInit) (defScope sMInit) .none kV0 dc0 pm0 an0 cd0 ct0),sl0⟩) (c0 : PySem.W.codeIn K cd0 "Field.__init__" = true) (k0 : PySem.W.keepIn K (.ref f0) = true)
    (a1 : PySem.W.findIn K (.ref C) "size" = some (some (.ref f1))) (i1 : PySem.W.isFn K (.ref f1) = true) (l1 : K.lookup f1 = some ⟨oc1,od1,.func (PySem.W.fnOf "size" "Field.size" (defArgs sMSize) (defBody sMSize) (defScope sMSize) .none kV1 dc1 pm1 an1 cd1 ct1),sl1⟩) (c1 : PySem.W.codeIn K cd1 "Field.size" = true) (k1 : PySem.W.keepIn K (.ref f1) = true)
    (a2 : PySem.W.findIn K (.ref C) "plus" = some (some (.ref f2))) (i2 : PySem.W.isFn K (.ref f2) = true) (l2 : K.lookup f2 = some ⟨oc2,od2,.func (PySem.W.fnOf "plus" "Field.plus" (defArgs sMPlus) (defBody sMPlus) (defScope sMPlus) .none kV2 dc2 pm2 an2 cd2 ct2),sl2⟩) (c2 : PySem.W.codeIn K cd2 "Field.plus" = true) (k2 : PySem.W.keepIn K (.ref f2) = true)
    (a3 : PySem.W.findIn K (.ref C) "times" = some (some (.ref f3))) (i3 : PySem.W.isFn K (.ref f3) = true) (l3 : K.lookup f3 = some ⟨oc3,od3,.func (PySem.W.fnOf "times" "Field.times" (defArgs sMTimes) (defBody sMTimes) (defScope sMTimes) .none kV3 dc3 pm3 an3 cd3 ct3),sl3⟩) (c3 : PySem.W.codeIn K cd3 "Field.times" = true) (k3 : PySem.W.keepIn K (.ref f3) = true)
    (a4 : PySem.W.findIn K (.ref C) "must_have" = some (some (.ref f4))) (i4 : PySem.W.isFn K (.ref f4) = true) (l4 : K.lookup f4 = some ⟨oc4,od4,.func (PySem.W.fnOf "must_have" "Field.must_have" (defArgs sMMustHave) (defBody sMMustHave) (defScope sMMustHave) .none kV4 dc4 pm4 an4 cd4 ct4),sl4⟩) (c4 : PySem.W.codeIn K cd4 "Field.must_have" = true) (k4 : PySem.W.keepIn K (.ref f4) = true)
    : ∃ C : Addr,FieldC K C := ⟨C,nC,⟨⟨pg,hd,po,sa⟩,n0,n1,n2⟩,mk,kc,nR,⟨f0,_,⟨a0,i0,k0⟩,fun_mk l0 c0 k0⟩,⟨f1,_,⟨a1,i1,k1⟩,fun_mk l1 c1 k1⟩,⟨f2,_,⟨a2,i2,k2⟩,fun_mk l2 c2 k2⟩,⟨f3,_,⟨a3,i3,k3⟩,fun_mk l3 c3 k3⟩,⟨f4,_,⟨a4,i4,k4⟩,fun_mk l4 c4 k4⟩⟩
end
end E1
namespace E1
open PySem L2
theorem all_mk {l : PySem.W.OpenLaw} {w : World} {K : PySem.W.Frag} {h : Heap} {mg : Str → Option Value} {fa : Addr} (X : K.In h) (G : h.Ns mainGlobals mg) (hfa : mg "law" = some (.ref fa))
    (N : PySem.W.nsIn K mainGlobals "isinstance" = some none ∧ PySem.W.nsIn K mainGlobals "int" = some none ∧ PySem.W.nsIn K mainGlobals "bool" = some none ∧ PySem.W.nsIn K mainGlobals "abs" = some none ∧ PySem.W.nsIn K mainGlobals "len" = some none ∧ PySem.W.nsIn K mainGlobals "range" = some none ∧ PySem.W.nsIn K mainGlobals "tuple" = some none ∧ PySem.W.nsIn K mainGlobals "list" = some none ∧ PySem.W.nsIn K mainGlobals "sorted" = some none ∧ PySem.W.nsIn K mainGlobals "all" = some none ∧ PySem.W.nsIn K mainGlobals "set" = some none ∧ PySem.W.nsIn K mainGlobals "zip" = some none ∧ PySem.W.nsIn K mainGlobals "enumerate" = some none ∧ PySem.W.nsIn K mainGlobals "any" = some none ∧ PySem.W.nsIn K mainGlobals "max" = some none ∧ PySem.W.nsIn K mainGlobals "min" = some none ∧ PySem.W.nsIn K mainGlobals "str" = some none ∧ PySem.W.nsIn K mainGlobals "sum" = some none)
    (Zc : ∃ C : Addr,FieldC K C)
    (CMostNumbers : ∃ t,PySem.W.nsIn K mainGlobals "MOST_NUMBERS" = some (some (.int 32 t)))
    (R : ∃ (M C fI : Addr) (fd : FuncData),RefsX K M C fI fd)
    (AMarksOf : At K "marks_of" sMarksOf) (AArcTold : At K "arc_told" sArcTold) (AGrownArc : At K "grown_arc" sGrownArc) (ATwoBeside : At K "two_beside" sTwoBeside) (AMeetingTold : At K "meeting_told" sMeetingTold) (AThinnedSet : At K "thinned_set" sThinnedSet) (ABlockAlone : At K "block_alone" sBlockAlone) (AMarkedOf : At K "marked_of" sMarkedOf) (AAllMarked : At K "all_marked" sAllMarked) (AWhole : At K "is_whole" sWhole) (AIsBelow : At K "is_below" sIsBelow) (AMust : At K "must_be_whole" sMust) (AFrom : At K "must_be_from" sFrom) (APrimes : At K "primes_of" sPrimes) (AIsPrime : At K "is_prime" sIsPrime) (ARowTimes : At K "row_times" sRowTimes) (ARowRest : At K "row_rest" sRowRest) (ARowFactor : At K "row_factor" sRowFactor) (ATrimmed : At K "trimmed" sTrimmed) (ADigitsOf : At K "digits_of" sDigitsOf) (ANumberOf : At K "number_of" sNumberOf) (AMustBeRow : At K "must_be_row" sMustBeRow) (ASizeWithin : At K "size_within" sSizeWithin) (AMustBePrime : At K "must_be_prime" sMustBePrime) (AMustBeNoProduct : At K "must_be_no_product" sMustBeNoProduct) (AJoined : At K "joined" sJoined) (APlaneOf : At K "plane_of" sPlaneOf) (ATriplesOf : At K "triples_of" sTriplesOf) (APointsAcross : At K "points_across" sPointsAcross) (AAddedProducts : At K "added_products" sAddedProducts) (AFlatOf : At K "flat_of" sFlatOf) (ACell : At K "_law_cell" sCell) (ALNumbers : At K "_law_numbers" sLNumbers) (ALAsked : At K "_law_asked" sLAsked) (ALShown : At K "_law_shown" sLShown) (ALaw : At K "law" sLaw) :
    ∃ fd : FuncData,(∀ (s : Shared) (v : Value),BindsTo s fd ⟨[v],[]⟩ [("_law_script",v)]) ∧ ∀ base : Heap,K.In base → base.Ns mainGlobals mg → FnOk l.prog w K mg base CX0 12 fa fd ["_law_script"] (spLaw K) := by
  obtain ⟨n0,n1,n2,n3,n4,n5,n6,n7,n8,n9,n10,n11,n12,n13,n14,n15,n16,n17⟩ := N
  have T : TxtB mg := ⟨PySem.W.mg_none_of X G n0,PySem.W.mg_none_of X G n1,PySem.W.mg_none_of X G n2,PySem.W.mg_none_of X G n3,PySem.W.mg_none_of X G n4,PySem.W.mg_none_of X G n5,PySem.W.mg_none_of X G n6,PySem.W.mg_none_of X G n7,PySem.W.mg_none_of X G n8,PySem.W.mg_none_of X G n9,PySem.W.mg_none_of X G n10,PySem.W.mg_none_of X G n11,PySem.W.mg_none_of X G n12,PySem.W.mg_none_of X G n13,PySem.W.mg_none_of X G n14,PySem.W.mg_none_of X G n15,PySem.W.mg_none_of X G n16,PySem.W.mg_none_of X G n17⟩
  obtain ⟨M,C,fI,fdI,R⟩ := R
  have D := marksX_of X G R
  obtain ⟨CF,Zc⟩ := Zc
  have mF := PySem.W.mg_of X G Zc.nC
  have mR := PySem.W.mg_none_of X G Zc.nR
  obtain ⟨fMInit,fdMInit,eMInit,FMInit⟩ := Zc.iInit
  have bMInit := FMInit.binds (ps := ["self", "p", "row"]) fun _ _ _ _ _ _ us hl => match us,hl with | [_,_,_],_ => rfl
  obtain ⟨fMSize,fdMSize,eMSize,FMSize⟩ := Zc.iSize
  have bMSize := FMSize.binds (ps := ["self"]) fun _ _ _ _ _ _ us hl => match us,hl with | [_],_ => rfl
  obtain ⟨fMPlus,fdMPlus,eMPlus,FMPlus⟩ := Zc.iPlus
  have bMPlus := FMPlus.binds (ps := ["self", "a", "b"]) fun _ _ _ _ _ _ us hl => match us,hl with | [_,_,_],_ => rfl
  obtain ⟨fMTimes,fdMTimes,eMTimes,FMTimes⟩ := Zc.iTimes
  have bMTimes := FMTimes.binds (ps := ["self", "a", "b"]) fun _ _ _ _ _ _ us hl => match us,hl with | [_,_,_],_ => rfl
  obtain ⟨fMMustHave,fdMMustHave,eMMustHave,FMMustHave⟩ := Zc.iMustHave
  have bMMustHave := FMMustHave.binds (ps := ["self", "thing"]) fun _ _ _ _ _ _ us hl => match us,hl with | [_,_],_ => rfl
  obtain ⟨tMostNumbers,cMostNumbers⟩ := CMostNumbers
  have mMostNumbers := PySem.W.mg_of X G cMostNumbers
  obtain ⟨fMarksOf,fdMarksOf,aMarksOf,FMarksOf⟩ := AMarksOf
  obtain ⟨fArcTold,fdArcTold,aArcTold,FArcTold⟩ := AArcTold
  obtain ⟨fGrownArc,fdGrownArc,aGrownArc,FGrownArc⟩ := AGrownArc
  obtain ⟨fTwoBeside,fdTwoBeside,aTwoBeside,FTwoBeside⟩ := ATwoBeside
  obtain ⟨fMeetingTold,fdMeetingTold,aMeetingTold,FMeetingTold⟩ := AMeetingTold
  obtain ⟨fThinnedSet,fdThinnedSet,aThinnedSet,FThinnedSet⟩ := AThinnedSet
  obtain ⟨fBlockAlone,fdBlockAlone,aBlockAlone,FBlockAlone⟩ := ABlockAlone
  obtain ⟨fMarkedOf,fdMarkedOf,aMarkedOf,FMarkedOf⟩ := AMarkedOf
  obtain ⟨fAllMarked,fdAllMarked,aAllMarked,FAllMarked⟩ := AAllMarked
  obtain ⟨fWhole,fdWhole,aWhole,FWhole⟩ := AWhole
  obtain ⟨fIsBelow,fdIsBelow,aIsBelow,FIsBelow⟩ := AIsBelow
  obtain ⟨fMust,fdMust,aMust,FMust⟩ := AMust
  obtain ⟨fFrom,fdFrom,aFrom,FFrom⟩ := AFrom
  obtain ⟨fPrimes,fdPrimes,aPrimes,FPrimes⟩ := APrimes
  obtain ⟨fIsPrime,fdIsPrime,aIsPrime,FIsPrime⟩ := AIsPrime
  obtain ⟨fRowTimes,fdRowTimes,aRowTimes,FRowTimes⟩ := ARowTimes
  obtain ⟨fRowRest,fdRowRest,aRowRest,FRowRest⟩ := ARowRest
  obtain ⟨fRowFactor,fdRowFactor,aRowFactor,FRowFactor⟩ := ARowFactor
  obtain ⟨fTrimmed,fdTrimmed,aTrimmed,FTrimmed⟩ := ATrimmed
  obtain ⟨fDigitsOf,fdDigitsOf,aDigitsOf,FDigitsOf⟩ := ADigitsOf
  obtain ⟨fNumberOf,fdNumberOf,aNumberOf,FNumberOf⟩ := ANumberOf
  obtain ⟨fMustBeRow,fdMustBeRow,aMustBeRow,FMustBeRow⟩ := AMustBeRow
  obtain ⟨fSizeWithin,fdSizeWithin,aSizeWithin,FSizeWithin⟩ := ASizeWithin
  obtain ⟨fMustBePrime,fdMustBePrime,aMustBePrime,FMustBePrime⟩ := AMustBePrime
  obtain ⟨fMustBeNoProduct,fdMustBeNoProduct,aMustBeNoProduct,FMustBeNoProduct⟩ := AMustBeNoProduct
  obtain ⟨fJoined,fdJoined,aJoined,FJoined⟩ := AJoined
  obtain ⟨fPlaneOf,fdPlaneOf,aPlaneOf,FPlaneOf⟩ := APlaneOf
  obtain ⟨fTriplesOf,fdTriplesOf,aTriplesOf,FTriplesOf⟩ := ATriplesOf
  obtain ⟨fPointsAcross,fdPointsAcross,aPointsAcross,FPointsAcross⟩ := APointsAcross
  obtain ⟨fAddedProducts,fdAddedProducts,aAddedProducts,FAddedProducts⟩ := AAddedProducts
  obtain ⟨fFlatOf,fdFlatOf,aFlatOf,FFlatOf⟩ := AFlatOf
  obtain ⟨fCell,fdCell,aCell,FCell⟩ := ACell
  obtain ⟨fLNumbers,fdLNumbers,aLNumbers,FLNumbers⟩ := ALNumbers
  obtain ⟨fLAsked,fdLAsked,aLAsked,FLAsked⟩ := ALAsked
  obtain ⟨fLShown,fdLShown,aLShown,FLShown⟩ := ALShown
  obtain ⟨fLaw,fdLaw,aLaw,FLaw⟩ := ALaw
  have e := hfa.symm.trans (PySem.W.mg_of X G aLaw)
  cases e
  have bMarksOf := FMarksOf.binds (ps := ["points", "block"]) fun _ _ _ _ _ _ us hl => match us,hl with | [_,_],_ => rfl
  have mMarksOf := PySem.W.mg_of X G aMarksOf
  have bArcTold := FArcTold.binds (ps := ["M", "points"]) fun _ _ _ _ _ _ us hl => match us,hl with | [_,_],_ => rfl
  have mArcTold := PySem.W.mg_of X G aArcTold
  have bGrownArc := FGrownArc.binds (ps := ["M", "points"]) fun _ _ _ _ _ _ us hl => match us,hl with | [_,_],_ => rfl
  have mGrownArc := PySem.W.mg_of X G aGrownArc
  have bTwoBeside := FTwoBeside.binds (ps := ["M", "marks", "point"]) fun _ _ _ _ _ _ us hl => match us,hl with | [_,_,_],_ => rfl
  have mTwoBeside := PySem.W.mg_of X G aTwoBeside
  have bMeetingTold := FMeetingTold.binds (ps := ["M", "points"]) fun _ _ _ _ _ _ us hl => match us,hl with | [_,_],_ => rfl
  have mMeetingTold := PySem.W.mg_of X G aMeetingTold
  have bThinnedSet := FThinnedSet.binds (ps := ["M", "points"]) fun _ _ _ _ _ _ us hl => match us,hl with | [_,_],_ => rfl
  have mThinnedSet := PySem.W.mg_of X G aThinnedSet
  have bBlockAlone := FBlockAlone.binds (ps := ["M", "marks", "point"]) fun _ _ _ _ _ _ us hl => match us,hl with | [_,_,_],_ => rfl
  have mBlockAlone := PySem.W.mg_of X G aBlockAlone
  have bMarkedOf := FMarkedOf.binds (ps := ["points", "marks"]) fun _ _ _ _ _ _ us hl => match us,hl with | [_,_],_ => rfl
  have mMarkedOf := PySem.W.mg_of X G aMarkedOf
  have bAllMarked := FAllMarked.binds (ps := ["marks"]) fun _ _ _ _ _ _ us hl => match us,hl with | [_],_ => rfl
  have mAllMarked := PySem.W.mg_of X G aAllMarked
  have bWhole := FWhole.binds (ps := ["thing"]) fun _ _ _ _ _ _ us hl => match us,hl with | [_],_ => rfl
  have mWhole := PySem.W.mg_of X G aWhole
  have bIsBelow := FIsBelow.binds (ps := ["thing", "many"]) fun _ _ _ _ _ _ us hl => match us,hl with | [_,_],_ => rfl
  have mIsBelow := PySem.W.mg_of X G aIsBelow
  have bMust := FMust.binds (ps := ["thing"]) fun _ _ _ _ _ _ us hl => match us,hl with | [_],_ => rfl
  have mMust := PySem.W.mg_of X G aMust
  have bFrom := FFrom.binds (ps := ["least", "thing"]) fun _ _ _ _ _ _ us hl => match us,hl with | [_,_],_ => rfl
  have mFrom := PySem.W.mg_of X G aFrom
  have bPrimes := FPrimes.binds (ps := ["n"]) fun _ _ _ _ _ _ us hl => match us,hl with | [_],_ => rfl
  have mPrimes := PySem.W.mg_of X G aPrimes
  have bIsPrime := FIsPrime.binds (ps := ["p"]) fun _ _ _ _ _ _ us hl => match us,hl with | [_],_ => rfl
  have mIsPrime := PySem.W.mg_of X G aIsPrime
  have bRowTimes := FRowTimes.binds (ps := ["p", "one", "other"]) fun _ _ _ _ _ _ us hl => match us,hl with | [_,_,_],_ => rfl
  have mRowTimes := PySem.W.mg_of X G aRowTimes
  have bRowRest := FRowRest.binds (ps := ["p", "one", "by"]) fun _ _ _ _ _ _ us hl => match us,hl with | [_,_,_],_ => rfl
  have mRowRest := PySem.W.mg_of X G aRowRest
  have bRowFactor := FRowFactor.binds (ps := ["p", "row"]) fun _ _ _ _ _ _ us hl => match us,hl with | [_,_],_ => rfl
  have mRowFactor := PySem.W.mg_of X G aRowFactor
  have bTrimmed := FTrimmed.binds (ps := ["digits"]) fun _ _ _ _ _ _ us hl => match us,hl with | [_],_ => rfl
  have mTrimmed := PySem.W.mg_of X G aTrimmed
  have bDigitsOf := FDigitsOf.binds (ps := ["p", "number"]) fun _ _ _ _ _ _ us hl => match us,hl with | [_,_],_ => rfl
  have mDigitsOf := PySem.W.mg_of X G aDigitsOf
  have bNumberOf := FNumberOf.binds (ps := ["p", "digits"]) fun _ _ _ _ _ _ us hl => match us,hl with | [_,_],_ => rfl
  have mNumberOf := PySem.W.mg_of X G aNumberOf
  have bMustBeRow := FMustBeRow.binds (ps := ["p", "row"]) fun _ _ _ _ _ _ us hl => match us,hl with | [_,_],_ => rfl
  have mMustBeRow := PySem.W.mg_of X G aMustBeRow
  have bSizeWithin := FSizeWithin.binds (ps := ["p", "row"]) fun _ _ _ _ _ _ us hl => match us,hl with | [_,_],_ => rfl
  have mSizeWithin := PySem.W.mg_of X G aSizeWithin
  have bMustBePrime := FMustBePrime.binds (ps := ["p"]) fun _ _ _ _ _ _ us hl => match us,hl with | [_],_ => rfl
  have mMustBePrime := PySem.W.mg_of X G aMustBePrime
  have bMustBeNoProduct := FMustBeNoProduct.binds (ps := ["p", "row"]) fun _ _ _ _ _ _ us hl => match us,hl with | [_,_],_ => rfl
  have mMustBeNoProduct := PySem.W.mg_of X G aMustBeNoProduct
  have bJoined := FJoined.binds (ps := ["p", "a", "b", "sign"]) fun _ _ _ _ _ _ us hl => match us,hl with | [_,_,_,_],_ => rfl
  have mJoined := PySem.W.mg_of X G aJoined
  have bPlaneOf := FPlaneOf.binds (ps := ["field"]) fun _ _ _ _ _ _ us hl => match us,hl with | [_],_ => rfl
  have mPlaneOf := PySem.W.mg_of X G aPlaneOf
  have bTriplesOf := FTriplesOf.binds (ps := ["size"]) fun _ _ _ _ _ _ us hl => match us,hl with | [_],_ => rfl
  have mTriplesOf := PySem.W.mg_of X G aTriplesOf
  have bPointsAcross := FPointsAcross.binds (ps := ["field", "triple", "triples"]) fun _ _ _ _ _ _ us hl => match us,hl with | [_,_,_],_ => rfl
  have mPointsAcross := PySem.W.mg_of X G aPointsAcross
  have bAddedProducts := FAddedProducts.binds (ps := ["field", "one", "other"]) fun _ _ _ _ _ _ us hl => match us,hl with | [_,_,_],_ => rfl
  have mAddedProducts := PySem.W.mg_of X G aAddedProducts
  have bFlatOf := FFlatOf.binds (ps := ["field"]) fun _ _ _ _ _ _ us hl => match us,hl with | [_],_ => rfl
  have mFlatOf := PySem.W.mg_of X G aFlatOf
  have bCell := FCell.binds (ps := ["_law_script", "_law_k"]) fun _ _ _ _ _ _ us hl => match us,hl with | [_,_],_ => rfl
  have mCell := PySem.W.mg_of X G aCell
  have bLNumbers := FLNumbers.binds (ps := ["_law_cell_here", "_law_many"]) fun _ _ _ _ _ _ us hl => match us,hl with | [_,_],_ => rfl
  have mLNumbers := PySem.W.mg_of X G aLNumbers
  have bLAsked := FLAsked.binds (ps := ["_law_layout", "_law_points"]) fun _ _ _ _ _ _ us hl => match us,hl with | [_,_],_ => rfl
  have mLAsked := PySem.W.mg_of X G aLAsked
  have bLShown := FLShown.binds (ps := ["_law_layout", "_law_grown", "_law_shown_here"]) fun _ _ _ _ _ _ us hl => match us,hl with | [_,_,_],_ => rfl
  have mLShown := PySem.W.mg_of X G aLShown
  refine ⟨fdLaw,?_,fun base _ _ => ?_⟩
  · obtain ⟨oc,od,kV,doc,pm,an,cdv,ct,osl,rfl,lk,hcd⟩ := FLaw.ex
    exact fun s v => .of_eq rfl
  · have pW : Pm l.prog w K mg base CX0 1 "is_whole" ["thing"] (spWhole K) := ⟨fWhole,fdWhole,mWhole,FWhole.kp,bWhole,ok_whole FWhole T⟩
    have pI : Pm l.prog w K mg base CX0 2 "is_below" ["thing", "many"] spBelow := ⟨fIsBelow,fdIsBelow,mIsBelow,FIsBelow.kp,bIsBelow,ok_below FIsBelow pW⟩
    have pMu : Pm l.prog w K mg base CX0 2 "must_be_whole" ["thing"] spMustN := ⟨fMust,fdMust,mMust,FMust.kp,bMust,ok_mustN FMust pW⟩
    have pPr : Pm l.prog w K mg base CX0 4 "primes_of" ["n"] spPrimesN := ⟨fPrimes,fdPrimes,mPrimes,FPrimes.kp,bPrimes,ok_primes FPrimes FFrom bFrom mFrom (ok_fromN FFrom pMu)⟩
    have pIP : Pm l.prog w K mg base CX0 5 "is_prime" ["p"] spIsPrime := ⟨fIsPrime,fdIsPrime,mIsPrime,FIsPrime.kp,bIsPrime,ok_isprime FIsPrime pPr⟩
    have pTr : Pm l.prog w K mg base CX0 1 "trimmed" ["digits"] spTrim := ⟨fTrimmed,fdTrimmed,mTrimmed,FTrimmed.kp,bTrimmed,ok_trimmed FTrimmed T⟩
    have pRT : Pm l.prog w K mg base CX0 2 "row_times" ["p", "one", "other"] spProd := ⟨fRowTimes,fdRowTimes,mRowTimes,FRowTimes.kp,bRowTimes,ok_times FRowTimes T pTr⟩
    have pRR : Pm l.prog w K mg base CX0 2 "row_rest" ["p", "one", "by"] spRest := ⟨fRowRest,fdRowRest,mRowRest,FRowRest.kp,bRowRest,ok_rest FRowRest T pTr⟩
    have pDi : Pm l.prog w K mg base CX0 1 "digits_of" ["p", "number"] spDigits := ⟨fDigitsOf,fdDigitsOf,mDigitsOf,FDigitsOf.kp,bDigitsOf,ok_digits FDigitsOf T⟩
    have pDG : Pm l.prog w K mg base CX0 1 "digits_of" ["p", "number"] spDigG := ⟨fDigitsOf,fdDigitsOf,mDigitsOf,FDigitsOf.kp,bDigitsOf,ok_digG FDigitsOf T⟩
    have pRF : Pm l.prog w K mg base CX0 3 "row_factor" ["p", "row"] spDv := ⟨fRowFactor,fdRowFactor,mRowFactor,FRowFactor.kp,bRowFactor,ok_factor FRowFactor T pDi pRR⟩
    have pNu : Pm l.prog w K mg base CX0 1 "number_of" ["p", "digits"] spNum := ⟨fNumberOf,fdNumberOf,mNumberOf,FNumberOf.kp,bNumberOf,ok_num FNumberOf mR⟩
    have pJo : Pm l.prog w K mg base CX0 1 "joined" ["p", "a", "b", "sign"] spJoin := ⟨fJoined,fdJoined,mJoined,FJoined.kp,bJoined,ok_join FJoined⟩
    have pMR : Pm l.prog w K mg base CX0 3 "must_be_row" ["p", "row"] spMRow := ⟨fMustBeRow,fdMustBeRow,mMustBeRow,FMustBeRow.kp,bMustBeRow,ok_mrow FMustBeRow T pW pI⟩
    have pSi : Pm l.prog w K mg base CX0 1 "size_within" ["p", "row"] spSize := ⟨fSizeWithin,fdSizeWithin,mSizeWithin,FSizeWithin.kp,bSizeWithin,ok_size FSizeWithin mMostNumbers⟩
    have pMP : Pm l.prog w K mg base CX0 6 "must_be_prime" ["p"] spMP := ⟨fMustBePrime,fdMustBePrime,mMustBePrime,FMustBePrime.kp,bMustBePrime,ok_mp FMustBePrime pIP⟩
    have pMN : Pm l.prog w K mg base CX0 4 "must_be_no_product" ["p", "row"] spMNo := ⟨fMustBeNoProduct,fdMustBeNoProduct,mMustBeNoProduct,FMustBeNoProduct.kp,bMustBeNoProduct,ok_mno FMustBeNoProduct pRF⟩
    have pMk : Mkp l.prog w K mg base CX0 7 "Field" CF ["self", "p", "row"] (spInit CF) := ⟨fMInit,fdMInit,mF,⟨Zc.mkc,eMInit.at_,eMInit.fn,Zc.kc⟩,bMInit,ok_init FMInit Zc.Z pMR pSi pMP pMN⟩
    have pHa : Mp l.prog w K mg base CX0 3 CF "must_have" ["self", "thing"] (spHave CF) := ⟨fMMustHave,fdMMustHave,eMMustHave,bMMustHave,ok_have FMMustHave Zc.Z pI⟩
    have pSz : Mp l.prog w K mg base CX0 1 CF "size" ["self"] (spSizeM CF) := ⟨fMSize,fdMSize,eMSize,bMSize,ok_sizeM FMSize Zc.Z⟩
    have pPl : Mp l.prog w K mg base CX0 4 CF "plus" ["self", "a", "b"] (spBin CF plV) := ⟨fMPlus,fdMPlus,eMPlus,bMPlus,ok_plus FMPlus Zc.Z pHa pJo⟩
    have pTi : Mp l.prog w K mg base CX0 4 CF "times" ["self", "a", "b"] (spBin CF tmV) := ⟨fMTimes,fdMTimes,eMTimes,bMTimes,ok_timesM FMTimes Zc.Z pHa pDG pRT pRR pNu⟩
    have pN : Pm l.prog w K mg base CX0 1 "_law_numbers" ["_law_cell_here", "_law_many"] spNums := ⟨fLNumbers,fdLNumbers,mLNumbers,FLNumbers.kp,bLNumbers,ok_numbers FLNumbers T⟩
    have pC : Pm l.prog w K mg base CX0 1 "_law_cell" ["_law_script", "_law_k"] (spCell2 K) := ⟨fCell,fdCell,mCell,FCell.kp,bCell,ok_cell2 FCell T⟩
    have pAd : Pm l.prog w K mg base CX0 5 "added_products" ["field", "one", "other"] (spAdd CF) := ⟨fAddedProducts,fdAddedProducts,mAddedProducts,FAddedProducts.kp,bAddedProducts,ok_add FAddedProducts T Zc.Z pPl pTi⟩
    have pAc : Pm l.prog w K mg base CX0 6 "points_across" ["field", "triple", "triples"] (spAcr CF) := ⟨fPointsAcross,fdPointsAcross,mPointsAcross,FPointsAcross.kp,bPointsAcross,ok_acr FPointsAcross T pAd⟩
    have pT1 : Pm l.prog w K mg base CX0 1 "triples_of" ["size"] spTri := ⟨fTriplesOf,fdTriplesOf,mTriplesOf,FTriplesOf.kp,bTriplesOf,ok_tri FTriplesOf T⟩
    have gPO := ok_planeof (P := l.prog) (w := w) (base := base) FPlaneOf T Zc.Z pSz pT1 pAc
    have gFO := ok_flatof (P := l.prog) (w := w) (base := base) FFlatOf T Zc.Z pSz pPl pTi
    have pX : Pm l.prog w K mg base CX0 1 "marks_of" ["points", "block"] spMarks := ⟨fMarksOf,fdMarksOf,mMarksOf,FMarksOf.kp,bMarksOf,ok_marks FMarksOf T⟩
    have pY : Pm l.prog w K mg base CX0 1 "marked_of" ["points", "marks"] spMarkedOf := ⟨fMarkedOf,fdMarkedOf,mMarkedOf,FMarkedOf.kp,bMarkedOf,ok_markedOf FMarkedOf T⟩
    have pA2 : Pm l.prog w K mg base CX0 2 "arc_told" ["M", "points"] (spToldS arcW) := ⟨fArcTold,fdArcTold,mArcTold,FArcTold.kp,bArcTold,ok_arcTold FArcTold T pX pY⟩
    have pB : Pm l.prog w K mg base CX0 2 "two_beside" ["M", "marks", "point"] spTwo := ⟨fTwoBeside,fdTwoBeside,mTwoBeside,FTwoBeside.kp,bTwoBeside,ok_two FTwoBeside T pY⟩
    have pK : Pm l.prog w K mg base CX0 1 "all_marked" ["marks"] spAllM := ⟨fAllMarked,fdAllMarked,mAllMarked,FAllMarked.kp,bAllMarked,ok_allM FAllMarked T⟩
    have pH : Pm l.prog w K mg base (CXD l.prog w) 3 "grown_arc" ["M", "points"] (spGrown C) := ⟨fGrownArc,fdGrownArc,mGrownArc,FGrownArc.kp,bGrownArc,ok_grown FGrownArc T D.R.O (ok_xinit D.R.F D.R.B D.mM) (bindsXI D.R.F) D.mC pA2 pX pB pK⟩
    have pMT : Pm l.prog w K mg base CX0 2 "meeting_told" ["M", "points"] (spToldS metW) := ⟨fMeetingTold,fdMeetingTold,mMeetingTold,FMeetingTold.kp,bMeetingTold,ok_metTold FMeetingTold T pX pY⟩
    have pAl : Pm l.prog w K mg base CX0 2 "block_alone" ["M", "marks", "point"] spAlone := ⟨fBlockAlone,fdBlockAlone,mBlockAlone,FBlockAlone.kp,bBlockAlone,ok_alone FBlockAlone T pY⟩
    have pTh : Pm l.prog w K mg base CX0 3 "thinned_set" ["M", "points"] spThin0 := ⟨fThinnedSet,fdThinnedSet,mThinnedSet,FThinnedSet.kp,bThinnedSet,ok_thin0 FThinnedSet T pMT pX pAl pK⟩
    have pLA : Pm l.prog w K mg base CX0 4 "_law_asked" ["_law_layout", "_law_points"] spAsked := ⟨fLAsked,fdLAsked,mLAsked,FLAsked.kp,bLAsked,ok_asked FLAsked D pH⟩
    have pLS : Pm l.prog w K mg base CX0 1 "_law_shown" ["_law_layout", "_law_grown", "_law_shown_here"] spShownL := ⟨fLShown,fdLShown,mLShown,FLShown.kp,bLShown,ok_shownL FLShown T⟩
    exact ok_law FLaw T pC pN pMk mPlaneOf mFlatOf FPlaneOf.kp FFlatOf.kp bPlaneOf bFlatOf gPO gFO pLA pA2 pLS pMT pTh
end E1
def PySem.W.Fast.tw12203041764193468667 : Nat := 0
def PySem.W.Fast.tw12608558476203783840 : Nat := 0
def PySem.W.Fast.tw16574426534150289119 : Nat := 0
def PySem.W.Fast.tw17247985273218047170 : Nat := 0
def PySem.W.Fast.tw17465394314753831732 : Nat := 0
def PySem.W.Fast.tw17630651311043436361 : Nat := 0
def PySem.W.Fast.tw18092857355059378851 : Nat := 0
def PySem.W.Fast.tw18305256773959597306 : Nat := 0
def PySem.W.Fast.tw3023064887992401334 : Nat := 0
def PySem.W.Fast.tw3082513564866042997 : Nat := 0
def PySem.W.Fast.tw3110135849310419655 : Nat := 0
def PySem.W.Fast.tw3545208775405012696 : Nat := 0
def PySem.W.Fast.tw3628156974797045290 : Nat := 0
def PySem.W.Fast.tw3684539608440134806 : Nat := 0
def PySem.W.Fast.tw4230227760312006044 : Nat := 0
def PySem.W.Fast.tw5075358615432179468 : Nat := 0
def PySem.W.Fast.tw6032145956645971072 : Nat := 0
def PySem.W.Fast.tw6107817800058067146 : Nat := 0
def PySem.W.Fast.tw6813788004109469598 : Nat := 0
def PySem.W.Fast.tw7127441448316739291 : Nat := 0
def PySem.W.Fast.tw7254061408674018514 : Nat := 0
def PySem.W.Fast.tw7727593481981561393 : Nat := 0
def PySem.W.Fast.tw8728405025631315380 : Nat := 0
def PySem.W.Fast.tw9538352551345009411 : Nat := 0
def PySem.W.Fast.tw9703104011855934897 : Nat := 0
open PySem PySem.W PyProof.Rows
set_option maxRecDepth 100000 in
set_option maxHeartbeats 0 in
theorem PySem.Challenge.cw_evenmeet_k89_whole_arcs_of_planes_holds : PySem.Challenge.rw_evenmeet_k89_whole_arcs_of_planes.Holds := by
  w_on; o_law; k_head; (case hw => w_witness2)
  k_fill
  refine E1.walk (l := PySem.Challenge.rw_evenmeet_k89_whole_arcs_of_planes) (k := 12) ⟨rfl,by decide,by decide⟩ rfl rfl (fun w h Y => PySem.W.kIn_of Y) ?F
  case F =>
    intro w mg fa h KX G hmg
    have N : PySem.W.nsIn (L2.KOf KX) mainGlobals "isinstance" = some none ∧ PySem.W.nsIn (L2.KOf KX) mainGlobals "int" = some none ∧ PySem.W.nsIn (L2.KOf KX) mainGlobals "bool" = some none ∧ PySem.W.nsIn (L2.KOf KX) mainGlobals "abs" = some none ∧ PySem.W.nsIn (L2.KOf KX) mainGlobals "len" = some none ∧ PySem.W.nsIn (L2.KOf KX) mainGlobals "range" = some none ∧ PySem.W.nsIn (L2.KOf KX) mainGlobals "tuple" = some none ∧ PySem.W.nsIn (L2.KOf KX) mainGlobals "list" = some none ∧ PySem.W.nsIn (L2.KOf KX) mainGlobals "sorted" = some none ∧ PySem.W.nsIn (L2.KOf KX) mainGlobals "all" = some none ∧ PySem.W.nsIn (L2.KOf KX) mainGlobals "set" = some none ∧ PySem.W.nsIn (L2.KOf KX) mainGlobals "zip" = some none ∧ PySem.W.nsIn (L2.KOf KX) mainGlobals "enumerate" = some none ∧ PySem.W.nsIn (L2.KOf KX) mainGlobals "any" = some none ∧ PySem.W.nsIn (L2.KOf KX) mainGlobals "max" = some none ∧ PySem.W.nsIn (L2.KOf KX) mainGlobals "min" = some none ∧ PySem.W.nsIn (L2.KOf KX) mainGlobals "str" = some none ∧ PySem.W.nsIn (L2.KOf KX) mainGlobals "sum" = some none := by
      dsimp only [L2.KOf]
      refine' ⟨?z0,?z1,?z2,?z3,?z4,?z5,?z6,?z7,?z8,?z9,?z10,?z11,?z12,?z13,?z14,?z15,?z16,?z17⟩
      (case z0 => k_is)
      (case z1 => k_is)
      (case z2 => k_is)
      (case z3 => k_is)
      (case z4 => k_is)
      (case z5 => k_is)
      (case z6 => k_is)
      (case z7 => k_is)
      (case z8 => k_is)
      (case z9 => k_is)
      (case z10 => k_is)
      (case z11 => k_is)
      (case z12 => k_is)
      (case z13 => k_is)
      (case z14 => k_is)
      (case z15 => k_is)
      (case z16 => k_is)
      (case z17 => k_is)
    have CMostNumbers : ∃ t,PySem.W.nsIn (L2.KOf KX) mainGlobals "MOST_NUMBERS" = some (some (.int 32 t)) := by
      dsimp only [L2.KOf]
      refine' E1.cint_mk ?a
      (case a => k_is)
    have AMarksOf : E1.At (L2.KOf KX) "marks_of" E1.sMarksOf := by
      dsimp only [L2.KOf]
      refine' E1.fn_mk ?a ?l ?c ?k
      (case a => k_is); (case l => k_is); (case c => k_is); (case k => k_is)
    have AArcTold : E1.At (L2.KOf KX) "arc_told" E1.sArcTold := by
      dsimp only [L2.KOf]
      refine' E1.fn_mk ?a ?l ?c ?k
      (case a => k_is); (case l => k_is); (case c => k_is); (case k => k_is)
    have AGrownArc : E1.At (L2.KOf KX) "grown_arc" E1.sGrownArc := by
      dsimp only [L2.KOf]
      refine' E1.fn_mk ?a ?l ?c ?k
      (case a => k_is); (case l => k_is); (case c => k_is); (case k => k_is)
    have ATwoBeside : E1.At (L2.KOf KX) "two_beside" E1.sTwoBeside := by
      dsimp only [L2.KOf]
      refine' E1.fn_mk ?a ?l ?c ?k
      (case a => k_is); (case l => k_is); (case c => k_is); (case k => k_is)
    have AMeetingTold : E1.At (L2.KOf KX) "meeting_told" E1.sMeetingTold := by
      dsimp only [L2.KOf]
      refine' E1.fn_mk ?a ?l ?c ?k
      (case a => k_is); (case l => k_is); (case c => k_is); (case k => k_is)
    have AThinnedSet : E1.At (L2.KOf KX) "thinned_set" E1.sThinnedSet := by
      dsimp only [L2.KOf]
      refine' E1.fn_mk ?a ?l ?c ?k
      (case a => k_is); (case l => k_is); (case c => k_is); (case k => k_is)
    have ABlockAlone : E1.At (L2.KOf KX) "block_alone" E1.sBlockAlone := by
      dsimp only [L2.KOf]
      refine' E1.fn_mk ?a ?l ?c ?k
      (case a => k_is); (case l => k_is); (case c => k_is); (case k => k_is)
    have AMarkedOf : E1.At (L2.KOf KX) "marked_of" E1.sMarkedOf := by
      dsimp only [L2.KOf]
      refine' E1.fn_mk ?a ?l ?c ?k
      (case a => k_is); (case l => k_is); (case c => k_is); (case k => k_is)
    have AAllMarked : E1.At (L2.KOf KX) "all_marked" E1.sAllMarked := by
      dsimp only [L2.KOf]
      refine' E1.fn_mk ?a ?l ?c ?k
      (case a => k_is); (case l => k_is); (case c => k_is); (case k => k_is)
    have AWhole : E1.At (L2.KOf KX) "is_whole" E1.sWhole := by
      dsimp only [L2.KOf]
      refine' E1.fn_mk ?a ?l ?c ?k
      (case a => k_is); (case l => k_is); (case c => k_is); (case k => k_is)
    have AIsBelow : E1.At (L2.KOf KX) "is_below" E1.sIsBelow := by
      dsimp only [L2.KOf]
      refine' E1.fn_mk ?a ?l ?c ?k
      (case a => k_is); (case l => k_is); (case c => k_is); (case k => k_is)
    have AMust : E1.At (L2.KOf KX) "must_be_whole" E1.sMust := by
      dsimp only [L2.KOf]
      refine' E1.fn_mk ?a ?l ?c ?k
      (case a => k_is); (case l => k_is); (case c => k_is); (case k => k_is)
    have AFrom : E1.At (L2.KOf KX) "must_be_from" E1.sFrom := by
      dsimp only [L2.KOf]
      refine' E1.fn_mk ?a ?l ?c ?k
      (case a => k_is); (case l => k_is); (case c => k_is); (case k => k_is)
    have APrimes : E1.At (L2.KOf KX) "primes_of" E1.sPrimes := by
      dsimp only [L2.KOf]
      refine' E1.fn_mk ?a ?l ?c ?k
      (case a => k_is); (case l => k_is); (case c => k_is); (case k => k_is)
    have AIsPrime : E1.At (L2.KOf KX) "is_prime" E1.sIsPrime := by
      dsimp only [L2.KOf]
      refine' E1.fn_mk ?a ?l ?c ?k
      (case a => k_is); (case l => k_is); (case c => k_is); (case k => k_is)
    have ARowTimes : E1.At (L2.KOf KX) "row_times" E1.sRowTimes := by
      dsimp only [L2.KOf]
      refine' E1.fn_mk ?a ?l ?c ?k
      (case a => k_is); (case l => k_is); (case c => k_is); (case k => k_is)
    have ARowRest : E1.At (L2.KOf KX) "row_rest" E1.sRowRest := by
      dsimp only [L2.KOf]
      refine' E1.fn_mk ?a ?l ?c ?k
      (case a => k_is); (case l => k_is); (case c => k_is); (case k => k_is)
    have ARowFactor : E1.At (L2.KOf KX) "row_factor" E1.sRowFactor := by
      dsimp only [L2.KOf]
      refine' E1.fn_mk ?a ?l ?c ?k
      (case a => k_is); (case l => k_is); (case c => k_is); (case k => k_is)
    have ATrimmed : E1.At (L2.KOf KX) "trimmed" E1.sTrimmed := by
      dsimp only [L2.KOf]
      refine' E1.fn_mk ?a ?l ?c ?k
      (case a => k_is); (case l => k_is); (case c => k_is); (case k => k_is)
    have ADigitsOf : E1.At (L2.KOf KX) "digits_of" E1.sDigitsOf := by
      dsimp only [L2.KOf]
      refine' E1.fn_mk ?a ?l ?c ?k
      (case a => k_is); (case l => k_is); (case c => k_is); (case k => k_is)
    have ANumberOf : E1.At (L2.KOf KX) "number_of" E1.sNumberOf := by
      dsimp only [L2.KOf]
      refine' E1.fn_mk ?a ?l ?c ?k
      (case a => k_is); (case l => k_is); (case c => k_is); (case k => k_is)
    have AMustBeRow : E1.At (L2.KOf KX) "must_be_row" E1.sMustBeRow := by
      dsimp only [L2.KOf]
      refine' E1.fn_mk ?a ?l ?c ?k
      (case a => k_is); (case l => k_is); (case c => k_is); (case k => k_is)
    have ASizeWithin : E1.At (L2.KOf KX) "size_within" E1.sSizeWithin := by
      dsimp only [L2.KOf]
      refine' E1.fn_mk ?a ?l ?c ?k
      (case a => k_is); (case l => k_is); (case c => k_is); (case k => k_is)
    have AMustBePrime : E1.At (L2.KOf KX) "must_be_prime" E1.sMustBePrime := by
      dsimp only [L2.KOf]
      refine' E1.fn_mk ?a ?l ?c ?k
      (case a => k_is); (case l => k_is); (case c => k_is); (case k => k_is)
    have AMustBeNoProduct : E1.At (L2.KOf KX) "must_be_no_product" E1.sMustBeNoProduct := by
      dsimp only [L2.KOf]
      refine' E1.fn_mk ?a ?l ?c ?k
      (case a => k_is); (case l => k_is); (case c => k_is); (case k => k_is)
    have AJoined : E1.At (L2.KOf KX) "joined" E1.sJoined := by
      dsimp only [L2.KOf]
      refine' E1.fn_mk ?a ?l ?c ?k
      (case a => k_is); (case l => k_is); (case c => k_is); (case k => k_is)
    have APlaneOf : E1.At (L2.KOf KX) "plane_of" E1.sPlaneOf := by
      dsimp only [L2.KOf]
      refine' E1.fn_mk ?a ?l ?c ?k
      (case a => k_is); (case l => k_is); (case c => k_is); (case k => k_is)
    have ATriplesOf : E1.At (L2.KOf KX) "triples_of" E1.sTriplesOf := by
      dsimp only [L2.KOf]
      refine' E1.fn_mk ?a ?l ?c ?k
      (case a => k_is); (case l => k_is); (case c => k_is); (case k => k_is)
    have APointsAcross : E1.At (L2.KOf KX) "points_across" E1.sPointsAcross := by
      dsimp only [L2.KOf]
      refine' E1.fn_mk ?a ?l ?c ?k
      (case a => k_is); (case l => k_is); (case c => k_is); (case k => k_is)
    have AAddedProducts : E1.At (L2.KOf KX) "added_products" E1.sAddedProducts := by
      dsimp only [L2.KOf]
      refine' E1.fn_mk ?a ?l ?c ?k
      (case a => k_is); (case l => k_is); (case c => k_is); (case k => k_is)
    have AFlatOf : E1.At (L2.KOf KX) "flat_of" E1.sFlatOf := by
      dsimp only [L2.KOf]
      refine' E1.fn_mk ?a ?l ?c ?k
      (case a => k_is); (case l => k_is); (case c => k_is); (case k => k_is)
    have ACell : E1.At (L2.KOf KX) "_law_cell" E1.sCell := by
      dsimp only [L2.KOf]
      refine' E1.fn_mk ?a ?l ?c ?k
      (case a => k_is); (case l => k_is); (case c => k_is); (case k => k_is)
    have ALNumbers : E1.At (L2.KOf KX) "_law_numbers" E1.sLNumbers := by
      dsimp only [L2.KOf]
      refine' E1.fn_mk ?a ?l ?c ?k
      (case a => k_is); (case l => k_is); (case c => k_is); (case k => k_is)
    have ALAsked : E1.At (L2.KOf KX) "_law_asked" E1.sLAsked := by
      dsimp only [L2.KOf]
      refine' E1.fn_mk ?a ?l ?c ?k
      (case a => k_is); (case l => k_is); (case c => k_is); (case k => k_is)
    have ALShown : E1.At (L2.KOf KX) "_law_shown" E1.sLShown := by
      dsimp only [L2.KOf]
      refine' E1.fn_mk ?a ?l ?c ?k
      (case a => k_is); (case l => k_is); (case c => k_is); (case k => k_is)
    have ALaw : E1.At (L2.KOf KX) "law" E1.sLaw := by
      dsimp only [L2.KOf]
      refine' E1.fn_mk ?a ?l ?c ?k
      (case a => k_is); (case l => k_is); (case c => k_is); (case k => k_is)
    have R : ∃ (M C fI : Addr) (fd : FuncData),E1.RefsX (L2.KOf KX) M C fI fd := by
      dsimp only [L2.KOf]
      refine' E1.refsX_mk ?nM ?nC ?nV ?lk ?tl ?nk ?ik ?fn ?cls ?ok ?obj ?bex ?dct ?sa ?fdl ?kp ?sp ?rdM ?fcM ?lf ?lT ?cf ?exM ?gaM ?noM ?clM ?obM ?beM ?gaC ?noC ?clC ?obC ?beC ?gt ?tk ?sub ?kC ?kV
      (case nM => k_is)
      (case nC => k_is)
      (case nV => k_is)
      (case lk => k_is)
      (case tl => kernel_rfl)
      (case nk => kernel_rfl)
      (case ik => k_is)
      (case fn => k_is)
      (case cls => k_is)
      (case ok => kernel_rfl)
      (case obj => kernel_rfl)
      (case bex => kernel_rfl)
      (case dct => kernel_rfl)
      (case sa => k_is)
      (case fdl => k_is)
      (case kp => k_is)
      (case sp => k_is)
      (case rdM => k_is)
      (case fcM => k_is)
      (case lf => k_is)
      (case lT => k_is)
      (case cf => k_is)
      (case exM => k_exc)
      (case gaM => k_is)
      (case noM => k_is)
      (case clM => k_is)
      (case obM => k_is)
      (case beM => k_is)
      (case gaC => k_is)
      (case noC => k_is)
      (case clC => k_is)
      (case obC => k_is)
      (case beC => k_is)
      (case gt => k_is)
      (case tk => k_is)
      (case sub => k_is)
      (case kC => kit_is)
      (case kV => kit_is)
    have Zc : ∃ C : Addr,E1.FieldC (L2.KOf KX) C := by
      dsimp only [L2.KOf]
      refine' E1.field_mk ?nC ?pg ?hd ?po ?sa ?mk ?kc ?n0 ?n1 ?n2 ?nR ?a0 ?i0 ?l0 ?c0 ?k0 ?a1 ?i1 ?l1 ?c1 ?k1 ?a2 ?i2 ?l2 ?c2 ?k2 ?a3 ?i3 ?l3 ?c3 ?k3 ?a4 ?i4 ?l4 ?c4 ?k4
      (case nC => k_is)
      (case pg => k_is)
      (case hd => k_is)
      (case po => k_is)
      (case sa => k_is)
      (case mk => k_is)
      (case kc => k_is)
      (case n0 => k_is)
      (case n1 => k_is)
      (case n2 => k_is)
      (case nR => k_is)
      (case a0 => k_is)
      (case i0 => k_is)
      (case l0 => k_is)
      (case c0 => k_is)
      (case k0 => k_is)
      (case a1 => k_is)
      (case i1 => k_is)
      (case l1 => k_is)
      (case c1 => k_is)
      (case k1 => k_is)
      (case a2 => k_is)
      (case i2 => k_is)
      (case l2 => k_is)
      (case c2 => k_is)
      (case k2 => k_is)
      (case a3 => k_is)
      (case i3 => k_is)
      (case l3 => k_is)
      (case c3 => k_is)
      (case k3 => k_is)
      (case a4 => k_is)
      (case i4 => k_is)
      (case l4 => k_is)
      (case c4 => k_is)
      (case k4 => k_is)
    exact E1.all_mk KX G hmg N Zc CMostNumbers R AMarksOf AArcTold AGrownArc ATwoBeside AMeetingTold AThinnedSet ABlockAlone AMarkedOf AAllMarked AWhole AIsBelow AMust AFrom APrimes AIsPrime ARowTimes ARowRest ARowFactor ATrimmed ADigitsOf ANumberOf AMustBeRow ASizeWithin AMustBePrime AMustBeNoProduct AJoined APlaneOf ATriplesOf APointsAcross AAddedProducts AFlatOf ACell ALNumbers ALAsked ALShown ALaw


