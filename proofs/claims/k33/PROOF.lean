import PyProof.Rows.All
import Wide.All
import OpenK.AllK
import Wide.FinOn
import Lean
import PyProof.EqAt
import PyProof.EqKinds
import PyProof.TupleCall
import PySem.Challenge.RW_evenmeet_k33_nets_and_back
set_option Elab.async false
set_option linter.all false
set_option maxRecDepth 100000
namespace L2
open PySem PySem.Spec PyProof.Rows
abbrev Key:=Sum Int Str
def keyIs:Key→Value→Bool
 | .inl k,v=>Value.isInt k v
 | .inr x,v=>Value.isStrOf x v
def keyH (w:World):Key→Int
 | .inl k=>hashInt k
 | .inr x=>hashStr w x
theorem keyIs_shape:∀ {k:Key} {v:Value},keyIs k v=true→(∃ i t,k=Sum.inl i∧v=Value.int i t)∨(∃ x t,k=Sum.inr x∧v=Value.str x t)
 | .inl i,v,h=>by
  obtain ⟨t,e⟩:=Value.isInt_shape (k:=i) (v:=v) h
  exact .inl ⟨i,t,rfl,e⟩
 | .inr x,v,h=>by
  obtain ⟨t,e⟩:=Value.isStrOf_shape (x:=x) (v:=v) h
  exact .inr ⟨x,t,rfl,e⟩
theorem keyIs_int (i:Int) (t:Tok):keyIs (.inl i) (.int i t)=true:=by simp [keyIs,Value.isInt]
theorem keyIs_str (x:Str) (t:Tok):keyIs (.inr x) (.str x t)=true:=by simp [keyIs,Value.isStrOf]
theorem key_ll (a b:Int):decide ((Sum.inl a:Key)=Sum.inl b)=(a == b):=by
 by_cases e:a=b
 ·subst e; simp
 ·have h:¬ (Sum.inl a:Key)=Sum.inl b:=fun q=>e (Sum.inl.inj q)
  rw [decide_eq_false h]
  exact (beq_eq_false_iff_ne.mpr e).symm
theorem key_rr (a b:Str):decide ((Sum.inr a:Key)=Sum.inr b)=decide (a=b):=by
 by_cases e:a=b
 ·subst e; simp
 ·have h:¬ (Sum.inr a:Key)=Sum.inr b:=fun q=>e (Sum.inr.inj q)
  rw [decide_eq_false h,decide_eq_false e]
theorem key_lr (a:Int) (b:Str):decide ((Sum.inl a:Key)=Sum.inr b)=false:=decide_eq_false (fun q=>nomatch q)
theorem key_rl (a:Str) (b:Int):decide ((Sum.inr a:Key)=Sum.inl b)=false:=decide_eq_false (fun q=>nomatch q)
def mixKind (prog:Program) (w:World):PySem.KeyKind prog w Key where
 is:=keyIs
 hash:=keyH w
 inj:=fun v a b ha hb=>by
  rcases keyIs_shape ha with ⟨i,t,rfl,rfl⟩ | ⟨x,t,rfl,rfl⟩
  ·rcases keyIs_shape hb with ⟨j,u,rfl,e⟩ | ⟨y,u,rfl,e⟩
   ·injection e with e1 _; rw [e1]
   ·exact nomatch e
  ·rcases keyIs_shape hb with ⟨j,u,rfl,e⟩ | ⟨y,u,rfl,e⟩
   ·exact nomatch e
   ·injection e with e1 _; rw [e1]
 byValue:=fun k v h=>by
  rcases keyIs_shape h with ⟨i,t,rfl,rfl⟩ | ⟨x,t,rfl,rfl⟩ <;> rfl
 pyHash:=fun hv h=>by
  rcases keyIs_shape hv with ⟨i,t,rfl,rfl⟩ | ⟨x,t,rfl,rfl⟩
  ·exact wpAny_pyHash_int h
  ·exact wpAny_pyHash_str h
 eqBool:=fun hu hv h=>by
  rcases keyIs_shape hu with ⟨i,t,rfl,rfl⟩ | ⟨x,t,rfl,rfl⟩
  ·rcases keyIs_shape hv with ⟨j,u,rfl,rfl⟩ | ⟨y,u,rfl,rfl⟩
   ·rw [key_ll] at h; exact wpAny_eqBool_int h
   ·rw [key_lr] at h; exact SeqAt.EqAt.int_str i t y u _ _ _ _ h
  ·rcases keyIs_shape hv with ⟨j,u,rfl,rfl⟩ | ⟨y,u,rfl,rfl⟩
   ·rw [key_rl] at h; exact SeqAt.EqAt.str_int x t j u _ _ _ _ h
   ·rw [key_rr] at h; exact wpAny_eqBool_str h
 «strs»:=fun k x t v h=>by
  rcases keyIs_shape h with ⟨i,u,rfl,e⟩ | ⟨y,u,rfl,e⟩
  ·exact nomatch e
  ·injection e with e1 _
   subst e1
   cases v <;> rfl
theorem mixKind_int (prog:Program) (w:World) (i:Int) (t:Tok):(mixKind prog w).is (.inl i) (.int i t)=true:=keyIs_int i t
theorem mixKind_str (prog:Program) (w:World) (x:Str) (t:Tok):(mixKind prog w).is (.inr x) (.str x t)=true:=keyIs_str x t
end L2
namespace L2
open PySem PySem.Spec PyProof.Rows
inductive V where
 | non | bl (b:Bool) | int (i:Int) | str (x:Str) | byt (b:Array UInt8) | flt (b:UInt64) | ref (a:Addr) | ty (n:String)
 deriving DecidableEq
def RelV:V→Value→Prop
 | .non,u=>u=Value.none
 | .bl b,u=>u=Value.bool b
 | .int i,u=>∃ t,u=Value.int i t
 | .str x,u=>∃ t,u=Value.str x t
 | .byt b,u=>∃ t,u=Value.bytes b t
 | .flt b,u=>∃ t,u=Value.float b t
 | .ref a,u=>u=Value.ref a
 | .ty n,u=>u=Value.type n
abbrev Vals:List V→List Value→Prop:=Paired RelV
theorem Vals.length {xs:List V} {us:List Value} (r:Vals xs us):xs.length=us.length:=Paired.length r
theorem Vals.get:∀ {xs:List V} {us:List Value} {i:Nat} {x:V},Vals xs us→xs[i]?=some x→∃ u,us[i]?=some u∧RelV x u
 | _,_,_,_,.nil,e=>by simp at e
 | _,_,0,_,.cons r _,e=>by simp at e; subst e; exact ⟨_,rfl,r⟩
 | _,_,i + 1,x,.cons _ t,e=>by
  obtain ⟨u,h1,h2⟩:=Vals.get (i:=i) (x:=x) t (by simpa using e)
  exact ⟨u,by simpa using h1,h2⟩
theorem Vals.set {x:V} {u:Value} (r:RelV x u):∀ {xs:List V} {us:List Value} (i:Nat),Vals xs us→Vals (xs.set i x) (us.set i u)
 | _,_,_,.nil=>.nil
 | _,_,0,.cons _ t=>.cons r t
 | _,_,i + 1,.cons q t=>.cons q (Vals.set r i t)
theorem Vals.append:∀ {xs ys:List V} {us ws:List Value},Vals xs us→Vals ys ws→Vals (xs++ys) (us++ws)
 | _,_,_,_,.nil,s=>s
 | _,_,_,_,.cons r t,s=>.cons r (Vals.append t s)
theorem Vals.take:∀ {xs:List V} {us:List Value} (n:Nat),Vals xs us→Vals (xs.take n) (us.take n)
 | _,_,0,_=>.nil
 | _,_,_ + 1,.nil=>.nil
 | _,_,n + 1,.cons r t=>.cons r (Vals.take n t)
theorem Vals.drop:∀ {xs:List V} {us:List Value} (n:Nat),Vals xs us→Vals (xs.drop n) (us.drop n)
 | _,_,0,r=>r
 | _,_,_ + 1,.nil=>.nil
 | _,_,n + 1,.cons _ t=>Vals.drop n t
def RelO:Option V→Option Value→Prop
 | some v,some u=>RelV v u
 | none,none=>True
 | _,_=>False
def KV {κ:Type}:List (κ×V)→List (κ×Value)→Prop:=Paired fun (p:κ×V) (q:κ×Value)=>p.1=q.1∧RelV p.2 q.2
def kV:Key→V
 | .inl i=>.int i
 | .inr x=>.str x
inductive HO where
  | lst (xs:List V)
  | tup (xs:List V)
  | dK (kvs:List (Key×V)) | dT (kvs:List (List Key×V))
  | set (S:Int→Bool) (n:Nat)
  | ins (C dx:Addr) (fs:List (Str×V))
  | own (x:Addr)
  | xd (fs:List (Str×V))
  | met (f x:Addr)
  | rng (lo hi:Int)
  | frz (o:Obj) (u:HO)
  | tbl (ps:Array Value)
  | ext (φ:Heap→Prop)
abbrev Hp:=Addr→Option HO
def upd (H:Hp) (a:Addr) (o:HO):Hp:=fun b=>if b=a then some o else H b
theorem upd_same {H:Hp} {a:Addr} {o:HO}:upd H a o a=some o:=by unfold upd; rw [if_pos rfl]
theorem upd_ne {H:Hp} {a b:Addr} {o:HO} (h:b≠a):upd H a o b=H b:=by unfold upd; rw [if_neg h]
theorem ne_of_none {H:Hp} {a b:Addr} {o:HO} (h:H a=some o) (h':H b=none):a≠b:=by
 intro e; subst e; rw [h] at h'; cases h'
section
variable (P:Program) (w:World)
def ObjOk (H:Hp) (h:Heap) (a:Addr):HO→Prop
 | .lst xs=>xs.length≤sizeLine∧∃ (its:List Value) (n:Nat),Vals xs its∧h.get? a=some { cls:=.type "list",data:=.seq its.toArray n }
 | .tup xs=>xs.length≤sizeLine∧∃ its:List Value,Vals xs its∧IsTup h a its.toArray
 | .dK kvs=>kvs.length≤sizeLine∧(a == sysModules)=false∧∃ vs,KV kvs vs∧h.DictOf (mixKind P w) a vs
 | .dT kvs=>kvs.length≤sizeLine∧(a == sysModules)=false∧∃ xs:List (List Key×Addr×Value),
   Paired (fun (p:List Key×V) (q:List Key×Addr×Value)=>p.1=q.1∧H q.2.1=some (.tup (p.1.map kV))∧RelV p.2 q.2.2) kvs xs∧
   ∃ o es ep,h.get? a=some o∧o.ExactDict∧o.data=.dict es ep∧es.toList=xs.map (entryOfKey (tupleKind (mixKind P w)))∧(xs.map (·.1)).Nodup
 | .set S n=>h.SetOf (intKind P w) a S n
 | .ins C dx fs=>H dx=some (.own a)∧fs.length≤1000∧dx≠a∧h.get? a=some (PySem.W.instObj C dx)∧
   ∃ mA,h.Ns1 dx mA∧(∀ f,RelO (fs.lookup f) (mA f))∧PySem.Within mA (fs.map (·.1))
 | .own _=>∃ o,h.get? a=some o
 | .xd fs=>∃ mA,h.Ns1 a mA∧∀ f,RelO (fs.lookup f) (mA f)
 | .rng lo hi=>∃ t u v,h.get? a=some { cls:=.type "range",data:=.fields #[.int lo t,.int hi u,.int 1 v] }
 | .frz o u=>h.get? a=some o∧ObjOk H h a u
 | .tbl ps=>h.get? a=some { cls:=.none,data:=.fields ps }
 | .met f x=>h.get? a=some (PySem.W.methodObj (.ref f) (.ref x))
 | .ext φ=>φ h∧(∃ o,h.get? a=some o)∧∀ h1 h2:Heap,φ h1→(∀ o,h1.get? a=some o→h2.get? a=some o)→φ h2
def HOk (H:Hp) (h:Heap):Prop:=∀ a o,H a=some o→ObjOk P w H h a o
end
section
variable {P:Program} {w:World} {H H':Hp} {h h':Heap} {a:Addr} {o:HO}
theorem ObjOk.lt (x:ObjOk P w H h a o):a < h.objs.size:=by
 cases o with
 | lst xs=>obtain ⟨_,_,_,_,e⟩:=x; exact Heap.lt_size e
 | tup xs=>obtain ⟨_,_,_,p⟩:=x; exact p.lt
 | dK kvs=>obtain ⟨_,_,_,_,o,_,_,e,_⟩:=x; exact Heap.lt_size e
 | dT kvs=>obtain ⟨_,_,_,_,o,_,_,e,_⟩:=x; exact Heap.lt_size e
 | set S n=>obtain ⟨o,_,_,_,e,_⟩:=x; exact Heap.lt_size e
 | ins C dx fs=>obtain ⟨_,_,_,e,_⟩:=x; exact Heap.lt_size e
 | own y=>obtain ⟨_,e⟩:=x; exact Heap.lt_size e
 | xd fs=>obtain ⟨_,⟨_,_,_,e,_⟩,_⟩:=x; exact Heap.lt_size e
 | rng lo hi=>obtain ⟨_,_,_,e⟩:=x; exact Heap.lt_size e
 | frz ob u=>obtain ⟨e,_⟩:=x; exact Heap.lt_size e
 | tbl ps=>exact Heap.lt_size (show h.get? a=some _ from x)
 | met f y=>exact Heap.lt_size (show h.get? a=some _ from x)
 | ext φ=>obtain ⟨_,⟨_,e⟩,_⟩:=x; exact Heap.lt_size e
theorem Paired.mapP {α β:Type} {F G:α→β→Prop}:∀ {l₁:List α} {l₂:List β},Paired F l₁ l₂→(∀ a b,F a b→G a b)→Paired G l₁ l₂
 | _,_,.nil,_=>.nil
 | _,_,.cons r t,f=>.cons (f _ _ r) (Paired.mapP t f)
theorem ObjOk.stay (x:ObjOk P w H h a o) (k:∀ b u,(b=a∨H b=some (.own a))→h.get? b=some u→h'.get? b=some u)
  (ho:∀ b,H b=some (.own a)→H' b=some (.own a)) (ht:∀ b xs,H b=some (.tup xs)→H' b=some (.tup xs)):ObjOk P w H' h' a o:=by
 induction o with
 | lst xs=>obtain ⟨z,its,n,r,e⟩:=x; exact ⟨z,its,n,r,k _ _ (.inl rfl) e⟩
 | tup xs=>obtain ⟨z,its,r,ob,e,c⟩:=x; exact ⟨z,its,r,ob,k _ _ (.inl rfl) e,c⟩
 | dK kvs=>obtain ⟨z,y,vs,r,ob,es,ep,e,c⟩:=x; exact ⟨z,y,vs,r,ob,es,ep,k _ _ (.inl rfl) e,c⟩
 | dT kvs=>
  obtain ⟨z,y,xs,r,ob,es,ep,e,c⟩:=x
  exact ⟨z,y,xs,Paired.mapP r fun p q z=>⟨z.1,ht _ _ z.2.1,z.2.2⟩,ob,es,ep,k _ _ (.inl rfl) e,c⟩
 | set S n=>obtain ⟨ob,es,ep,t,e,c⟩:=x; exact ⟨ob,es,ep,t,k _ _ (.inl rfl) e,c⟩
 | ins C dx fs=>
  obtain ⟨d,z,ne,e,mA,⟨od,es,ep,e2,c⟩,r⟩:=x
  exact ⟨ho _ d,z,ne,k _ _ (.inl rfl) e,mA,⟨od,es,ep,k _ _ (.inr d) e2,c⟩,r⟩
 | own y=>obtain ⟨ob,e⟩:=x; exact ⟨ob,k _ _ (.inl rfl) e⟩
 | xd fs=>obtain ⟨mA,⟨od,es,ep,e,c⟩,r⟩:=x; exact ⟨mA,⟨od,es,ep,k _ _ (.inl rfl) e,c⟩,r⟩
 | rng lo hi=>obtain ⟨t,u,v,e⟩:=x; exact ⟨t,u,v,k _ _ (.inl rfl) e⟩
 | frz ob u ih=>obtain ⟨e,q⟩:=x; exact ⟨k _ _ (.inl rfl) e,ih q⟩
 | tbl ps=>
  have e:h.get? a=some { cls:=.none,data:=.fields ps }:=x
  show h'.get? a=some { cls:=.none,data:=.fields ps }
  exact k a _ (.inl rfl) e
 | met f y=>
  have e:h.get? a=some (PySem.W.methodObj (.ref f) (.ref y)):=x
  show h'.get? a=some (PySem.W.methodObj (.ref f) (.ref y))
  exact k a _ (.inl rfl) e
 | ext φ=>obtain ⟨p,⟨o,e⟩,st⟩:=x; exact ⟨st _ _ p fun o q=>k _ _ (.inl rfl) q,⟨o,k _ _ (.inl rfl) e⟩,st⟩
theorem HOk.lt (x:HOk P w H h) (e:H a=some o):a < h.objs.size:=(x a o e).lt
theorem HOk.fresh (x:HOk P w H h) (e:h.objs.size≤a):H a=none:=by
 cases q:H a with
 | none=>rfl
 | some u=>exact absurd (Nat.lt_of_lt_of_le (x.lt q) e) (Nat.lt_irrefl _)
theorem HOk.kept (x:HOk P w H h) (k:∀ b u,h.get? b=some u→h'.get? b=some u):HOk P w H h':=fun a o e=>
 (x a o e).stay (fun b u _ q=>k b u q) (fun _ q=>q) fun _ _ q=>q
theorem HOk.laid (x:HOk P w H h) (k:∀ b u,h.get? b=some u→h'.get? b=some u) (hp:h.objs.size≤a) (new:ObjOk P w (upd H a o) h' a o):HOk P w (upd H a o) h':=fun b u e=>by
 have hn:=x.fresh hp
 by_cases hb:b=a
 ·subst hb; rw [upd_same] at e; cases e; exact new
 ·rw [upd_ne hb] at e
  exact (x b u e).stay (fun c v _ q=>k c v q) (fun c q=>by rw [upd_ne (ne_of_none q hn)]; exact q) fun c xs q=>by rw [upd_ne (ne_of_none q hn)]; exact q
end
def Rd (H:Hp) (a:Addr) (u:HO):Prop:=H a=some u∨∃ o,H a=some (.frz o u)
theorem Rd.ok {P:Program} {w:World} {H:Hp} {h:Heap} {a:Addr} {u:HO} (r:Rd H a u) (x:HOk P w H h):ObjOk P w H h a u:=by
 rcases r with r | ⟨o,r⟩
 ·exact x a u r
 ·obtain ⟨_,q⟩:=x a _ r
  exact q
def Mut:Option HO→Prop
 | some (.lst _)=>True
 | some (.dK _)=>True
 | some (.dT _)=>True
 | some (.set _ _)=>True
 | some (.ins _ _ _)=>True
 | some (.ext _)=>True
 | _=>False
section
variable {P:Program} {w:World} {H:Hp} {h h':Heap} {x e:Addr} {o':HO}
theorem HOk.write (ok:HOk P w H h) (mu:Mut (H x)) (he:e=x∨H e=some (.own x)) (k:∀ b u,b≠e→h.get? b=some u→h'.get? b=some u) (heo:∃ u,h'.get? e=some u)
  (new:ObjOk P w (upd H x o') h' x o'):HOk P w (upd H x o') h':=fun b u q=>by
 have nown:∀ c y,H c=some (.own y)→c≠x:=fun c y r z=>by subst z; rw [r] at mu; exact mu
 have ntup:∀ c xs,H c=some (.tup xs)→c≠x:=fun c xs r z=>by subst z; rw [r] at mu; exact mu
 by_cases hb:b=x
 ·subst hb; rw [upd_same] at q; cases q; exact new
 ·rw [upd_ne hb] at q
  by_cases hbe:b=e
  ·have q':H b=some (.own x):=by
    rcases he with z | z
    ·exact absurd (hbe.trans z) hb
    ·rw [hbe]; exact z
   rw [q] at q'; cases q'
   obtain ⟨v,hv⟩:=heo
   exact ⟨v,by rw [hbe]; exact hv⟩
  ·refine (ok b u q).stay (fun c v hc r=>k c v ?_ r) (fun c r=>by rw [upd_ne (nown c b r)]; exact r) fun c xs r=>by rw [upd_ne (ntup c xs r)]; exact r
   rcases hc with rfl | hc
   ·exact hbe
   ·rintro rfl
    rcases he with z | z
    ·exact nown c b hc z
    ·rw [hc] at z; cases z; exact hb rfl
end
structure Un (fs ex:List Addr) (H H':Hp) (h h':Heap):Prop where
 keep:∀ b o,h.get? b=some o→H b=none→b∉fs→b∉ex→h'.get? b=some o
 slot:∀ b o,h.get? b=some o→H b=none→b∈fs→b∉ex→∃ sl,h'.get? b=some { o with slots:=sl }
 free:∀ b o,h.get? b=some o→H b=none→b∉ex→H' b=none
 there:∀ b o,h.get? b=some o→b∉ex→∃ o',h'.get? b=some o'
 tups:∀ b xs,H b=some (.tup xs)→H' b=some (.tup xs)
 frzs:∀ b o u,H b=some (.frz o u)→H' b=some (.frz o u)
 tbls:∀ b ps,H b=some (.tbl ps)→∃ more,H' b=some (.tbl (ps++more))
section
variable {fs fs' ex ex':List Addr} {H H1 H2:Hp} {h h1 h2 h':Heap} {a x e:Addr} {o:HO}
theorem Un.any (u:Un fs ex H H1 h h1) {b:Addr} {ob:Obj} (q:h.get? b=some ob) (n:H b=none) (hx:b∉ex):∃ sl,h1.get? b=some { ob with slots:=sl }:=by
 by_cases hb:b∈fs
 ·exact u.slot b ob q n hb hx
 ·exact ⟨ob.slots,u.keep b ob q n hb hx⟩
theorem Un.kept (k:∀ b u,h.get? b=some u→h'.get? b=some u):Un fs ex H H h h':=
 ⟨fun b ob q _ _ _=>k b ob q,fun b ob q _ _ _=>⟨ob.slots,k b ob q⟩,fun _ _ _ n _=>n,fun b ob q _=>⟨ob,k b ob q⟩,fun _ _ q=>q,fun _ _ _ q=>q,fun _ ps q=>⟨#[],by rw [q]; simp⟩⟩
theorem Un.refl:Un fs ex H H h h:=Un.kept fun _ _ q=>q
theorem Un.laid (k:∀ b u,h.get? b=some u→h'.get? b=some u) (hp:h.objs.size≤a) (hn:H a=none):Un fs ex H (upd H a o) h h' where
 keep:=fun b u q _ _ _=>k b u q
 slot:=fun b u q _ _ _=>⟨u.slots,k b u q⟩
 free:=fun b u q n _=>by rw [upd_ne (Nat.ne_of_lt (Nat.lt_of_lt_of_le (Heap.lt_size q) hp))]; exact n
 there:=fun b u q _=>⟨u,k b u q⟩
 tups:=fun b xs q=>by rw [upd_ne (ne_of_none q hn)]; exact q
 frzs:=fun b u xs q=>by rw [upd_ne (ne_of_none q hn)]; exact q
 tbls:=fun b ps q=>⟨#[],by rw [upd_ne (ne_of_none q hn),q]; simp⟩
theorem Un.write (mu:Mut (H x)) (he:e=x∨H e=some (.own x)) (k:∀ b u,b≠e→h.get? b=some u→h'.get? b=some u) (heo:∃ u,h'.get? e=some u):Un fs ex H (upd H x o) h h':=by
 have hx:∀ b,H b=none→b≠x:=fun b n z=>by subst z; rw [n] at mu; exact mu
 have hb:∀ b,H b=none→b≠e:=fun b n z=>by
  subst z
  rcases he with r | r
  ·exact hx b n r
  ·rw [n] at r; cases r
 have hm:∀ b u,H b=some u→¬ Mut (some u)→b≠x:=fun b u q nm z=>by subst z; rw [q] at mu; exact nm mu
 refine ⟨fun b u q n _ _=>k b u (hb b n) q,fun b u q n _ _=>⟨u.slots,k b u (hb b n) q⟩,fun b u q n _=>by rw [upd_ne (hx b n)]; exact n,fun b u q _=>?_,
  fun b xs q=>by rw [upd_ne (hm b _ q fun z=>z)]; exact q,fun b u xs q=>by rw [upd_ne (hm b _ q fun z=>z)]; exact q,fun b ps q=>⟨#[],by rw [upd_ne (hm b _ q fun z=>z),q]; simp⟩⟩
 by_cases hbe:b=e
 ·subst hbe; exact heo
 ·exact ⟨u,k b u hbe q⟩
end
def trk (h:Heap) (H:Hp):List Addr:=(List.range h.objs.size).filter fun a=>(H a).isSome
def hidT (h:Heap) (H:Hp):Heap:=PySem.W.hideAll h (trk h H)
theorem hidT_size (h:Heap) (H:Hp):(hidT h H).objs.size=h.objs.size:=PySem.W.hideAll_size _ _
theorem hidT_get {h:Heap} {H:Hp} {b:Addr} {o:Obj} (e:h.get? b=some o) (n:H b=none):(hidT h H).get? b=some o:=
 PySem.W.hideAll_get _ e fun hm=>by
  have q:(H b).isSome=true:=(List.mem_filter.mp hm).2
  rw [n] at q; simp at q
theorem of_hidT {h:Heap} {H:Hp} {b:Addr} {o:Obj} (e:(hidT h H).get? b=some o):h.get? b=some o∧H b=none:=by
 have e':h.get? b=some o:=PySem.W.of_hideAll (trk h H) e
 refine ⟨e',?_⟩
 cases q:H b with
 | none=>rfl
 | some x=>
  have hm:b∈trk h H:=List.mem_filter.mpr ⟨List.mem_range.mpr (Heap.lt_size e'),by simp [q]⟩
  have z:(hidT h H).get? b=none:=PySem.W.hideAll_none (trk h H) hm
  rw [z] at e; cases e
end L2
namespace L2
open PySem PySem.Spec PyProof.Rows
structure Mod (K:PySem.W.Frag) (mg:Str→Option Value) (base:Heap):Prop where
 kin:K.In base
 glob:base.Ns mainGlobals mg
 blt:∃ mb,base.Ns builtinsNs mb∧∀ x:Str,x≠"__name__"→mb x=bootBuiltins x
 nolimit:base.NoLimit
structure Cx where
 prog:Program
 w:World
 K:PySem.W.Frag
 mg:Str→Option Value
 base:Heap
 A:Around
 N:List Str
 s₀:Shared
 H₀:Hp
 env:Env
 outer:List Env
 stack:List Env
 ex:List Addr
 fn:Str→Bool
 calm:Bool
 pn:List (Addr×Obj)
 xe:Value→Shared→Prop
def frs (l:List Env):List Addr:=l.filterMap (·.frame)
abbrev Cx.fs (X:Cx):List Addr:=frs X.outer
def Vis (sc:Scope) (x:Str):Prop:=sc.names.lookup x=some .local∨sc.names.lookup x=some .cell∨sc.names.lookup x=some .free
def Loc (sc:Scope) (x:Str):Prop:=sc.names.lookup x=some .local∨sc.names.lookup x=some .cell
def Look (env:Env) (h:Heap) (m:Str→Option Value) (x:Str) (u:Value):Prop:=
 (env.kindOf x=some .local∧m x=some u)∨((env.kindOf x=some .cell∨env.kindOf x=some .free)∧∃ c,env.cells.lookup x=some c∧h.IsCell c (some u))
structure Cx.Ok (X:Cx):Prop where
 mod:Mod X.K X.mg X.base
 kind:X.env.scope.kind=.function
 glob:X.env.globals=mainGlobals
 blt:X.env.builtins=builtinsNs
 above:X.s₀.heap.objs.size≤X.env.locals
 inj:∀ x y c,X.env.cells.lookup x=some c→X.env.cells.lookup y=some c→x=y
 has:∀ x,(X.env.kindOf x=some .cell∨X.env.kindOf x=some .free)→∃ c,X.env.cells.lookup x=some c
 cab:∀ x c,X.fn x=true→X.env.cells.lookup x=some c→X.s₀.heap.objs.size≤c
 hd:X.calm=true→X.A.handled=none
 frames:X.A.frames=some X.stack
 stk:X.stack=X.outer∨(X.stack=X.env::X.outer∧X.env.frame=some X.env.locals)
 exf:∀ b∈X.ex,b≠X.env.locals∧∀ x c,X.env.cells.lookup x=some c→c≠b
 bs:∀ b o,X.base.get? b=some o→X.s₀.heap.get? b=some o∧X.H₀ b=none
 bsz:X.base.objs.size≤X.s₀.heap.objs.size
 noex:∀ b o,X.base.get? b=some o→b∉X.ex
 exfs:∀ b∈X.ex,b∉X.fs
 funs:X.s₀.heap.FunFrames X.base X.outer
 frf:∀ b∈X.fs,X.H₀ b=none
structure Inv (X:Cx) (pins:List (Addr×Obj)) (σ:List (Option V)) (H:Hp) (s:Shared):Prop where
 ok:X.Ok
 os:s.os=X.s₀.os
 bare:AllBare s.gens
 base:Un X.fs X.ex X.H₀ H X.s₀.heap s.heap
 loc:∃ m,s.heap.Ns X.env.locals m∧∀ (i:Nat) (x:Str) (v:V),X.N[i]?=some x→σ[i]?=some (some v)→Vis X.env.scope x→∃ u,RelV v u∧Look X.env s.heap m x u
 cell:∀ x c,X.env.cells.lookup x=some c→∃ v,s.heap.IsCell c v
 free:H X.env.locals=none
 freeC:∀ x c,X.env.cells.lookup x=some c→H c=none
 pin:∀ p∈X.pn++pins,s.heap.get? p.1=some p.2∧H p.1=none∧p.1≠X.env.locals∧p.1∉X.fs∧∀ v,p.2.data≠.cell v
 hok:HOk X.prog X.w H s.heap
 len:σ.length=X.N.length
section
variable {X:Cx} {pins:List (Addr×Obj)} {σ:List (Option V)} {H H':Hp} {s:Shared} {h':Heap}
theorem Cx.Ok.nofr (ok:X.Ok) {b:Addr} {o:Obj} (e:X.base.get? b=some o):b∉X.fs:=fun hb=>by
 have:=(ok.funs.mem hb).1
 rw [e] at this; cases this
theorem Inv.bs (I:Inv X pins σ H s):∀ b o,X.base.get? b=some o→s.heap.get? b=some o∧H b=none:=fun b o e=>
 ⟨I.base.keep b o (I.ok.bs b o e).1 (I.ok.bs b o e).2 (I.ok.nofr e) (I.ok.noex b o e),I.base.free b o (I.ok.bs b o e).1 (I.ok.bs b o e).2 (I.ok.noex b o e)⟩
theorem Inv.bk (I:Inv X pins σ H s):∀ b o,X.base.get? b=some o→s.heap.get? b=some o:=fun b o e=>(I.bs b o e).1
theorem Inv.mod (I:Inv X pins σ H s):Mod X.K X.mg X.base:=I.ok.mod
theorem Inv.kIn (I:Inv X pins σ H s):X.K.In s.heap:=I.ok.mod.kin.keeps I.bk
theorem Inv.lt (I:Inv X pins σ H s):X.env.locals < s.heap.objs.size:=let ⟨_,hn,_⟩:=I.loc; hn.lt
theorem Inv.sz (I:Inv X pins σ H s):X.s₀.heap.objs.size≤s.heap.objs.size:=Nat.le_trans I.ok.above (Nat.le_of_lt I.lt)
theorem Inv.nofs (I:Inv X pins σ H s) {a:Addr} (h:s.heap.objs.size≤a):a∉X.fs:=fun hb=>by
 obtain ⟨_,o,ho,_⟩:=I.ok.funs.mem hb
 exact absurd (Nat.lt_of_lt_of_le (Heap.lt_size ho) (Nat.le_trans I.sz h)) (Nat.lt_irrefl _)
theorem Inv.cne (I:Inv X pins σ H s):∀ x c,X.env.cells.lookup x=some c→c≠X.env.locals:=fun x c e z=>by
 obtain ⟨v,o,ho,hd⟩:=I.cell x c e
 obtain ⟨m,⟨o',es,ep,ho',hd',_⟩,_⟩:=I.loc
 rw [z,ho'] at ho; cases ho; rw [hd'] at hd; cases hd
theorem Inv.funs (I:Inv X pins σ H s):s.heap.FunFrames X.base X.outer:=by
 have all:∀ (l:List Env),(∀ b∈frs l,b∈X.fs)→X.s₀.heap.FunFrames X.base l→s.heap.FunFrames X.base l:=by
  intro l
  induction l with
  | nil=>intro _ _; trivial
  | cons env r ih=>
   intro hs hl
   obtain ⟨hk,⟨L,o,hf,hn,ho,hd⟩,hr⟩:=hl
   have hL:L∈X.fs:=hs L (by unfold frs; rw [List.filterMap_cons,hf]; exact List.mem_cons_self)
   obtain ⟨sl,e⟩:=I.base.slot L o ho (I.ok.frf L hL) hL fun z=>I.ok.exfs L z hL
   exact ⟨hk,⟨L,_,hf,hn,e,hd⟩,ih (fun b hb=>hs b (by unfold frs; rw [List.filterMap_cons,hf]; exact List.mem_cons_of_mem _ hb)) hr⟩
 exact all X.outer (fun _ hb=>hb) I.ok.funs
theorem Inv.stack (I:Inv X pins σ H s):s.heap.FunFrames X.base X.stack:=by
 rcases I.ok.stk with e | ⟨e,hf⟩
 ·rw [e]; exact I.funs
 ·rw [e]
  obtain ⟨m,hn,_⟩:=I.loc
  refine .cons (by rw [I.ok.kind]; decide) hf hn ?_ I.funs
  exact Heap.get?_none_of_le (Nat.le_trans I.ok.bsz I.ok.above)
theorem Inv.stkSub (I:Inv X pins σ H s):∀ b∈frs X.stack,b∈X.env.locals::X.fs:=fun b hb=>by
 rcases I.ok.stk with e | ⟨e,hf⟩
 ·rw [e] at hb; exact List.mem_cons_of_mem _ hb
 ·rw [e] at hb
  unfold frs at hb
  rw [List.filterMap_cons,hf] at hb
  exact hb
theorem Inv.stkFree (I:Inv X pins σ H s):∀ b∈frs X.stack,H b=none:=fun b hb=>by
 rcases List.mem_cons.mp (I.stkSub b hb) with e | hb
 ·rw [e]; exact I.free
 ·obtain ⟨_,o,ho,_⟩:=I.ok.funs.mem hb
  exact I.base.free b o ho (I.ok.frf b hb) fun z=>I.ok.exfs b z hb
theorem Inv.step {g':Array GenState} {t':Nat} {d':Drawn} {ch:List Addr} (I:Inv X pins σ H s)
  (hch:∀ b∈ch,(b∈X.ex∨X.s₀.heap.objs.size≤b)∧b≠X.env.locals∧(∀ x c,X.env.cells.lookup x=some c→c≠b)∧∀ p∈X.pn++pins,p.1≠b)
  (keep:∀ b o,b≠X.env.locals→b∉X.fs→b∉ch→s.heap.get? b=some o→H b=none→h'.get? b=some o)
  (slot:∀ b o,b≠X.env.locals→b∈X.fs→b∉ch→s.heap.get? b=some o→H b=none→∃ sl,h'.get? b=some { o with slots:=sl }) (free:∀ b o,b∉ch→s.heap.get? b=some o→H b=none→H' b=none)
  (there:∀ b o,b∉ch→s.heap.get? b=some o→∃ o',h'.get? b=some o')
  (tups:∀ b xs,H b=some (.tup xs)→H' b=some (.tup xs)) (frzs:∀ b o u,H b=some (.frz o u)→H' b=some (.frz o u)) (tbls:∀ b ps,H b=some (.tbl ps)→∃ more,H' b=some (.tbl (ps++more)))
  (ns:∀ m,s.heap.Ns X.env.locals m→h'.Ns X.env.locals m) (hok:HOk X.prog X.w H' h') (hg:AllBare g') :
  Inv X pins σ H' { s with heap:=h',gens:=g',drawn:=d',toks:=t' }:=by
 have neL:∀ b o,X.s₀.heap.get? b=some o→b≠X.env.locals:=fun b o e=>Nat.ne_of_lt (Nat.lt_of_lt_of_le (Heap.lt_size e) I.ok.above)
 have neC:∀ b o,X.s₀.heap.get? b=some o→b∉X.ex→b∉ch:=fun b o e hx hb=>by
  rcases (hch b hb).1 with z | z
  ·exact hx z
  ·exact absurd (Nat.lt_of_lt_of_le (Heap.lt_size e) z) (Nat.lt_irrefl _)
 have cellK:∀ x c,X.env.cells.lookup x=some c→∀ v,s.heap.IsCell c v→h'.IsCell c v:=fun x c e v ⟨o,ho,hd⟩=>by
  have nch:c∉ch:=fun z=>(hch c z).2.2.1 x c e rfl
  by_cases hc:c∈X.fs
  ·obtain ⟨sl,q⟩:=slot c o (I.cne x c e) hc nch ho (I.freeC x c e)
   exact ⟨_,q,hd⟩
  ·exact ⟨o,keep c o (I.cne x c e) hc nch ho (I.freeC x c e),hd⟩
 refine ⟨I.ok,I.os,hg,⟨fun b o e n hb hx=>?_,fun b o e n hb hx=>?_,fun b o e n hx=>?_,fun b o e hx=>?_,fun b xs e=>tups b xs (I.base.tups b xs e),fun b o xs e=>frzs b o xs (I.base.frzs b o xs e),fun b ps e=>?_⟩,?_,fun x c e=>?_,?_,fun x c e=>?_,fun p hp=>?_,hok,I.len⟩
 ·exact keep b o (neL b o e) hb (neC b o e hx) (I.base.keep b o e n hb hx) (I.base.free b o e n hx)
 ·obtain ⟨sl,e1⟩:=I.base.slot b o e n hb hx
  obtain ⟨sl',e2⟩:=slot b _ (neL b o e) hb (neC b o e hx) e1 (I.base.free b o e n hx)
  exact ⟨sl',e2⟩
 ·obtain ⟨o',e1⟩:=I.base.there b o e hx
  exact free b o' (neC b o e hx) e1 (I.base.free b o e n hx)
 ·obtain ⟨o',e1⟩:=I.base.there b o e hx
  exact there b o' (neC b o e hx) e1
 ·obtain ⟨m1,e1⟩:=I.base.tbls b ps e
  obtain ⟨m2,e2⟩:=tbls b _ e1
  exact ⟨m1++m2,by rw [e2,Array.append_assoc]⟩
 ·obtain ⟨m,hn,hl⟩:=I.loc
  refine ⟨m,ns m hn,fun i x v e1 e2 e3=>?_⟩
  obtain ⟨u,r,l⟩:=hl i x v e1 e2 e3
  refine ⟨u,r,?_⟩
  rcases l with l | ⟨k,c,e,z⟩
  ·exact .inl l
  ·exact .inr ⟨k,c,e,cellK x c e _ z⟩
 ·obtain ⟨v,z⟩:=I.cell x c e
  exact ⟨v,cellK x c e v z⟩
 ·obtain ⟨m,⟨o,_,_,ho,_⟩,_⟩:=I.loc
  exact free _ o (fun z=>(hch _ z).2.1 rfl) ho I.free
 ·obtain ⟨v,o,ho,hd⟩:=I.cell x c e
  exact free c o (fun z=>(hch c z).2.2.1 x c e rfl) ho (I.freeC x c e)
 ·obtain ⟨e,n,ne,nf,d⟩:=I.pin p hp
  have nch:p.1∉ch:=fun z=>(hch p.1 z).2.2.2 p hp rfl
  exact ⟨keep p.1 p.2 ne nf nch e n,free p.1 p.2 nch e n,ne,nf,d⟩
theorem Inv.un {t':Nat} (I:Inv X pins σ H s) (u:Un X.fs [] H H' s.heap h') (hok:HOk X.prog X.w H' h'):Inv X pins σ H' { s with heap:=h',toks:=t' }:=by
 obtain ⟨m,⟨o,es,ep,ho,r⟩,_⟩:=id I.loc
 obtain ⟨sl,hL⟩:=u.any ho I.free (by simp)
 exact I.step (g':=s.gens) (d':=s.drawn) (ch:=[]) (fun _ z=>nomatch z) (fun b o _ hb _ e n=>u.keep b o e n hb (by simp)) (fun b o _ hb _ e n=>u.slot b o e n hb (by simp)) (fun b o _ e n=>u.free b o e n (by simp)) (fun b o _ e=>u.there b o e (by simp)) u.tups u.frzs u.tbls (fun m' hm=>by
  obtain ⟨o',es',ep',ho',r'⟩:=hm
  rw [ho] at ho'; cases ho'
  exact ⟨_,es',ep',hL,r'⟩) hok I.bare
theorem Inv.call {g':Array GenState} {t':Nat} {d':Drawn} {ch:List Addr} (I:Inv X pins σ H s) (u:Un (frs X.stack) ch H H' s.heap h') (hok:HOk X.prog X.w H' h') (hg:AllBare g')
  (hch:∀ b∈ch,(b∈X.ex∨X.s₀.heap.objs.size≤b)∧b≠X.env.locals∧(∀ x c,X.env.cells.lookup x=some c→c≠b)∧∀ p∈X.pn++pins,p.1≠b) :
  Inv X pins σ H' { s with heap:=h',gens:=g',drawn:=d',toks:=t' }:=by
 obtain ⟨m,⟨o,es,ep,ho,r⟩,_⟩:=id I.loc
 obtain ⟨sl,hL⟩:=u.any ho I.free fun z=>(hch _ z).2.1 rfl
 exact I.step (ch:=ch) hch (fun b o hL hb hc e n=>u.keep b o e n (fun z=>(List.mem_cons.mp (I.stkSub b z)).elim hL hb) hc) (fun b o _ _ hc e n=>u.any e n hc) (fun b o hc e n=>u.free b o e n hc) (fun b o hc e=>u.there b o e hc) u.tups u.frzs u.tbls (fun m' hm=>by
  obtain ⟨o',es',ep',ho',r'⟩:=hm
  rw [ho] at ho'; cases ho'
  exact ⟨_,es',ep',hL,r'⟩) hok hg
theorem Inv.turned {t':Nat} {it:Addr} (I:Inv X pins σ H s) (k:∀ b o,b≠it→s.heap.get? b=some o→h'.get? b=some o) (hn:H it=none) (hL:it≠X.env.locals)
  (h1:it∈X.ex∨X.s₀.heap.objs.size≤it) (h2:∀ x c,X.env.cells.lookup x=some c→c≠it) (h3:∀ p∈X.pn++pins,p.1≠it):Inv X pins σ H { s with heap:=h',toks:=t' }:=by
 have nit:∀ b u,H b=some u→b≠it:=fun b u e z=>by rw [z,hn] at e; cases e
 refine I.step (g':=s.gens) (d':=s.drawn) (ch:=[it]) (fun b hb=>?_) (fun b o _ _ hc e _=>k b o (fun z=>hc (by simp [z])) e) (fun b o _ _ hc e _=>⟨o.slots,k b o (fun z=>hc (by simp [z])) e⟩) (fun _ _ _ _ n=>n)
  (fun b o hc e=>⟨o,k b o (fun z=>hc (by simp [z])) e⟩) (fun _ _ e=>e) (fun _ _ _ e=>e) (fun b ps e=>⟨#[],by rw [e]; simp⟩) (fun m hm=>?_) (fun b u e=>?_) I.bare
 ·have e:b=it:=by simpa using hb
  subst e
  exact ⟨h1,hL,h2,h3⟩
 ·obtain ⟨o,es,ep,ho,r⟩:=hm
  exact ⟨o,es,ep,k _ o (Ne.symm hL) ho,r⟩
 ·refine (I.hok b u e).stay (fun c v hc q=>k c v ?_ q) (fun _ q=>q) fun _ _ q=>q
  rcases hc with z | z
  ·rw [z]; exact nit b u e
  ·exact nit c _ z
theorem Inv.tok (I:Inv X pins σ H s) (t:Nat):Inv X pins σ H { s with toks:=t }:=I.un (h':=s.heap) (t':=t) Un.refl I.hok
theorem Inv.kept {t':Nat} (I:Inv X pins σ H s) (k:∀ b u,s.heap.get? b=some u→h'.get? b=some u):Inv X pins σ H { s with heap:=h',toks:=t' }:=I.un (Un.kept k) (I.hok.kept k)
theorem Inv.laid {a:Addr} {o:HO} {t':Nat} (I:Inv X pins σ H s) (k:∀ b u,s.heap.get? b=some u→h'.get? b=some u) (hp:s.heap.objs.size≤a) (new:ObjOk X.prog X.w (upd H a o) h' a o) :
  Inv X pins σ (upd H a o) { s with heap:=h',toks:=t' }:=I.un (Un.laid k hp (I.hok.fresh hp)) (I.hok.laid k hp new)
theorem Inv.write {x e:Addr} {o:HO} {t':Nat} (I:Inv X pins σ H s) (mu:Mut (H x)) (he:e=x∨H e=some (.own x)) (k:∀ b u,b≠e→s.heap.get? b=some u→h'.get? b=some u) (heo:∃ u,h'.get? e=some u)
  (new:ObjOk X.prog X.w (upd H x o) h' x o):Inv X pins σ (upd H x o) { s with heap:=h',toks:=t' }:=I.un (Un.write mu he k heo) (I.hok.write mu he k heo new)
theorem Inv.weak {σ':List (Option V)} (I:Inv X pins σ H s) (hl:σ'.length=σ.length) (w:∀ (i:Nat) v,σ'[i]?=some (some v)→σ[i]?=some (some v)):Inv X pins σ' H s:=
 ⟨I.ok,I.os,I.bare,I.base,let ⟨m,hn,hl'⟩:=I.loc; ⟨m,hn,fun i x v e1 e2 e3=>hl' i x v e1 (w i v e2) e3⟩,I.cell,I.free,I.freeC,I.pin,I.hok,hl.trans I.len⟩
theorem Inv.pins_of {pins':List (Addr×Obj)} (I:Inv X pins σ H s) (h:∀ p∈pins',s.heap.get? p.1=some p.2∧H p.1=none∧p.1≠X.env.locals∧p.1∉X.fs∧∀ v,p.2.data≠.cell v):Inv X pins' σ H s:=
 ⟨I.ok,I.os,I.bare,I.base,I.loc,I.cell,I.free,I.freeC,fun p hp=>(List.mem_append.mp hp).elim (fun z=>I.pin p (List.mem_append_left _ z)) (h p),I.hok,I.len⟩
theorem nodup_ix {N:List Str} (hN:N.Nodup) {i j:Nat} {x:Str} (a:N[i]?=some x) (b:N[j]?=some x):i=j:=by
 obtain ⟨h1,e1⟩:=List.getElem?_eq_some_iff.mp a
 obtain ⟨h2,e2⟩:=List.getElem?_eq_some_iff.mp b
 exact (List.getElem_inj hN).mp (e1.trans e2.symm)
theorem store_ok2 {M:Model} {A:Around} {E:Value→Shared→Prop} {i:Nat} {x:Str} {v:V} {u:Value} {Q:Unit→Shared→Prop} (I:Inv X pins σ H s) (hN:X.N.Nodup) (hi:X.N[i]?=some x) (hx:Loc X.env.scope x) (r:RelV v u)
  (h:∀ s',Inv X pins (σ.set i (some v)) H s'→(∃ a,Heap.SameBut a s.heap s'.heap∧(a=X.env.locals∨X.env.cells.lookup x=some a))→Q () s') (hf:X.fn x=true∨X.env.scope.names.lookup x=some .local:=by first | exact .inl rfl | exact .inr rfl | assumption):wpAny M A (storeName X.env x u) Q E s:=by
 obtain ⟨m,hn,hl⟩:=id I.loc
 have hcls:(X.env.scope.kind == .class || (X.env.scope.kind == .module && X.env.locals != X.env.globals))=false:=by rw [I.ok.kind]; rfl
 have hiσ:i < σ.length:=by rw [I.len]; exact (List.getElem?_eq_some_iff.mp hi).1
 have cne:=I.cne
 have tracked:∀ {a:Addr} {h':Heap},(∃ o,s.heap.get? a=some o∧H a=none)→Heap.SameBut a s.heap h'→HOk X.prog X.w H h':=fun {a h'} ha hs b ob e=>by
  obtain ⟨_,_,hfree⟩:=ha
  refine (I.hok b ob e).stay (fun c w' hc q=>(hs.2 c ?_).trans q) (fun _ q=>q) fun _ _ q=>q
  rintro rfl
  rcases hc with rfl | hc
  ·rw [hfree] at e; cases e
  ·rw [hfree] at hc; cases hc
 rcases hx with hk | hk
 ·refine wpAny_storeName_local hk hn (fun h' hn' hs=>?_) hcls
  obtain ⟨oL,_,_,hoL,_⟩:=id hn
  refine h _ ⟨I.ok,I.os,I.bare,⟨fun b o e n hb hx=>?_,fun b o e n hb hx=>?_,I.base.free,fun b o e hx=>?_,I.base.tups,I.base.frzs,I.base.tbls⟩,⟨_,hn',fun j y v' e1 e2 e3=>?_⟩,fun y c e=>?_,I.free,I.freeC,fun p hp=>?_,tracked ⟨oL,hoL,I.free⟩ hs,by simpa using I.len⟩ ⟨_,hs,.inl rfl⟩
  ·exact (hs.2 b (Nat.ne_of_lt (Nat.lt_of_lt_of_le (Heap.lt_size e) I.ok.above))).trans (I.base.keep b o e n hb hx)
  ·obtain ⟨sl,e1⟩:=I.base.slot b o e n hb hx
   exact ⟨sl,(hs.2 b (Nat.ne_of_lt (Nat.lt_of_lt_of_le (Heap.lt_size e) I.ok.above))).trans e1⟩
  ·obtain ⟨o',e1⟩:=I.base.there b o e hx
   exact ⟨o',(hs.2 b (Nat.ne_of_lt (Nat.lt_of_lt_of_le (Heap.lt_size e) I.ok.above))).trans e1⟩
  ·by_cases hj:j=i
   ·subst hj
    rw [hi] at e1; cases e1
    rw [List.getElem?_set_self hiσ] at e2
    cases e2
    exact ⟨u,r,.inl ⟨hk,by simp⟩⟩
   ·rw [List.getElem?_set_ne (Ne.symm hj)] at e2
    obtain ⟨u',r',q⟩:=hl j y v' e1 e2 e3
    refine ⟨u',r',?_⟩
    rcases q with ⟨k,e⟩ | ⟨k,c,e,z⟩
    ·refine .inl ⟨k,?_⟩
     have:y≠x:=fun e=>hj (nodup_ix hN e1 (e▸hi))
     simp [this,e]
    ·exact .inr ⟨k,c,e,z.sameBut hs (cne y c e)⟩
  ·obtain ⟨w',z⟩:=I.cell y c e
   exact ⟨w',z.sameBut hs (cne y c e)⟩
  ·obtain ⟨e,n,ne,nf,d⟩:=I.pin p hp
   exact ⟨(hs.2 p.1 ne).trans e,n,ne,nf,d⟩
 ·have hfn:X.fn x=true:=by
   rcases hf with z | z
   ·exact z
   ·rw [z] at hk; cases hk
  obtain ⟨c,hc⟩:=I.ok.has x (.inl hk)
  obtain ⟨w',z⟩:=I.cell x c hc
  refine wpAny_storeName_cell I.ok.kind hk hc z (fun h' hc' hs=>?_)
  obtain ⟨oc,hoc,hocd⟩:=id z
  refine h { s with heap:=h' } ⟨I.ok,I.os,I.bare,⟨fun b o e n hb hx=>?_,fun b o e n hb hx=>?_,I.base.free,fun b o e hx=>?_,I.base.tups,I.base.frzs,I.base.tbls⟩,⟨m,hn.sameBut hs (Ne.symm (cne x c hc)),fun j y v' e1 e2 e3=>?_⟩,fun y c' e=>?_,I.free,I.freeC,fun p hp=>?_,tracked ⟨oc,hoc,I.freeC x c hc⟩ hs,by simpa using I.len⟩ ⟨c,hs,.inr hc⟩
  ·exact (hs.2 b (Nat.ne_of_lt (Nat.lt_of_lt_of_le (Heap.lt_size e) (I.ok.cab x c hfn hc)))).trans (I.base.keep b o e n hb hx)
  ·obtain ⟨sl,e1⟩:=I.base.slot b o e n hb hx
   exact ⟨sl,(hs.2 b (Nat.ne_of_lt (Nat.lt_of_lt_of_le (Heap.lt_size e) (I.ok.cab x c hfn hc)))).trans e1⟩
  ·obtain ⟨o',e1⟩:=I.base.there b o e hx
   exact ⟨o',(hs.2 b (Nat.ne_of_lt (Nat.lt_of_lt_of_le (Heap.lt_size e) (I.ok.cab x c hfn hc)))).trans e1⟩
  ·by_cases hj:j=i
   ·subst hj
    rw [hi] at e1; cases e1
    rw [List.getElem?_set_self hiσ] at e2
    cases e2
    exact ⟨u,r,.inr ⟨.inl hk,c,hc,hc'⟩⟩
   ·rw [List.getElem?_set_ne (Ne.symm hj)] at e2
    obtain ⟨u',r',q⟩:=hl j y v' e1 e2 e3
    refine ⟨u',r',?_⟩
    rcases q with q | ⟨k,c',e,z'⟩
    ·exact .inl q
    ·refine .inr ⟨k,c',e,z'.sameBut hs ?_⟩
     rintro rfl
     exact hj (nodup_ix hN e1 (I.ok.inj _ _ _ e hc▸hi))
  ·by_cases hcc:c'=c
   ·subst hcc; exact ⟨_,hc'⟩
   ·obtain ⟨w2,z2⟩:=I.cell y c' e
    exact ⟨w2,z2.sameBut hs hcc⟩
  ·obtain ⟨e,n,ne,nf,d⟩:=I.pin p hp
   refine ⟨(hs.2 p.1 ?_).trans e,n,ne,nf,d⟩
   intro q
   rw [q,hoc] at e
   have q':oc=p.2:=Option.some.inj e
   exact d w' (by rw [← q']; exact hocd)
theorem store_ok {M:Model} {A:Around} {E:Value→Shared→Prop} {i:Nat} {x:Str} {v:V} {u:Value} {Q:Unit→Shared→Prop} (I:Inv X pins σ H s) (hN:X.N.Nodup) (hi:X.N[i]?=some x) (hx:Loc X.env.scope x) (r:RelV v u)
  (h:∀ s',Inv X pins (σ.set i (some v)) H s'→Q () s') (hf:X.fn x=true∨X.env.scope.names.lookup x=some .local:=by first | exact .inl rfl | exact .inr rfl | assumption):wpAny M A (storeName X.env x u) Q E s:=
 store_ok2 I hN hi hx r (fun s' I' _=>h s' I') hf
theorem Inv.call' {s':Shared} {ch:List Addr} (I:Inv X pins σ H s) (ho:s'.os=s.os) (u:Un (frs X.stack) ch H H' s.heap s'.heap) (hok:HOk X.prog X.w H' s'.heap) (hg:AllBare s'.gens)
  (hch:∀ b∈ch,(b∈X.ex∨X.s₀.heap.objs.size≤b)∧b≠X.env.locals∧(∀ x c,X.env.cells.lookup x=some c→c≠b)∧∀ p∈X.pn++pins,p.1≠b):Inv X pins σ H' s':=by
 obtain ⟨h',g',d',t',o'⟩:=s'
 have e:o'=s.os:=ho
 subst e
 exact I.call (g':=g') (t':=t') (d':=d') u hok hg hch
end
abbrev XK:=Value→Option Addr→Hp→Prop
abbrev St:=List (Option V)
abbrev VK:=V→Hp→Prop
abbrev TE:=St→Hp→VK→Prop
abbrev TT:=St→Hp→(Bool→Hp→Prop)→Prop
abbrev TA:=St→Hp→(List V→Hp→Prop)→Prop
structure Ends where
 nx:St→Hp→Prop
 rt:VK
 bk:St→Hp→Prop:=fun _ _=>False
 ct:St→Hp→Prop:=fun _ _=>False
abbrev TS:=Ends→St→Hp→Prop
def EP (X:Cx) (pins:List (Addr×Obj)) (σ:St) (Q:VK) (u:Value) (s':Shared):Prop:=∃ v H',Inv X pins σ H' s'∧RelV v u∧Q v H'
def TP (X:Cx) (pins:List (Addr×Obj)) (σ:St) (Q:Bool→Hp→Prop) (b:Bool) (s':Shared):Prop:=∃ H',Inv X pins σ H' s'∧Q b H'
def AP (X:Cx) (pins:List (Addr×Obj)) (σ:St) (Q:List V→Hp→Prop) (us:List Value) (s':Shared):Prop:=∃ vs H',Inv X pins σ H' s'∧Vals vs us∧Q vs H'
def SP (X:Cx) (pins:List (Addr×Obj)) (D:Ends) (f:Flow) (s':Shared):Prop:=
 match f with
 | .next=>∃ σ' H',Inv X pins σ' H' s'∧D.nx σ' H'
 | .brk=>∃ σ' H',Inv X pins σ' H' s'∧D.bk σ' H'
 | .cont=>∃ σ' H',Inv X pins σ' H' s'∧D.ct σ' H'
 | .ret u=>∃ v σ' H',Inv X pins σ' H' s'∧RelV v u∧D.rt v H'
def PE (X:Cx) (e:Expr) (t:TE):Prop:=
 ∀ (pins:List (Addr×Obj)) (s:Shared) (σ:St) (H:Hp) (Q:VK),Inv X pins σ H s→t σ H Q→wpAny (model X.prog X.w) X.A (eval e X.env) (EP X pins σ Q) X.xe s
def PT (X:Cx) (e:Expr) (t:TT):Prop:=
 ∀ (pins:List (Addr×Obj)) (s:Shared) (σ:St) (H:Hp) (Q:Bool→Hp→Prop),Inv X pins σ H s→t σ H Q→wpAny (model X.prog X.w) X.A (isTrue e X.env (eval e X.env)) (TP X pins σ Q) X.xe s
def PW (X:Cx) (e:Expr) (t:TT):Prop:=
 ∀ (whole:Sem Value) (pins:List (Addr×Obj)) (s:Shared) (σ:St) (H:Hp) (Q:Bool→Hp→Prop),Inv X pins σ H s→t σ H Q→wpAny (model X.prog X.w) X.A (isTrue e X.env whole) (TP X pins σ Q) X.xe s
theorem PW.pt {X:Cx} {e:Expr} {t:TT} (h:PW X e t):PT X e t:=h _
def PA (X:Cx) (es:List Expr) (t:TA):Prop:=
 ∀ (pos:Pos) (pins:List (Addr×Obj)) (s:Shared) (σ:St) (H:Hp) (Q:List V→Hp→Prop),Inv X pins σ H s→t σ H Q→wpAny (model X.prog X.w) X.A (spliced (backTo pos (starEach es X.env))) (AP X pins σ Q) X.xe s
def PS (X:Cx) (st:Stmt) (t:TS):Prop:=
 ∀ (pins:List (Addr×Obj)) (s:Shared) (σ:St) (H:Hp) (D:Ends),Inv X pins σ H s→t D σ H→wpAny (model X.prog X.w) X.A (exec st X.env) (SP X pins D) X.xe s
def PSs (X:Cx) (st:List Stmt) (t:TS):Prop:=
 ∀ (pins:List (Addr×Obj)) (s:Shared) (σ:St) (H:Hp) (D:Ends),Inv X pins σ H s→t D σ H→wpAny (model X.prog X.w) X.A (execs st X.env) (SP X pins D) X.xe s
theorem thn {α:Type} {t:Sem α} {Q Q':α→Shared→Prop} {M:Model} {A:Around} {E:Value→Shared→Prop} {s:Shared} (h:wpAny M A t Q E s) (hQ:∀ a s,Q a s→Q' a s):wpAny M A t Q' E s:=wpAny_mono h hQ fun _ _ x=>x
end L2
namespace L2
open PySem PySem.Spec PyProof.Rows
section
variable {X:Cx}
def tVar (i:Nat):TE:=fun σ H Q=>∃ v,σ[i]?=some (some v)∧Q v H
def tC (v:V):TE:=fun _ H Q=>Q v H
theorem pe_var {i:Nat} {x:Str} {pos:Pos} (hN:X.N[i]?=some x) (hv:Vis X.env.scope x) (hd:(x == ("__debug__":Str))=false:=by decide) (hcd:(x == ("__classdict__":Str))=false:=by decide):PE X (.Name x pos) (tVar i):=by
 intro pins s σ H Q I h
 obtain ⟨v,e,h⟩:=h
 obtain ⟨m,hn,hl⟩:=I.loc
 obtain ⟨u,r,l⟩:=hl i x v hN e hv
 have fin:EP X pins σ Q u s:=⟨v,H,I,r,h⟩
 rcases l with ⟨hk,hm⟩ | ⟨hk,c,hc,hcell⟩
 ·exact wpAny_Name (wpAny_loadName_local I.ok.kind hk hn hm fin) hd
 ·rcases hk with hk | hk
  ·exact wpAny_Name (wpAny_loadName_cell I.ok.kind hk hc hcell fin) hd
  ·exact wpAny_Name (wpAny_loadName_free I.ok.kind hk hc hcell fin hcd) hd
theorem pe_int {i j pos}:PE X (.Constant (.int i) j pos) (tC (.int i)):=fun _ _ _ H _ I h=>wpAny_Constant_int ⟨.int i,H,I.tok _,⟨_,rfl⟩,h⟩
theorem pe_bl {b j pos}:PE X (.Constant (.bool b) j pos) (tC (.bl b)):=fun _ _ _ H _ I h=>Constant_bool ⟨.bl b,H,I,rfl,h⟩
theorem pe_non {j pos}:PE X (.Constant .none j pos) (tC .non):=fun _ _ _ H _ I h=>Constant_none ⟨.non,H,I,rfl,h⟩
theorem pe_str {x j pos}:PE X (.Constant (.str x) j pos) (tC (.str x)):=fun _ _ _ H _ I h=>Calls.Constant_str ⟨.str x,H,I.tok _,⟨_,rfl⟩,h⟩
def Gl (X:Cx) (x:Str):Prop:=X.env.kindOf x=some .globalImplicit
theorem ld_glob {E:Value→Shared→Prop} {pins:List (Addr×Obj)} {s:Shared} {σ:St} {H:Hp} {x:Str} {u:Value} {pos:Pos} {Q:Value→Shared→Prop} (I:Inv X pins σ H s) (hg:Gl X x) (hm:X.mg x=some u) (h:Q u s)
  (hd:(x == ("__debug__":Str))=false:=by decide):wpAny (model X.prog X.w) X.A (eval (.Name x pos) X.env) Q E s:=
 Calls.Name_function_global I.ok.kind hg (Calls.loadGlobal_global (by rw [I.ok.glob]; exact I.mod.glob.keeps I.bk) hm h) hd
theorem ld_blt {E:Value→Shared→Prop} {pins:List (Addr×Obj)} {s:Shared} {σ:St} {H:Hp} {x:Str} {u:Value} {pos:Pos} {Q:Value→Shared→Prop} (I:Inv X pins σ H s) (hg:Gl X x) (hm:X.mg x=none) (hv:bootBuiltins x=some u) (h:Q u s)
  (hn:x≠"__name__":=by decide) (hd:(x == ("__debug__":Str))=false:=by decide):wpAny (model X.prog X.w) X.A (eval (.Name x pos) X.env) Q E s:=by
 obtain ⟨mb,h1,h2⟩:=I.mod.blt
 exact Calls.Name_function_global I.ok.kind hg (Calls.loadGlobal_builtin (by rw [I.ok.glob]; exact I.mod.glob.keeps I.bk) hm (by rw [I.ok.blt]; exact h1.keeps I.bk) ((h2 x hn).trans hv) h) hd
theorem pe_glob {x:Str} {v:V} {u:Value} {pos:Pos} (hg:Gl X x) (hm:X.mg x=some u) (r:RelV v u) (hd:(x == ("__debug__":Str))=false:=by decide):PE X (.Name x pos) (tC v):=
 fun _ _ _ H _ I h=>ld_glob I hg hm ⟨v,H,I,r,h⟩ hd
theorem pe_bltn {x:Str} {v:V} {u:Value} {pos:Pos} (hg:Gl X x) (hm:X.mg x=none) (hv:bootBuiltins x=some u) (r:RelV v u) (hn:x≠"__name__":=by decide) (hd:(x == ("__debug__":Str))=false:=by decide):PE X (.Name x pos) (tC v):=
 fun _ _ _ H _ I h=>ld_blt I hg hm hv ⟨v,H,I,r,h⟩ hn hd
variable {a b:Expr} {ta tb:TE} {pos:Pos}
def tB (t:TE):TT:=fun σ H Q=>t σ H fun x H1=>∃ c,x=.bl c∧Q c H1
theorem pt_val {e:Expr} {t:TE} (h:PE X e t) (he:∀ whole,isTrue e X.env whole=(do let v ← whole; standAt e.pos; holding [v] (truthy v)):=by intro _; rfl):PT X e (tB t):=by
 intro pins s σ H Q I hw
 refine isTrue_plain (thn (h pins s σ H _ I hw) fun v s1 ⟨x,H1,I1,r1,q1⟩=>?_) (he _)
 obtain ⟨d,rfl,q⟩:=q1
 cases r1
 exact wpAny_truthy_bool ⟨H1,I1,q⟩
variable {tA tB':TT} {rest:List Expr}
def tAnd (t u:TT):TT:=fun σ H Q=>t σ H fun c H1=>if c=true then u σ H1 Q else Q false H1
def tOr (t u:TT):TT:=fun σ H Q=>t σ H fun c H1=>if c=true then Q true H1 else u σ H1 Q
def tNot (t:TT):TT:=fun σ H Q=>t σ H fun c H1=>Q (!c) H1
theorem pw_and1 (ha:PT X a tA):PW X (.BoolOp .And [a] pos) tA:=by
 intro wh pins s σ H Q I h
 refine isTrue_and (thn (ha pins s σ H Q I h) fun c s1 e=>?_)
 cases c with
 | true=>exact isTrue_and_nil e
 | false=>exact e
theorem pw_or1 (ha:PT X a tA):PW X (.BoolOp .Or [a] pos) tA:=by
 intro wh pins s σ H Q I h
 refine isTrue_or (thn (ha pins s σ H Q I h) fun c s1 e=>?_)
 cases c with
 | false=>exact isTrue_or_nil e
 | true=>exact e
theorem pw_and (ha:PT X a tA) (hb:PW X (.BoolOp .And (b::rest) pos) tB'):PW X (.BoolOp .And (a::b::rest) pos) (tAnd tA tB'):=by
 intro wh pins s σ H Q I h
 refine isTrue_and (thn (ha pins s σ H _ I h) fun c s1 ⟨H1,I1,q1⟩=>?_)
 cases c with
 | true=>exact hb wh pins s1 σ H1 Q I1 q1
 | false=>exact ⟨H1,I1,q1⟩
theorem pw_or (ha:PT X a tA) (hb:PW X (.BoolOp .Or (b::rest) pos) tB'):PW X (.BoolOp .Or (a::b::rest) pos) (tOr tA tB'):=by
 intro wh pins s σ H Q I h
 refine isTrue_or (thn (ha pins s σ H _ I h) fun c s1 ⟨H1,I1,q1⟩=>?_)
 cases c with
 | true=>exact ⟨H1,I1,q1⟩
 | false=>exact hb wh pins s1 σ H1 Q I1 q1
theorem pt_not (ha:PT X a tA):PT X (.UnaryOp .Not a pos) (tNot tA):=by
 intro pins s σ H Q I h
 exact isTrue_not (ha pins s σ H (fun c H1=>Q (!c) H1) I h)
def tAndV (ta tb:TE):TE:=fun σ H Q=>ta σ H fun x H1=>∃ c,x=.bl c∧if c=true then tb σ H1 Q else Q (.bl false) H1
def tNotV (ta:TE):TE:=fun σ H Q=>ta σ H fun x H1=>∃ c,x=.bl c∧Q (.bl (!c)) H1
theorem pe_one {op} {t:TE} (h:PE X a t):PE X (.BoolOp op [a] pos) t:=fun pins s σ H Q I hw=>BoolOp_one (h pins s σ H Q I hw)
theorem pe_and (ha:PE X a ta) (hb:PE X (.BoolOp .And (b::rest) pos) tb):PE X (.BoolOp .And (a::b::rest) pos) (tAndV ta tb):=by
 intro pins s σ H Q I h
 refine BoolOp_and (thn (ha pins s σ H _ I h) fun v s1 ⟨x,H1,I1,r1,q1⟩=>?_)
 obtain ⟨c,rfl,q1⟩:=q1
 cases r1
 refine wpAny_truthy_bool ?_
 cases c with
 | true=>exact hb pins s1 σ H1 Q I1 q1
 | false=>exact ⟨.bl false,H1,I1,rfl,q1⟩
theorem pe_not (ha:PE X a ta):PE X (.UnaryOp .Not a pos) (tNotV ta):=by
 intro pins s σ H Q I h
 refine UnaryOp_ (thn (ha pins s σ H _ I h) fun v s1 ⟨x,H1,I1,r1,q1⟩=>?_)
 obtain ⟨c,rfl,q1⟩:=q1
 cases r1
 exact not_of (wpAny_truthy_bool ⟨.bl (!c),H1,I1,rfl,q1⟩)
end
end L2
namespace L2
open PySem PySem.Spec PyProof.Rows
def SqL (K:PySem.W.Frag) (H:Hp) (a:Addr) (xs:List V):Prop:=
 Rd H a (.lst xs)∨
  ∃ (o:Obj) (its:Array Value) (n:Nat),K.lookup a=some o∧o.cls=.type "list"∧o.dict=none∧o.data=.seq its n∧its.size≤sizeLine∧Vals xs its.toList
def SqT (K:PySem.W.Frag) (H:Hp) (a:Addr) (xs:List V):Prop:=
 Rd H a (.tup xs)∨
  ∃ (o:Obj) (its:Array Value) (n:Nat),K.lookup a=some o∧o.cls=.type "tuple"∧o.data=.seq its n∧its.size≤sizeLine∧Vals xs its.toList
def absV:Value→Option V
 | .none=>some .non
 | .bool b=>some (.bl b)
 | .int i _=>some (.int i)
 | .str x _=>some (.str x)
 | .bytes b _=>some (.byt b)
 | .float b _=>some (.flt b)
 | .ref a=>some (.ref a)
 | .type n=>some (.ty n)
 | _=>none
theorem RelV.abs {x:V} {u:Value} (r:RelV x u):absV u=some x:=by
 cases x with
 | non=>cases r; rfl
 | bl _=>cases r; rfl
 | int _=>obtain ⟨t,rfl⟩:=r; rfl
 | str _=>obtain ⟨t,rfl⟩:=r; rfl
 | byt _=>obtain ⟨t,rfl⟩:=r; rfl
 | flt _=>obtain ⟨t,rfl⟩:=r; rfl
 | ref _=>cases r; rfl
 | ty _=>cases r; rfl
theorem RelV.inj {x y:V} {u:Value} (r:RelV x u) (q:RelV y u):x=y:=Option.some.inj (r.abs.symm.trans q.abs)
theorem Vals.inj:∀ {xs ys:List V} {us:List Value},Vals xs us→Vals ys us→xs=ys
 | _,_,_,.nil,.nil=>rfl
 | _,_,_,.cons r t,.cons r' t'=>by rw [r.inj r',Vals.inj t t']
section
variable {X:Cx} {pins:List (Addr×Obj)} {σ:St} {H:Hp} {s:Shared} {a:Addr} {xs ys:List V}
theorem SqL.of {K:PySem.W.Frag} (h:H a=some (.lst xs)):SqL K H a xs:=.inl (.inl h)
theorem SqT.of {K:PySem.W.Frag} (h:H a=some (.tup xs)):SqT K H a xs:=.inl (.inl h)
theorem Inv.list (I:Inv X pins σ H s) (h:SqL X.K H a xs):∃ its:List Value,Vals xs its∧PlainL s.heap a its.toArray∧xs.length≤sizeLine:=by
 rcases h with h | ⟨o,its,n,hk,hc,hd,hs,hz,r⟩
 ·obtain ⟨z,its,n,r,e⟩:=h.ok I.hok
  exact ⟨its,r,⟨_,n,e,rfl,rfl,rfl⟩,z⟩
 ·refine ⟨its.toList,r,⟨o,n,I.kIn a o hk,hc,hd,by simpa using hs⟩,?_⟩
  have e:=r.length
  simp only [Array.length_toList] at e
  omega
theorem Inv.tuple (I:Inv X pins σ H s) (h:SqT X.K H a xs):∃ its:List Value,Vals xs its∧IsTup s.heap a its.toArray∧xs.length≤sizeLine:=by
 rcases h with h | ⟨o,its,n,hk,hc,hs,hz,r⟩
 ·obtain ⟨z,its,r,p⟩:=h.ok I.hok
  exact ⟨its,r,p,z⟩
 ·refine ⟨its.toList,r,⟨o,I.kIn a o hk,hc,n,by simpa using hs⟩,?_⟩
  have e:=r.length
  simp only [Array.length_toList] at e
  omega
theorem Inv.list_inj (I:Inv X pins σ H s) (h:SqL X.K H a xs) (h':SqL X.K H a ys):xs=ys:=by
 obtain ⟨its,r,⟨o,n,e,_,_,d⟩,_⟩:=I.list h
 obtain ⟨its',r',⟨o',n',e',_,_,d'⟩,_⟩:=I.list h'
 rw [e] at e'; cases e'
 rw [d] at d'
 injection d' with d1 _
 have:its=its':=by simpa using congrArg Array.toList d1
 subst this
 exact r.inj r'
theorem Inv.tuple_inj (I:Inv X pins σ H s) (h:SqT X.K H a xs) (h':SqT X.K H a ys):xs=ys:=by
 obtain ⟨its,r,⟨o,e,_,n,d⟩,_⟩:=I.tuple h
 obtain ⟨its',r',⟨o',e',_,n',d'⟩,_⟩:=I.tuple h'
 rw [e] at e'; cases e'
 rw [d] at d'
 injection d' with d1 _
 have:its=its':=by simpa using congrArg Array.toList d1
 subst this
 exact r.inj r'
end
abbrev Cx.wish (X:Cx) (E:Value→Shared→Prop):Cx:={ X with xe:=E }
abbrev Cx.nox (X:Cx):Cx:=X.wish fun _ _=>False
theorem Cx.Ok.wish {X:Cx} (ok:X.Ok) (E:Value→Shared→Prop):(X.wish E).Ok:=
 ⟨ok.mod,ok.kind,ok.glob,ok.blt,ok.above,ok.inj,ok.has,ok.cab,ok.hd,ok.frames,ok.stk,ok.exf,ok.bs,ok.bsz,ok.noex,ok.exfs,ok.funs,ok.frf⟩
theorem Cx.Ok.unwish {X:Cx} {E:Value→Shared→Prop} (ok:(X.wish E).Ok):X.Ok:=
 ⟨ok.mod,ok.kind,ok.glob,ok.blt,ok.above,ok.inj,ok.has,ok.cab,ok.hd,ok.frames,ok.stk,ok.exf,ok.bs,ok.bsz,ok.noex,ok.exfs,ok.funs,ok.frf⟩
section
variable {X:Cx} {pins:List (Addr×Obj)} {σ:St} {H:Hp} {s:Shared} {E:Value→Shared→Prop}
theorem Inv.wish (I:Inv X pins σ H s) (E:Value→Shared→Prop):Inv (X.wish E) pins σ H s:=⟨I.ok.wish E,I.os,I.bare,I.base,I.loc,I.cell,I.free,I.freeC,I.pin,I.hok,I.len⟩
theorem Inv.unwish (I:Inv (X.wish E) pins σ H s):Inv X pins σ H s:=⟨I.ok.unwish,I.os,I.bare,I.base,I.loc,I.cell,I.free,I.freeC,I.pin,I.hok,I.len⟩
theorem SP.unwish {D:Ends} {f:Flow} {s':Shared} (h:SP (X.wish E) pins D f s'):SP X pins D f s':=by
 cases f with
 | next=>obtain ⟨σ',H',I,q⟩:=h; exact ⟨σ',H',I.unwish,q⟩
 | brk=>obtain ⟨σ',H',I,q⟩:=h; exact ⟨σ',H',I.unwish,q⟩
 | cont=>obtain ⟨σ',H',I,q⟩:=h; exact ⟨σ',H',I.unwish,q⟩
 | ret u=>obtain ⟨v,σ',H',I,r,q⟩:=h; exact ⟨v,σ',H',I.unwish,r,q⟩
theorem PE.nox {e:Expr} {t:TE} (h:PE X.nox e t):PE X e t:=fun pins s σ H Q I hw=>
 wpAny_mono (h pins s σ H Q (I.wish _) hw) (fun _ _ ⟨v,H',I',r,q⟩=>⟨v,H',I'.unwish,r,q⟩) fun _ _ z=>False.elim z
theorem PSs.nox {st:List Stmt} {t:TS} (h:PSs X.nox st t):PSs X st t:=fun pins s σ H D I hw=>
 wpAny_mono (h pins s σ H D (I.wish _) hw) (fun _ _ q=>q.unwish) fun _ _ z=>False.elim z
end
section
variable {X:Cx} {st:Stmt} {rest:List Stmt} {t u:TS} {e:Expr} {te:TE} {pos:Pos}
def tNext:TS:=fun D σ H=>D.nx σ H
def tSeq (t u:TS):TS:=fun D σ H=>t { D with nx:=u D } σ H
theorem pss_nil:PSs X [] tNext:=fun _ _ σ H _ I h=>wpAny_execs_nil ⟨σ,H,I,h⟩
theorem pss_cons (h1:PS X st t) (h2:PSs X rest u):PSs X (st::rest) (tSeq t u):=by
 intro pins s σ H D I h
 refine wpAny_execs_cons (thn (h1 pins s σ H { D with nx:=u D } I h) fun f s1 q=>?_)
 cases f with
 | next=>
  obtain ⟨σ',H',I',q⟩:=q
  exact h2 pins s1 σ' H' D I' q
 | ret v=>exact q
 | brk=>exact q
 | cont=>exact q
theorem pss_one (h1:PS X st t):PSs X [st] t:=by
 intro pins s σ H D I h
 refine wpAny_execs_cons (thn (h1 pins s σ H D I h) fun f s1 q=>?_)
 cases f with
 | next=>exact wpAny_execs_nil q
 | ret v=>exact q
 | brk=>exact q
 | cont=>exact q
theorem Inv.quiet {pins:List (Addr×Obj)} {σ:St} {H:Hp} {s:Shared} (I:Inv X pins σ H s):interactive X.env=false:=by simp [interactive,I.ok.kind]
def tDrop (te:TE):TS:=fun D σ H=>te σ H fun _ H1=>D.nx σ H1
theorem ps_expr (he:PE X e te) (hs:swapsWith e none pos.line X.env=pure false:=by rfl):PS X (.Expr e pos) (tDrop te):=by
 intro pins s σ H D I h
 exact wpAny_Expr_any (thn (he pins s σ H _ I h) fun v s1 ⟨x,H1,I1,r1,q1⟩=>⟨σ,H1,I1,q1⟩) I.quiet hs
def tRet (te:TE):TS:=fun D σ H=>te σ H D.rt
theorem ps_ret (he:PE X e te):PS X (.Return (some e) pos) (tRet te):=by
 intro pins s σ H D I h
 exact wpAny_Return_some (thn (he pins s σ H _ I h) fun v s1 ⟨x,H1,I1,r1,q1⟩=>⟨x,σ,H1,I1,r1,q1⟩)
def tIfS (c:TT) (t u:TS):TS:=fun D σ H=>c σ H fun b H1=>if b=true then t D σ H1 else u D σ H1
theorem ps_if {c:Expr} {a b:List Stmt} {tc:TT} (hc:PT X c tc) (ha:PSs X a t) (hb:PSs X b u):PS X (.If c a b pos) (tIfS tc t u):=by
 intro pins s σ H D I h
 refine wpAny_If (thn (hc pins s σ H _ I h) fun d s1 ⟨H1,I1,q1⟩=>?_)
 cases d with
 | true=>exact ha pins s1 σ H1 D I1 q1
 | false=>exact hb pins s1 σ H1 D I1 q1
def tNever:TS:=fun _ _ _=>False
theorem pss_never {sts:List Stmt}:PSs X sts tNever:=fun _ _ _ _ _ _ h=>h.elim
end
abbrev TG:=V→St→Hp→(St→Hp→Prop)→Prop
abbrev TGs:=List V→St→Hp→(St→Hp→Prop)→Prop
def PG (X:Cx) (target:Expr) (t:TG):Prop:=
 ∀ (pins:List (Addr×Obj)) (s:Shared) (σ:St) (H:Hp) (v:V) (u:Value) (Q:St→Hp→Prop),Inv X pins σ H s→RelV v u→t v σ H Q→
  wpAny (model X.prog X.w) X.A (assign target X.env u) (fun _ s'=>∃ σ' H',Inv X pins σ' H' s'∧Q σ' H') X.xe s
def PGs (X:Cx) (ts:List Expr) (t:TGs):Prop:=
 ∀ (pins:List (Addr×Obj)) (s:Shared) (σ:St) (H:Hp) (vs:List V) (us:List Value) (Q:St→Hp→Prop),Inv X pins σ H s→Vals vs us→t vs σ H Q→
  wpAny (model X.prog X.w) X.A (assignInOrder ((assignEach ts X.env).map (·.2)) us) (fun _ s'=>∃ σ' H',Inv X pins σ' H' s'∧Q σ' H') X.xe s
abbrev TSet:=V→V→V→Hp→(Hp→Prop)→Prop
def PSet (X:Cx) (t:TSet):Prop:=
 ∀ (pins:List (Addr×Obj)) (s:Shared) (σ:St) (H:Hp) (o i v:V) (ov iv u:Value) (Q:Hp→Prop),Inv X pins σ H s→RelV o ov→RelV i iv→RelV v u→t o i v H Q→
  wpAny (model X.prog X.w) X.A (setItem ov iv u) (fun _ s'=>∃ H',Inv X pins σ H' s'∧Q H') X.xe s
section
variable {X:Cx} {pos:Pos}
def gName (i:Nat):TG:=fun v σ H Q=>Q (σ.set i (some v)) H
theorem pg_name {i:Nat} {x:Str} (hN:X.N.Nodup) (hi:X.N[i]?=some x) (hx:Loc X.env.scope x) (hf:X.fn x=true∨X.env.scope.names.lookup x=some .local:=by first | exact .inl rfl | exact .inr rfl | assumption):PG X (.Name x pos) (gName i):=by
 intro pins s σ H v u Q I r h
 exact wpAny_assign_Name (store_ok I hN hi hx r (fun s' I'=>⟨_,H,I',h⟩) hf)
def gNil:TGs:=fun vs σ H Q=>vs=[]∧Q σ H
def gCons (t:TG) (u:TGs):TGs:=fun vs σ H Q=>∃ v r,vs=v::r∧t v σ H fun σ' H'=>u r σ' H' Q
theorem pgs_nil:PGs X [] gNil:=by
 intro pins s σ H vs us Q I r h
 obtain ⟨e,h⟩:=h
 subst e
 cases r
 exact assignInOrder_nil ⟨σ,H,I,h⟩
theorem pgs_cons {e:Expr} {es:List Expr} {t:TG} {u:TGs} (h1:PG X e t) (h2:PGs X es u)
  (hs:(assignEach (e::es) X.env).map (·.2)=assign e X.env::(assignEach es X.env).map (·.2):=by rfl):PGs X (e::es) (gCons t u):=by
 intro pins s σ H vs us Q I r h
 obtain ⟨v,vr,e1,h⟩:=h
 subst e1
 cases r with
 | cons r rr=>
  rw [hs]
  refine assignInOrder_cons (thn (h1 pins s σ H _ _ _ I r h) fun _ s1 ⟨σ1,H1,I1,q1⟩=>?_)
  exact h2 pins s1 σ1 H1 _ _ Q I1 rr q1
def gTup (K:PySem.W.Frag) (n:Nat) (t:TGs):TG:=fun v σ H Q=>∃ a xs,v=.ref a∧SqT K H a xs∧xs.length=n∧t xs σ H Q
theorem pg_tup {es:List Expr} {k:Nat} {t:TGs} {n:Nat} (hc:X.calm=true) (h:PGs X es t)
  (hn:(assignEach es X.env).length=n:=by rfl) (hst:(assignEach es X.env).findIdx? (·.1)=none:=by rfl):PG X (.Tuple es k pos) (gTup X.K n t):=by
 intro pins s σ H v u Q I r hw
 obtain ⟨a,xs,e1,hq,hl,hw⟩:=hw
 subst e1
 cases r
 obtain ⟨its,rv,ht,hz⟩:=I.tuple hq
 refine assign_Tuple_tuple (I.ok.hd hc) ht (by simp [hn,← hl,rv.length]) hst fun h' hx=>?_
 have I1:Inv X pins σ H { s with heap:=h' }:=I.kept (t':=s.toks) fun b o e=>hx b o (Nat.ne_of_lt (Heap.lt_size e)) e
 exact h pins _ σ H xs _ Q I1 (by simpa using rv) hw
def gSub (to ti:TE) (t:TSet):TG:=fun v σ H Q=>to σ H fun o H1=>ti σ H1 fun i H2=>t o i v H2 fun H3=>Q σ H3
theorem pg_sub {o i:Expr} {to ti:TE} {t:TSet} (ho:PE X o to) (hi:PE X i ti) (hs:PSet X t)
  (ha:∀ v,assign (.Subscript o i pos) X.env v=(do
   let ov ← holding [v] (eval o X.env)
   let iv ← holding [v,ov] (eval i X.env)
   standAt pos
   holding [v,ov,iv] (setItem ov iv v)
   release [v,ov,iv] []):=by intro _; rfl):PG X (.Subscript o i pos) (gSub to ti t):=by
 intro pins s σ H v u Q I r h
 rw [ha]
 refine wpAny_bind (wpAny_holding (thn (ho pins s σ H _ I h) fun ov s1 ⟨x,H1,I1,r1,q1⟩=>?_))
 refine wpAny_bind (wpAny_holding (thn (hi pins s1 σ H1 _ I1 q1) fun iv s2 ⟨y,H2,I2,r2,q2⟩=>?_))
 refine wpAny_bind (wpAny_standAt (wpAny_bind (wpAny_holding (thn (hs pins s2 σ H2 x y v ov iv u _ I2 r1 r2 r q2) fun _ s3 ⟨H3,I3,q3⟩=>?_))))
 exact wpAny_release ⟨σ,H3,I3,q3⟩
def tAsg (te:TE) (g:TG):TS:=fun D σ H=>te σ H fun x H1=>g x σ H1 D.nx
theorem ps_asg {tg e:Expr} {te:TE} {g:TG} (he:PE X e te) (hg:PG X tg g) (hs:swapsWithSole [tg] e pos.line X.env=pure false:=by rfl) (hw:swappedStores [tg] e X.env=pure none:=by rfl)
  (h1:(assignEach [tg] X.env).map (·.2)=[assign tg X.env]:=by rfl):PS X (.Assign [tg] e pos) (tAsg te g):=by
 intro pins s σ H D I h
 refine wpAny_Assign_stores (thn (he pins s σ H _ I h) fun v s1 ⟨x,H1,I1,r1,q1⟩=>?_) hs hw
 rw [h1]
 exact thn (hg pins s1 σ H1 x v _ I1 r1 q1) fun _ s2 q=>q
theorem ps_set {i:Nat} {x:Str} {e:Expr} {te:TE} {pos':Pos} (hN:X.N.Nodup) (hi:X.N[i]?=some x) (hx:Loc X.env.scope x) (he:PE X e te) (hs:swapsWith e (some (.Name x pos')) pos.line X.env=pure false:=by rfl) (hf:X.fn x=true∨X.env.scope.names.lookup x=some .local:=by first | exact .inl rfl | exact .inr rfl | assumption) :
  PS X (.Assign [.Name x pos'] e pos) (tAsg te (gName i)):=by
 intro pins s σ H D I h
 refine wpAny_Assign_Name (thn (he pins s σ H _ I h) fun v s1 ⟨y,H1,I1,r1,q1⟩=>?_) hs
 exact store_ok I1 hN hi hx r1 (fun s2 I2=>⟨_,H1,I2,q1⟩) hf
end
section
variable {X:Cx} {pos:Pos}
def tWhile (c:TT) (tb:TS):TS:=fun D σ H=>∃ W:Nat→St→Hp→Prop,(∃ m,W m σ H)∧∀ m σ H,W m σ H→
 c σ H fun b H1=>if b=true then ∃ N:St→Hp→Prop,(∀ σ' H',N σ' H'→∃ m',m' < m∧W m' σ' H')∧tb { D with nx:=N,ct:=N,bk:=D.nx } σ H1 else D.nx σ H1
theorem ps_while {c:Expr} {body:List Stmt} {tc:TT} {tb:TS} (hp:PassesOwn (model X.prog X.w) X.A X.env X.xe) (hc:PT X c tc) (hb:PSs X body tb):PS X (.While c body [] pos) (tWhile tc tb):=by
 intro pins s σ H D I h
 obtain ⟨W,⟨m0,w0⟩,turn⟩:=h
 refine wpAny_While (codeAny_whileLoop (fun n s'=>∃ σ' H',Inv X pins σ' H' s'∧W n σ' H') ?_ m0 ⟨σ,H,I,w0⟩)
 rintro n s1 ⟨σ1,H1,I1,w1⟩
 refine wpAny_passesOwn hp (thn (hc pins s1 σ1 H1 _ I1 (turn n σ1 H1 w1)) fun b s2 ⟨H2,I2,q2⟩=>?_)
 cases b with
 | true=>
  obtain ⟨N,hN,q2⟩:=q2
  rw [if_pos rfl]
  refine wpAny_passesOwn hp (thn (hb pins s2 σ1 H2 _ I2 q2) fun f s3 q3=>?_)
  cases f with
  | next=>
   obtain ⟨σ3,H3,I3,n3⟩:=q3
   obtain ⟨m',hm,w3⟩:=hN σ3 H3 n3
   exact ⟨m',hm,σ3,H3,I3,w3⟩
  | cont=>
   obtain ⟨σ3,H3,I3,n3⟩:=q3
   obtain ⟨m',hm,w3⟩:=hN σ3 H3 n3
   exact ⟨m',hm,σ3,H3,I3,w3⟩
  | brk=>exact q3
  | ret v=>exact q3
 | false=>
  rw [if_neg Bool.false_ne_true]
  exact wpAny_execs_nil ⟨σ1,H2,I2,q2⟩
end
structure It where
 go:Nat→Hp→Prop
 yld:Nat→Hp→V→Hp→Prop
 stop:Nat→Hp→Prop
def FpOk (X:Cx) (pins:List (Addr×Obj)) (H:Hp) (b:Addr):Prop:=
 H b=none∧b≠X.env.locals∧b∉X.fs∧(b∈X.ex∨X.s₀.heap.objs.size≤b)∧(∀ x c,X.env.cells.lookup x=some c→c≠b)∧∀ p∈X.pn++pins,p.1≠b
theorem Inv.fpOk {X:Cx} {pins:List (Addr×Obj)} {σ:St} {H H':Hp} {s:Shared} {b:Addr} (I:Inv X pins σ H s) (hb:s.heap.objs.size≤b) (hn:H' b=none):FpOk X pins H' b:=by
 refine ⟨hn,Nat.ne_of_gt (Nat.lt_of_lt_of_le I.lt hb),I.nofs hb,.inr (Nat.le_trans I.sz hb),fun x c e z=>?_,fun p hp z=>?_⟩
 ·obtain ⟨v,q⟩:=I.cell x c e
  exact absurd (Nat.lt_of_lt_of_le q.lt (by rw [z]; exact hb)) (Nat.lt_irrefl _)
 ·exact absurd (Nat.lt_of_lt_of_le (Heap.lt_size (I.pin p hp).1) (by rw [z]; exact hb)) (Nat.lt_irrefl _)
structure Turn (P:Program) (w:World) (K:PySem.W.Frag) (tg:Expr) (J:It) (fp:List Addr) (it:Addr) (tn:Nat→Heap→Prop):Prop where
 mem:it∈fp
 obj:∀ i h,tn i h→∀ b∈fp,∃ o,h.get? b=some o∧∀ v,o.data≠.cell v
 keep:∀ i h h',tn i h→(∀ b∈fp,∀ o,h.get? b=some o→h'.get? b=some o)→tn i h'
 item:∀ (X:Cx),X.prog=P→X.w=w→X.K=K→X.calm=true→∀ (i:Nat) (pins:List (Addr×Obj)) (s:Shared) (σ:St) (H:Hp) (E:Value→Shared→Prop),Inv X pins σ H s→(∀ b∈fp,FpOk X pins H b)→tn i s.heap→J.go i H→
  wpAny (model P w) X.A (pyNext (.ref it)) (fun r s1=>∃ u,r=some u∧
   wpAny (model P w) X.A (letOwnedTupleGo tg (.ref it) u) (fun _ s2=>∃ x H',Inv X pins σ H' s2∧RelV x u∧J.yld i H x H'∧tn (i + 1) s2.heap∧∀ b∈fp,H' b=none) E s1) E s
 done:∀ (X:Cx),X.prog=P→X.w=w→X.K=K→X.calm=true→∀ (i:Nat) (pins:List (Addr×Obj)) (s:Shared) (σ:St) (H:Hp) (E:Value→Shared→Prop),Inv X pins σ H s→(∀ b∈fp,FpOk X pins H b)→tn i s.heap→J.stop i H→
  wpAny (model P w) X.A (pyNext (.ref it)) (fun r s1=>r=none∧Inv X pins σ H s1) E s
 self:∀ (A:Around) (i:Nat) (s:Shared) (Q:Value→Shared→Prop) (E:Value→Shared→Prop),tn i s.heap→Q (.ref it) s→wpAny (model P w) A (pyIter (.ref it)) Q E s
abbrev TI:=St→Hp→(It→Hp→Prop)→Prop
def PIE (X:Cx) (pins:List (Addr×Obj)) (σ:St) (tg:Expr) (R:It→Hp→Prop) (itv:Value) (s2:Shared):Prop:=
 ∃ (it:Addr) (fp:List Addr) (tn:Nat→Heap→Prop) (J:It) (H':Hp),itv=.ref it∧Inv X pins σ H' s2∧Turn X.prog X.w X.K tg J fp it tn∧tn 0 s2.heap∧(∀ b∈fp,FpOk X pins H' b)∧R J H'
def PI (X:Cx) (tg iter:Expr) (wi:TI):Prop:=
 ∀ (pins:List (Addr×Obj)) (s:Shared) (σ:St) (H:Hp) (R:It→Hp→Prop),Inv X pins σ H s→wi σ H R→
  wpAny (model X.prog X.w) X.A (eval iter X.env) (fun v s1=>wpAny (model X.prog X.w) X.A (pyIter v) (PIE X pins σ tg R) X.xe s1) X.xe s
theorem go_of {M:Model} {A:Around} {E:Value→Shared→Prop} {s:Shared} {tg:Expr} {it:Addr} {u:Value} {o:Obj} {n:String} {vs:Array Value} {Q:Unit→Shared→Prop} (ho:s.heap.get? it=some o) (hc:o.cls=.type n) (hd:o.data=.fields vs)
  (hn:["enumerate", "zip", "dict_itemiterator", "dict_reverseitemiterator", "odict_iterator", "itertools.zip_longest", "itertools.pairwise"].contains n=false) (hQ:Q () s):wpAny M A (letOwnedTupleGo tg (.ref it) u) Q E s:=by
 unfold letOwnedTupleGo
 cases tg <;> first
  | exact wpAny_pure hQ
  | (cases u <;> first
    | exact wpAny_pure hQ
    | (refine wpAny_bind (wpAny_load ho ?_)
       rw [hc,hd]
       show wpAny M A (if (["enumerate", "zip", "dict_itemiterator", "dict_reverseitemiterator", "odict_iterator", "itertools.zip_longest", "itertools.pairwise"].contains n && vs[0]? == some (rawInt _))=true then _ else _) Q E s
       rw [if_neg (by intro h; rw [hn,Bool.false_and] at h; cases h)]
       exact wpAny_pure hQ))
def Itl (K:PySem.W.Frag) (a:Addr):It:=
 ⟨fun i H=>∃ xs x,SqL K H a xs∧xs[i]?=some x,fun i H x H'=>H'=H∧∀ xs,SqL K H a xs→xs[i]?=some x,fun i H=>∃ xs,SqL K H a xs∧xs.length≤i⟩
def Itt (K:PySem.W.Frag) (a:Addr):It:=
 ⟨fun i H=>∃ xs x,SqT K H a xs∧xs[i]?=some x,fun i H x H'=>H'=H∧∀ xs,SqT K H a xs→xs[i]?=some x,fun i H=>∃ xs,SqT K H a xs∧xs.length≤i⟩
def Itr (lo:Int) (n:Nat):It:=⟨fun i _=>i < n,fun i H x H'=>H'=H∧x=.int (lo + i),fun i _=>n≤i⟩
theorem turn_list {P:Program} {w:World} {K:PySem.W.Frag} {tg:Expr} (a it:Addr):Turn P w K tg (Itl K a) [it] it (fun i h=>h.IsListIter it a i) where
 mem:=by simp
 obj:=fun i h st b hb=>by
  have e:b=it:=by simpa using hb
  subst e
  obtain ⟨o,e,c,d⟩:=st
  exact ⟨o,e,fun v z=>by rw [d] at z; cases z⟩
 keep:=fun i h h' st k=>st.at fun o e=>k it (by simp) o e
 item:=by
  intro X hP hw hK hc i pins s σ H E I hf st hg
  subst hP hw hK
  obtain ⟨xs,x,hq,hx⟩:=hg
  obtain ⟨its,rv,p,hz⟩:=I.list hq
  obtain ⟨u,hu,ru⟩:=rv.get hx
  obtain ⟨f0,f1,f2,f3,f4,f5⟩:=hf it (by simp)
  refine wpAny_pyNext_list_item st p.isList (x:=u) (by simpa using hu) fun h' st' sb=>?_
  have I1:Inv X pins σ H { s with heap:=h' }:=I.turned (t':=s.toks) (fun b o hb e=>(sb.2 b hb).trans e) f0 f1 f3 f4 f5
  obtain ⟨o,e,c,d⟩:=id st'
  exact ⟨u,rfl,go_of (s:={ s with heap:=h' }) e c d (by decide) ⟨x,H,I1,ru,⟨rfl,fun ys hy=>by rw [I.list_inj hy hq]; exact hx⟩,st',fun b hb=>(hf b hb).1⟩⟩
 done:=by
  intro X hP hw hK hc i pins s σ H E I hf st hg
  subst hP hw hK
  obtain ⟨xs,hq,hx⟩:=hg
  obtain ⟨its,rv,p,hz⟩:=I.list hq
  obtain ⟨f0,f1,f2,f3,f4,f5⟩:=hf it (by simp)
  have hl:=rv.length
  exact wpAny_pyNext_list_end (I.ok.hd hc) st p.isList (by simp; omega) fun h' eb=>⟨rfl,I.turned (t':=s.toks) (fun b o hb e=>eb b o hb e) f0 f1 f3 f4 f5⟩
 self:=fun _ _ _ _ _ st h=>wpAny_pyIter_listiter st h
theorem turn_tuple {P:Program} {w:World} {K:PySem.W.Frag} {tg:Expr} (a it:Addr):Turn P w K tg (Itt K a) [it] it (fun i h=>h.IsTupleIter it a i) where
 mem:=by simp
 obj:=fun i h st b hb=>by
  have e:b=it:=by simpa using hb
  subst e
  obtain ⟨o,e,c,d⟩:=st
  exact ⟨o,e,fun v z=>by rw [d] at z; cases z⟩
 keep:=fun i h h' st k=>st.at fun o e=>k it (by simp) o e
 item:=by
  intro X hP hw hK hc i pins s σ H E I hf st hg
  subst hP hw hK
  obtain ⟨xs,x,hq,hx⟩:=hg
  obtain ⟨its,rv,p,hz⟩:=I.tuple hq
  obtain ⟨u,hu,ru⟩:=rv.get hx
  obtain ⟨f0,f1,f2,f3,f4,f5⟩:=hf it (by simp)
  refine wpAny_pyNext_tuple_item st (show s.heap.IsTuple a its.toArray from p) (x:=u) (by simpa using hu) fun h' st' sb=>?_
  have I1:Inv X pins σ H { s with heap:=h' }:=I.turned (t':=s.toks) (fun b o hb e=>(sb.2 b hb).trans e) f0 f1 f3 f4 f5
  obtain ⟨o,e,c,d⟩:=id st'
  exact ⟨u,rfl,go_of (s:={ s with heap:=h' }) e c d (by decide) ⟨x,H,I1,ru,⟨rfl,fun ys hy=>by rw [I.tuple_inj hy hq]; exact hx⟩,st',fun b hb=>(hf b hb).1⟩⟩
 done:=by
  intro X hP hw hK hc i pins s σ H E I hf st hg
  subst hP hw hK
  obtain ⟨xs,hq,hx⟩:=hg
  obtain ⟨its,rv,p,hz⟩:=I.tuple hq
  obtain ⟨f0,f1,f2,f3,f4,f5⟩:=hf it (by simp)
  have hl:=rv.length
  exact wpAny_pyNext_tuple_end (I.ok.hd hc) st (show s.heap.IsTuple a its.toArray from p) (by simp; omega) fun h' eb=>⟨rfl,I.turned (t':=s.toks) (fun b o hb e=>eb b o hb e) f0 f1 f3 f4 f5⟩
 self:=fun _ _ _ _ _ st h=>wpAny_pyIter_tupleiter st h
theorem turn_range {P:Program} {w:World} {K:PySem.W.Frag} {tg:Expr} (it:Addr) (lo:Int) (n:Nat):Turn P w K tg (Itr lo n) [it] it (fun i h=>IsRangeIter h it (lo + (i:Nat) * 1) ((n:Int) - (i:Nat)) 1) where
 mem:=by simp
 obj:=fun i h st b hb=>by
  have e:b=it:=by simpa using hb
  subst e
  exact ⟨_,st,fun v z=>by
   have z':Data.fields _=Data.cell v:=z
   cases z'⟩
 keep:=fun i h h' st k=>k it (by simp) _ st
 item:=by
  intro X hP hw hK hc i pins s σ H E I hf st hg
  subst hP hw hK
  obtain ⟨f0,f1,f2,f3,f4,f5⟩:=hf it (by simp)
  have W:=Walks.range (prog:=X.prog) (w:=X.w) (I.ok.hd hc) it lo 1 n
  refine W.item i s _ _ hg st fun v h' tk hv st' kk=>?_
  obtain ⟨t,rfl⟩:=hv
  have I1:Inv X pins σ H { s with heap:=h',toks:=tk }:=I.turned (fun b o hb e=>kk b o (by simpa using hb) e) f0 f1 f3 f4 f5
  refine ⟨_,rfl,go_of (s:={ s with heap:=h',toks:=tk }) (n:="range_iterator") st' rfl rfl (by decide) ⟨.int (lo + i),H,I1,⟨t,?_⟩,⟨rfl,rfl⟩,st',fun b hb=>(hf b hb).1⟩⟩
  rw [Int.mul_one]
 done:=by
  intro X hP hw hK hc i pins s σ H E I hf st hg
  subst hP hw hK
  obtain ⟨f0,f1,f2,f3,f4,f5⟩:=hf it (by simp)
  exact wpAny_pyNext_range_end (I.ok.hd hc) st (by have:n≤i:=hg; omega) fun h' eb=>⟨rfl,I.turned (t':=s.toks) (fun b o hb e=>eb b o hb e) f0 f1 f3 f4 f5⟩
 self:=fun _ _ _ _ _ st h=>wpAny_pyIter_rangeiter st h
end L2
namespace L2
open PySem PySem.Spec PyProof.Rows
section
variable {X:Cx} {tg:Expr}
def iList (K:PySem.W.Frag) (tl:TE):TI:=fun σ H R=>tl σ H fun x H1=>∃ a,x=.ref a∧(∃ xs,SqL K H1 a xs)∧R (Itl K a) H1
def iTup (K:PySem.W.Frag) (tl:TE):TI:=fun σ H R=>tl σ H fun x H1=>∃ a,x=.ref a∧(∃ xs,SqT K H1 a xs)∧R (Itt K a) H1
theorem pi_list {l:Expr} {tl:TE} (hl:PE X l tl):PI X tg l (iList X.K tl):=by
 intro pins s σ H R I h
 refine thn (hl pins s σ H _ I h) fun v s1 ⟨x,H1,I1,r1,q1⟩=>?_
 obtain ⟨a,e,⟨xs,hq⟩,q⟩:=q1
 subst e
 cases r1
 obtain ⟨its,rv,p,hz⟩:=I1.list hq
 refine wpAny_pyIter_list p.isList ?_
 refine ⟨s1.heap.objs.size,[s1.heap.objs.size],_,_,H1,rfl,I1.kept (t':=s1.toks) fun b o e=>Heap.get?_push_of_some _ e,turn_list a _,⟨_,Heap.get?_push_size _ rfl,rfl,rfl⟩,fun b hb=>?_,q⟩
 have e:b=s1.heap.objs.size:=by simpa using hb
 subst e
 exact I1.fpOk (Nat.le_refl _) (I1.hok.fresh (Nat.le_refl _))
theorem pi_tup {l:Expr} {tl:TE} (hl:PE X l tl):PI X tg l (iTup X.K tl):=by
 intro pins s σ H R I h
 refine thn (hl pins s σ H _ I h) fun v s1 ⟨x,H1,I1,r1,q1⟩=>?_
 obtain ⟨a,e,⟨xs,hq⟩,q⟩:=q1
 subst e
 cases r1
 obtain ⟨its,rv,p,hz⟩:=I1.tuple hq
 refine wpAny_pyIter_tuple (show s1.heap.IsTuple a its.toArray from p) ?_
 refine ⟨s1.heap.objs.size,[s1.heap.objs.size],_,_,H1,rfl,I1.kept (t':=s1.toks) fun b o e=>Heap.get?_push_of_some _ e,turn_tuple a _,⟨_,Heap.get?_push_size _ rfl,rfl,rfl⟩,fun b hb=>?_,q⟩
 have e:b=s1.heap.objs.size:=by simpa using hb
 subst e
 exact I1.fpOk (Nat.le_refl _) (I1.hok.fresh (Nat.le_refl _))
theorem range_it {pins:List (Addr×Obj)} {σ:St} {H:Hp} {s:Shared} {R:It→Hp→Prop} {E:Value→Shared→Prop} {lo hi:Int} {t u v:Tok} {tk:Nat} (I:Inv X pins σ H s) (h1:-(2 ^ 62)≤lo) (h2:lo < 2 ^ 62) (h3:-(2 ^ 62)≤hi) (h4:hi < 2 ^ 62)
  (q:R (Itr lo (hi - lo).toNat) H):wpAny (model X.prog X.w) X.A (pyIter (.ref s.heap.objs.size)) (PIE X pins σ tg R) E { s with heap:=s.heap.push { cls:=.type "range",data:=.fields #[.int lo t,.int hi u,.int 1 v] },toks:=tk }:=by
 refine wpAny_pyIter_range (IsRange.new ..) (small_one h1 h2 h3 h4) ?_
 have I1:Inv X pins σ H { s with heap:=s.heap.push { cls:=.type "range",data:=.fields #[.int lo t,.int hi u,.int 1 v] },toks:=tk }:=I.kept fun b o e=>Heap.get?_push_of_some _ e
 refine ⟨(s.heap.push { cls:=.type "range",data:=.fields #[.int lo t,.int hi u,.int 1 v] }).objs.size,[(s.heap.push { cls:=.type "range",data:=.fields #[.int lo t,.int hi u,.int 1 v] }).objs.size],_,_,H,rfl,
  I1.kept (t':=tk) fun b o e=>Heap.get?_push_of_some _ e,turn_range _ lo (hi - lo).toNat,?_,fun b hb=>?_,q⟩
 ·have e1:lo + ((0:Nat):Int) * 1=lo:=by simp
  have e2:(((hi - lo).toNat:Nat):Int) - ((0:Nat):Int)=Builtin.Range.rangeSize lo hi 1:=by rw [rangeSize_one]; split <;> omega
  show IsRangeIter _ _ (lo + ((0:Nat):Int) * 1) ((((hi - lo).toNat:Nat):Int) - ((0:Nat):Int)) 1
  rw [e1,e2]
  exact Heap.get?_push_size _ rfl
 ·have e:b=(s.heap.push { cls:=.type "range",data:=.fields #[.int lo t,.int hi u,.int 1 v] }).objs.size:=by simpa using hb
  subst e
  exact I1.fpOk (Nat.le_refl _) (I1.hok.fresh (Nat.le_refl _))
def iRng1 (ta:TA):TI:=fun σ H R=>ta σ H fun vs H1=>∃ j:Int,vs=[.int j]∧-(2 ^ 62)≤j∧j < 2 ^ 62∧R (Itr 0 j.toNat) H1
theorem pi_range1 {a:Expr} {ta:TA} {p pos:Pos} (hg:Gl X "range") (hm:X.mg "range"=none) (ha:PA X [a] ta) (hs:starEach [a] X.env=[(false,eval a X.env)]:=by rfl):PI X tg (.Call (.Name "range" p) [a] [] pos) (iRng1 ta):=by
 intro pins s σ H R I h
 refine Call_ (ld_blt I hg hm boot_range (PyProof.Rows.callWith_type1 (thn (ha pos pins s σ H _ I h) fun us s1 ⟨vs,H1,I1,r1,q1⟩=>?_) hs rfl))
 obtain ⟨j,e,q1,q2,q⟩:=q1
 subst e
 cases r1 with
 | cons r rr=>
  cases rr
  obtain ⟨t,rfl⟩:=r
  exact call_range_1 (range_it I1 (by omega) (by omega) q1 q2 (by simpa using q))
def tFor (wi:TI) (g:TG) (tb:TS):TS:=fun D σ H=>wi σ H fun J H1=>∃ W:Nat→Nat→St→Hp→Prop,(∃ m,W 0 m σ H1)∧∀ i m σ H,W i m σ H→
 (J.stop i H∧D.nx σ H)∨(J.go i H∧∃ N:St→Hp→Prop,(∀ σ' H',N σ' H'→∃ m',m' < m∧W (i + 1) m' σ' H')∧∀ x H',J.yld i H x H'→g x σ H' fun σ2 H2=>tb { D with nx:=N,ct:=N,bk:=D.nx } σ2 H2)
def pinsAt (fp:List Addr) (h:Heap):List (Addr×Obj):=fp.filterMap fun b=>(h.get? b).map fun o=>(b,o)
theorem mem_pinsAt {fp:List Addr} {h:Heap} {b:Addr} {o:Obj} (hb:b∈fp) (e:h.get? b=some o):(b,o)∈pinsAt fp h:=List.mem_filterMap.mpr ⟨b,hb,by rw [e]; rfl⟩
theorem of_pinsAt {fp:List Addr} {h:Heap} {p:Addr×Obj} (hp:p∈pinsAt fp h):p.1∈fp∧h.get? p.1=some p.2:=by
 obtain ⟨b,hb,e⟩:=List.mem_filterMap.mp hp
 cases q:h.get? b with
 | none=>rw [q] at e; cases e
 | some o=>
  rw [q] at e
  have e':(b,o)=p:=Option.some.inj e
  subst e'
  exact ⟨hb,q⟩
theorem Inv.pinned {pins:List (Addr×Obj)} {σ:St} {H:Hp} {s:Shared} {fp:List Addr} (I:Inv X pins σ H s) (hf:∀ b∈fp,FpOk X pins H b) (ho:∀ b∈fp,∃ o,s.heap.get? b=some o∧∀ v,o.data≠.cell v):Inv X (pins++pinsAt fp s.heap) σ H s:=
 I.pins_of fun p hp=>(List.mem_append.mp hp).elim (fun z=>I.pin p (List.mem_append_right _ z)) fun z=>by
  obtain ⟨hb,e⟩:=of_pinsAt z
  obtain ⟨f0,f1,f2,_⟩:=hf p.1 hb
  obtain ⟨o,e',d⟩:=ho p.1 hb
  rw [e] at e'; cases e'
  exact ⟨e,f0,f1,f2,d⟩
theorem Inv.unpinned {pins pl:List (Addr×Obj)} {σ:St} {H:Hp} {s:Shared} (I:Inv X (pins++pl) σ H s):Inv X pins σ H s:=I.pins_of fun p hp=>I.pin p (List.mem_append_right _ (List.mem_append_left _ hp))
theorem ps_for {iter:Expr} {body:List Stmt} {wi:TI} {g:TG} {tb:TS} {pos:Pos} (hp:PassesOwn (model X.prog X.w) X.A X.env X.xe) (hc:X.calm=true) (hi:PI X tg iter wi) (hg:PG X tg g) (hb:PSs X body tb)
  (hs:∀ x,foldedSetIterable iter X.env x=pure x:=by intro _; rfl):PS X (.For tg iter body [] pos) (tFor wi g tb):=by
 intro pins s σ H D I h
 refine wpAny_For (thn (hi pins s σ H _ I h) fun v s1 h1=>thn h1 fun itv s2 h2=>?_) hs
 obtain ⟨it,fp,tn,J,H2,e,I2,T,st2,f2,W,⟨m0,w0⟩,turn⟩:=h2
 subst e
 have stat:∀ {H':Hp},(∀ b∈fp,H' b=none)→∀ b∈fp,FpOk X pins H' b:=fun hn b hb=>⟨hn b hb,(f2 b hb).2⟩
 refine codeAny_forLoop_any (fun n s'=>∃ i σ' H',Inv X pins σ' H' s'∧tn i s'.heap∧(∀ b∈fp,H' b=none)∧W i n σ' H') ?_ m0 ⟨0,σ,H2,I2,st2,fun b hb=>(f2 b hb).1,w0⟩
 rintro n s3 ⟨i,σ3,H3,I3,st3,fr3,w3⟩
 rcases turn i n σ3 H3 w3 with ⟨stop,qn⟩ | ⟨go,N,hN,step⟩
 ·refine wpAny_passesOwn hp (thn (T.done X rfl rfl rfl hc i pins s3 σ3 H3 X.xe I3 (stat fr3) st3 stop) fun r s4 ⟨hr,I4⟩=>?_)
  subst hr
  exact wpAny_execs_nil ⟨σ3,H3,I4,qn⟩
 ·refine wpAny_passesOwn hp (thn (T.item X rfl rfl rfl hc i pins s3 σ3 H3 X.xe I3 (stat fr3) st3 go) fun r s4 ⟨u,hr,h4⟩=>?_)
  subst hr
  refine wpAny_passesOwn hp (thn h4 fun _ s5 ⟨x,H5,I5,r5,y5,st5,fr5⟩=>?_)
  have I5':=I5.pinned (stat fr5) (T.obj _ _ st5)
  refine wpAny_passesOwn hp (thn (hg _ s5 σ3 H5 x u _ I5' r5 (step x H5 y5)) fun _ s6 ⟨σ6,H6,I6,q6⟩=>?_)
  refine wpAny_passesOwn hp (thn (hb _ s6 σ6 H6 _ I6 q6) fun f s7 q7=>?_)
  have again:∀ {σ7:St} {H7:Hp},Inv X (pins++pinsAt fp s5.heap) σ7 H7 s7→N σ7 H7→∃ m,m < n∧∃ i σ' H',Inv X pins σ' H' s7∧tn i s7.heap∧(∀ b∈fp,H' b=none)∧W i m σ' H':=fun {σ7 H7} I7 n7=>by
   obtain ⟨m',hm,w7⟩:=hN σ7 H7 n7
   refine ⟨m',hm,i + 1,σ7,H7,I7.unpinned,T.keep _ _ _ st5 fun b hb o e=>(I7.pin (b,o) (List.mem_append_right _ (List.mem_append_right _ (mem_pinsAt hb e)))).1,fun b hb=>?_,w7⟩
   obtain ⟨o,e,d⟩:=T.obj _ _ st5 b hb
   exact (I7.pin (b,o) (List.mem_append_right _ (List.mem_append_right _ (mem_pinsAt hb e)))).2.1
  cases f with
  | next=>obtain ⟨σ7,H7,I7,n7⟩:=q7; exact again I7 n7
  | cont=>obtain ⟨σ7,H7,I7,n7⟩:=q7; exact again I7 n7
  | brk=>obtain ⟨σ7,H7,I7,q7⟩:=q7; exact ⟨σ7,H7,I7.unpinned,q7⟩
  | ret v=>obtain ⟨x7,σ7,H7,I7,r7,q7⟩:=q7; exact ⟨x7,σ7,H7,I7.unpinned,r7,q7⟩
end
theorem for_list {K:PySem.W.Frag} {a:Addr} {xs:List V} {g:TG} {tb:TS} {D:Ends} {σ:St} {H:Hp} (Pv:Nat→St→Hp→Prop) (h0:Pv 0 σ H) (hl:∀ i σ H,i≤xs.length→Pv i σ H→SqL K H a xs)
  (hs:∀ i x σ H,xs[i]?=some x→Pv i σ H→g x σ H fun σ2 H2=>tb { D with nx:=Pv (i + 1),ct:=Pv (i + 1),bk:=D.nx } σ2 H2) (hd:∀ σ H,Pv xs.length σ H→D.nx σ H) :
  ∃ W:Nat→Nat→St→Hp→Prop,(∃ m,W 0 m σ H)∧∀ i m σ H,W i m σ H→
   ((Itl K a).stop i H∧D.nx σ H)∨((Itl K a).go i H∧∃ N:St→Hp→Prop,(∀ σ' H',N σ' H'→∃ m',m' < m∧W (i + 1) m' σ' H')∧∀ x H',(Itl K a).yld i H x H'→g x σ H' fun σ2 H2=>tb { D with nx:=N,ct:=N,bk:=D.nx } σ2 H2):=by
 refine ⟨fun i m σ H=>m=xs.length - i∧i≤xs.length∧Pv i σ H,⟨xs.length,by simp,Nat.zero_le _,h0⟩,?_⟩
 rintro i m σ H ⟨rfl,hi,p⟩
 have q:=hl i σ H hi p
 by_cases hlt:i < xs.length
 ·refine .inr ⟨⟨xs,xs[i],q,by simp [hlt]⟩,Pv (i + 1),fun σ' H' p'=>⟨xs.length - (i + 1),by omega,rfl,hlt,p'⟩,fun x H' y=>?_⟩
  obtain ⟨e,y⟩:=y
  subst e
  exact hs i x σ _ (y xs q) p
 ·have e:i=xs.length:=by omega
  subst e
  exact .inl ⟨⟨xs,q,Nat.le_refl _⟩,hd σ H p⟩
theorem for_tup {K:PySem.W.Frag} {a:Addr} {xs:List V} {g:TG} {tb:TS} {D:Ends} {σ:St} {H:Hp} (Pv:Nat→St→Hp→Prop) (h0:Pv 0 σ H) (hl:∀ i σ H,i≤xs.length→Pv i σ H→SqT K H a xs)
  (hs:∀ i x σ H,xs[i]?=some x→Pv i σ H→g x σ H fun σ2 H2=>tb { D with nx:=Pv (i + 1),ct:=Pv (i + 1),bk:=D.nx } σ2 H2) (hd:∀ σ H,Pv xs.length σ H→D.nx σ H) :
  ∃ W:Nat→Nat→St→Hp→Prop,(∃ m,W 0 m σ H)∧∀ i m σ H,W i m σ H→
   ((Itt K a).stop i H∧D.nx σ H)∨((Itt K a).go i H∧∃ N:St→Hp→Prop,(∀ σ' H',N σ' H'→∃ m',m' < m∧W (i + 1) m' σ' H')∧∀ x H',(Itt K a).yld i H x H'→g x σ H' fun σ2 H2=>tb { D with nx:=N,ct:=N,bk:=D.nx } σ2 H2):=by
 refine ⟨fun i m σ H=>m=xs.length - i∧i≤xs.length∧Pv i σ H,⟨xs.length,by simp,Nat.zero_le _,h0⟩,?_⟩
 rintro i m σ H ⟨rfl,hi,p⟩
 have q:=hl i σ H hi p
 by_cases hlt:i < xs.length
 ·refine .inr ⟨⟨xs,xs[i],q,by simp [hlt]⟩,Pv (i + 1),fun σ' H' p'=>⟨xs.length - (i + 1),by omega,rfl,hlt,p'⟩,fun x H' y=>?_⟩
  obtain ⟨e,y⟩:=y
  subst e
  exact hs i x σ _ (y xs q) p
 ·have e:i=xs.length:=by omega
  subst e
  exact .inl ⟨⟨xs,q,Nat.le_refl _⟩,hd σ H p⟩
theorem for_range {lo:Int} {n:Nat} {g:TG} {tb:TS} {D:Ends} {σ:St} {H:Hp} (Pv:Nat→St→Hp→Prop) (h0:Pv 0 σ H)
  (hs:∀ i σ H,i < n→Pv i σ H→g (.int (lo + i)) σ H fun σ2 H2=>tb { D with nx:=Pv (i + 1),ct:=Pv (i + 1),bk:=D.nx } σ2 H2) (hd:∀ σ H,Pv n σ H→D.nx σ H) :
  ∃ W:Nat→Nat→St→Hp→Prop,(∃ m,W 0 m σ H)∧∀ i m σ H,W i m σ H→
   ((Itr lo n).stop i H∧D.nx σ H)∨((Itr lo n).go i H∧∃ N:St→Hp→Prop,(∀ σ' H',N σ' H'→∃ m',m' < m∧W (i + 1) m' σ' H')∧∀ x H',(Itr lo n).yld i H x H'→g x σ H' fun σ2 H2=>tb { D with nx:=N,ct:=N,bk:=D.nx } σ2 H2):=by
 refine ⟨fun i m σ H=>m=n - i∧i≤n∧Pv i σ H,⟨n,by simp,Nat.zero_le _,h0⟩,?_⟩
 rintro i m σ H ⟨rfl,hi,p⟩
 by_cases hlt:i < n
 ·refine .inr ⟨hlt,Pv (i + 1),fun σ' H' p'=>⟨n - (i + 1),by omega,rfl,hlt,p'⟩,fun x H' y=>?_⟩
  obtain ⟨e,y⟩:=y
  subst e y
  exact hs i σ _ hlt p
 ·have e:i=n:=by omega
  subst e
  exact .inl ⟨Nat.le_refl _,hd σ H p⟩
end L2
namespace L2
open PySem PySem.Spec PyProof.Rows
abbrev R2:=V→V→Hp→VK→Prop
def OpR (X:Cx) (f:Value→Value→Sem Value) (r:R2):Prop:=
 ∀ (pins:List (Addr×Obj)) (s:Shared) (σ:St) (H:Hp) (x y:V) (v u:Value) (Q:VK),Inv X pins σ H s→RelV x v→RelV y u→r x y H Q→
  wpAny (model X.prog X.w) X.A (f v u) (EP X pins σ Q) X.xe s
def CallR (X:Cx) (f:Value) (r:List V→Hp→VK→Prop):Prop:=
 ∀ (pins:List (Addr×Obj)) (s:Shared) (σ:St) (H:Hp) (xs:List V) (us:List Value) (Q:VK),Inv X pins σ H s→Vals xs us→r xs H Q→
  wpAny (model X.prog X.w) X.A (call f us) (EP X pins σ Q) X.xe s
def tOp (r:R2) (ta tb:TE):TE:=fun σ H Q=>ta σ H fun x H1=>tb σ H1 fun y H2=>r x y H2 Q
def rI (C:Int→Int→Prop) (g:Int→Int→V):R2:=fun x y H Q=>∃ i j,x=.int i∧y=.int j∧C i j∧Q (g i j) H
def rI0 (g:Int→Int→V):R2:=fun x y H Q=>∃ i j,x=.int i∧y=.int j∧Q (g i j) H
section
variable {X:Cx} {a b c:Expr} {ta tb tc:TE} {pos:Pos}
theorem binT (ha:PE X a ta) (hb:PE X b tb) {pins:List (Addr×Obj)} {s:Shared} {σ:St} {H:Hp} {R:V→V→Hp→Prop} (I:Inv X pins σ H s)
  (h:ta σ H fun x H1=>tb σ H1 fun y H2=>R x y H2) {Q:Value→Shared→Prop} {f:Value→Value→Sem Value}
  (hf:∀ v u s2 x y H2,Inv X pins σ H2 s2→RelV x v→RelV y u→R x y H2→wpAny (model X.prog X.w) X.A (f v u) Q X.xe s2) :
  wpAny (model X.prog X.w) X.A (eval a X.env) (fun v s₁=>wpAny (model X.prog X.w) X.A (eval b X.env) (fun u s₂=>wpAny (model X.prog X.w) X.A (f v u) Q X.xe s₂) X.xe s₁) X.xe s:=by
 refine thn (ha pins s σ H _ I h) fun v s1 ⟨x,H1,I1,r1,q1⟩=>?_
 refine thn (hb pins s1 σ H1 _ I1 q1) fun u s2 ⟨y,H2,I2,r2,q2⟩=>?_
 exact hf v u s2 x y H2 I2 r1 r2 q2
theorem pe_op {op:Operator} {r:R2} (ho:OpR X (binaryOp op) r) (ha:PE X a ta) (hb:PE X b tb):PE X (.BinOp a op b pos) (tOp r ta tb):=by
 intro pins s σ H Q I h
 exact wpAny_BinOp (binT ha hb I h fun v u s2 x y H2 I2 rx ry q=>ho pins s2 σ H2 x y v u Q I2 rx ry q)
theorem opI {f:Value→Value→Sem Value} {C:Int→Int→Prop} {g:Int→Int→Int}
  (rule:∀ (i j:Int) (t u:Tok) (s:Shared) (Q:Value→Shared→Prop) (E:Value→Shared→Prop),C i j→Q (.int (g i j) s.toks) { s with toks:=s.toks + 1 }→wpAny (model X.prog X.w) X.A (f (.int i t) (.int j u)) Q E s) :
  OpR X f (rI C fun i j=>.int (g i j)):=by
 intro pins s σ H x y v u Q I rx ry h
 obtain ⟨i,j,rfl,rfl,hc,q⟩:=h
 obtain ⟨t,rfl⟩:=rx
 obtain ⟨t',rfl⟩:=ry
 exact rule i j t t' s _ _ hc ⟨.int (g i j),H,I.tok _,⟨_,rfl⟩,q⟩
theorem opI0 {f:Value→Value→Sem Value} {g:Int→Int→Int}
  (rule:∀ (i j:Int) (t u:Tok) (s:Shared) (Q:Value→Shared→Prop) (E:Value→Shared→Prop),Q (.int (g i j) s.toks) { s with toks:=s.toks + 1 }→wpAny (model X.prog X.w) X.A (f (.int i t) (.int j u)) Q E s) :
  OpR X f (rI0 fun i j=>.int (g i j)):=by
 intro pins s σ H x y v u Q I rx ry h
 obtain ⟨i,j,rfl,rfl,q⟩:=h
 obtain ⟨t,rfl⟩:=rx
 obtain ⟨t',rfl⟩:=ry
 exact rule i j t t' s _ _ ⟨.int (g i j),H,I.tok _,⟨_,rfl⟩,q⟩
theorem opB0 {f:Value→Value→Sem Value} {g:Int→Int→Bool}
  (rule:∀ (i j:Int) (t u:Tok) (s:Shared) (Q:Value→Shared→Prop) (E:Value→Shared→Prop),Q (.bool (g i j)) s→wpAny (model X.prog X.w) X.A (f (.int i t) (.int j u)) Q E s) :
  OpR X f (rI0 fun i j=>.bl (g i j)):=by
 intro pins s σ H x y v u Q I rx ry h
 obtain ⟨i,j,rfl,rfl,q⟩:=h
 obtain ⟨t,rfl⟩:=rx
 obtain ⟨t',rfl⟩:=ry
 exact rule i j t t' s _ _ ⟨.bl (g i j),H,I,rfl,q⟩
def CDiv (i j:Int):Prop:=0 < j∧j < 1073741824
def CPow (i j:Int):Prop:=0≤j∧j≤1000000∧i.natAbs < 2 ^ 64
def CMul (i j:Int):Prop:=(-(2 ^ 64) < i∧i < 2 ^ 64)∨(-(2 ^ 64) < j∧j < 2 ^ 64)
theorem CMul.ok {i j:Int} (h:CMul i j):IntMulOk i j:=by
 rcases h with ⟨h1,h2⟩ | ⟨h1,h2⟩
 ·exact .of_left (intBits_le_64 h1 h2)
 ·exact .of_right (intBits_le_64 h1 h2)
theorem op_add:OpR X (binaryOp .Add) (rI0 fun i j=>.int (i + j)):=opI0 fun _ _ _ _ _ _ _ q=>add_int q
theorem op_sub:OpR X (binaryOp .Sub) (rI0 fun i j=>.int (i - j)):=opI0 fun _ _ _ _ _ _ _ q=>sub_int q
theorem op_mul:OpR X (binaryOp .Mult) (rI CMul fun i j=>.int (i * j)):=opI fun _ _ _ _ _ _ _ hc q=>mul_int q hc.ok
theorem op_fdiv:OpR X (binaryOp .FloorDiv) (rI CDiv fun i j=>.int (i / j)):=opI fun i j _ _ _ _ _ hc q=>by
 have h1:(0:Int) < j:=hc.1
 have h2:j < 1073741824:=hc.2
 exact floordiv_int (by omega) (by rw [Int.fdiv_eq_ediv_of_nonneg i (by omega)]; exact q) (.inl (PyProof.noPylong_small (by omega)))
theorem op_mod:OpR X (binaryOp .Mod) (rI (fun _ j=>0 < j) fun i j=>.int (i % j)):=opI fun i j _ _ _ _ _ hc q=>by
 have h1:(0:Int) < j:=hc
 exact mod_int' (by omega) (by rw [Int.fmod_eq_emod_of_nonneg i (by omega)]; exact q)
theorem op_pow:OpR X (binaryOp .Pow) (rI CPow fun i j=>.int (i ^ j.toNat)):=opI fun _ _ _ _ _ _ _ hc q=>pow_int_small hc.1 hc.2.1 hc.2.2 q
theorem op_xor:OpR X (binaryOp .BitXor) (rI0 fun i j=>.int (Builtin.bitXor i j)):=opI0 fun _ _ _ _ _ _ _ q=>xor_int q
end
def scal:V→V→Bool
 | .non,.non=>true | .non,.int _=>true | .int _,.non=>true | .non,.bl _=>true | .bl _,.non=>true | .non,.str _=>true | .str _,.non=>true
 | .int _,.int _=>true | .bl _,.bl _=>true | .str _,.str _=>true | .byt _,.byt _=>true
 | .int _,.str _=>true | .str _,.int _=>true | .bl _,.str _=>true | .str _,.bl _=>true
 | _,_=>false
def rEq:R2:=fun x y H Q=>scal x y=true∧Q (.bl (decide (x=y))) H
def rNe:R2:=fun x y H Q=>scal x y=true∧Q (.bl (!decide (x=y))) H
theorem dec_int {i j:Int}:decide (V.int i=V.int j)=(i == j):=by
 rw [Bool.eq_iff_iff]
 simp
theorem dec_bl {i j:Bool}:decide (V.bl i=V.bl j)=(i == j):=by
 rw [Bool.eq_iff_iff]
 simp
theorem dec_str {i j:Str}:decide (V.str i=V.str j)=(i == j):=by
 rw [Bool.eq_iff_iff]
 simp
theorem dec_byt {i j:Array UInt8}:decide (V.byt i=V.byt j)=(i.toList == j.toList):=by
 rw [Bool.eq_iff_iff]
 cases i
 cases j
 simp
section
variable {X:Cx} {a b c:Expr} {ta tb tc:TE} {pos:Pos}
theorem fin_bl {pins:List (Addr×Obj)} {σ:St} {H:Hp} {s:Shared} {Q:VK} {k k':Bool} (I:Inv X pins σ H s) (q:Q (.bl k) H) (e:k=k'):EP X pins σ Q (.bool k') s:=by
 subst e
 exact ⟨.bl k,H,I,rfl,q⟩
theorem op_eq:OpR X (compareOp .Eq) rEq:=by
 intro pins s σ H x y v u Q I rx ry h
 obtain ⟨hs,q⟩:=h
 cases x with
 | non=>
  cases rx
  cases y with
  | non=>cases ry; exact PySem.EqNone.eq_none_none (fin_bl I q (by simp))
  | bl j=>cases ry; exact PySem.EqNone.eq_none_bool (fin_bl I q (by simp))
  | int j=>obtain ⟨t',rfl⟩:=ry; exact PySem.EqNone.eq_none_int (fin_bl I q (by simp))
  | str j=>obtain ⟨t',rfl⟩:=ry; exact PySem.EqNone.eq_none_str (fin_bl I q (by simp))
  | _=>exact absurd (show false=true from hs) Bool.false_ne_true
 | bl i=>
  cases rx
  cases y with
  | non=>cases ry; exact PySem.EqNone.eq_bool_none (fin_bl I q (by simp))
  | bl j=>cases ry; exact eq_bool (fin_bl I q dec_bl)
  | str j=>obtain ⟨t',rfl⟩:=ry; exact PySem.EqMixed.eq_bool_str (fin_bl I q (by simp))
  | _=>exact absurd (show false=true from hs) Bool.false_ne_true
 | int i=>
  obtain ⟨t,rfl⟩:=rx
  cases y with
  | non=>cases ry; exact PySem.EqNone.eq_int_none (fin_bl I q (by simp))
  | int j=>obtain ⟨t',rfl⟩:=ry; exact eq_int (fin_bl I q dec_int)
  | str j=>obtain ⟨t',rfl⟩:=ry; exact PySem.EqMixed.eq_int_str (fin_bl I q (by simp))
  | _=>exact absurd (show false=true from hs) Bool.false_ne_true
 | str i=>
  obtain ⟨t,rfl⟩:=rx
  cases y with
  | non=>cases ry; exact PySem.EqNone.eq_str_none (fin_bl I q (by simp))
  | bl j=>cases ry; exact PySem.EqMixed.eq_str_bool (fin_bl I q (by simp))
  | int j=>obtain ⟨t',rfl⟩:=ry; exact PySem.EqMixed.eq_str_int (fin_bl I q (by simp))
  | str j=>obtain ⟨t',rfl⟩:=ry; exact eq_str (fin_bl I q dec_str)
  | _=>exact absurd (show false=true from hs) Bool.false_ne_true
 | byt i=>
  obtain ⟨t,rfl⟩:=rx
  cases y with
  | byt j=>obtain ⟨t',rfl⟩:=ry; exact PySem.W.eq_bytes (fin_bl I q dec_byt)
  | _=>exact absurd (show false=true from hs) Bool.false_ne_true
 | _=>cases y <;> exact absurd (show false=true from hs) Bool.false_ne_true
theorem op_ne:OpR X (compareOp .NotEq) rNe:=by
 intro pins s σ H x y v u Q I rx ry h
 obtain ⟨hs,q⟩:=h
 cases x with
 | non=>
  cases rx
  cases y with
  | non=>cases ry; exact PySem.EqNone.ne_none_none (fin_bl I q (by simp))
  | bl j=>cases ry; exact PySem.EqNone.ne_none_bool (fin_bl I q (by simp))
  | int j=>obtain ⟨t',rfl⟩:=ry; exact PySem.EqNone.ne_none_int (fin_bl I q (by simp))
  | str j=>obtain ⟨t',rfl⟩:=ry; exact PySem.EqNone.ne_none_str (fin_bl I q (by simp))
  | _=>exact absurd (show false=true from hs) Bool.false_ne_true
 | bl i=>
  cases rx
  cases y with
  | non=>cases ry; exact PySem.EqNone.ne_bool_none (fin_bl I q (by simp))
  | bl j=>cases ry; exact ne_bool (fin_bl I q (congrArg not dec_bl))
  | str j=>obtain ⟨t',rfl⟩:=ry; exact PySem.EqMixed.ne_bool_str (fin_bl I q (by simp))
  | _=>exact absurd (show false=true from hs) Bool.false_ne_true
 | int i=>
  obtain ⟨t,rfl⟩:=rx
  cases y with
  | non=>cases ry; exact PySem.EqNone.ne_int_none (fin_bl I q (by simp))
  | int j=>obtain ⟨t',rfl⟩:=ry; exact ne_int (fin_bl I q (congrArg not dec_int))
  | str j=>obtain ⟨t',rfl⟩:=ry; exact PySem.EqMixed.ne_int_str (fin_bl I q (by simp))
  | _=>exact absurd (show false=true from hs) Bool.false_ne_true
 | str i=>
  obtain ⟨t,rfl⟩:=rx
  cases y with
  | non=>cases ry; exact PySem.EqNone.ne_str_none (fin_bl I q (by simp))
  | bl j=>cases ry; exact PySem.EqMixed.ne_str_bool (fin_bl I q (by simp))
  | int j=>obtain ⟨t',rfl⟩:=ry; exact PySem.EqMixed.ne_str_int (fin_bl I q (by simp))
  | str j=>obtain ⟨t',rfl⟩:=ry; exact ne_str (fin_bl I q (congrArg not dec_str))
  | _=>exact absurd (show false=true from hs) Bool.false_ne_true
 | byt i=>
  obtain ⟨t,rfl⟩:=rx
  cases y with
  | byt j=>obtain ⟨t',rfl⟩:=ry; exact PySem.W.ne_bytes (fin_bl I q (congrArg not dec_byt))
  | _=>exact absurd (show false=true from hs) Bool.false_ne_true
 | _=>cases y <;> exact absurd (show false=true from hs) Bool.false_ne_true
theorem op_lt:OpR X (compareOp .Lt) (rI0 fun i j=>.bl (decide (i < j))):=opB0 fun _ _ _ _ _ _ _ q=>lt_int q
theorem op_le:OpR X (compareOp .LtE) (rI0 fun i j=>.bl (decide (i≤j))):=opB0 fun _ _ _ _ _ _ _ q=>le_int q
theorem op_gt:OpR X (compareOp .Gt) (rI0 fun i j=>.bl (decide (j < i))):=opB0 fun _ _ _ _ _ _ _ q=>gt_int q
theorem op_ge:OpR X (compareOp .GtE) (rI0 fun i j=>.bl (decide (j≤i))):=opB0 fun _ _ _ _ _ _ _ q=>ge_int q
theorem op_isN:OpR X (compareOp .Is) (fun x y H Q=>y=.non∧Q (.bl (decide (x=.non))) H):=by
 intro pins s σ H x y v u Q I rx ry h
 obtain ⟨rfl,q⟩:=h
 cases ry
 refine is_none_gen (fin_bl I q ?_)
 cases x <;> first
  | (cases rx; rfl)
  | (obtain ⟨t,rfl⟩:=rx; rfl)
theorem op_notN:OpR X (compareOp .IsNot) (fun x y H Q=>y=.non∧Q (.bl (!decide (x=.non))) H):=by
 intro pins s σ H x y v u Q I rx ry h
 obtain ⟨rfl,q⟩:=h
 cases ry
 refine isnot_none_gen (fin_bl I q ?_)
 cases x <;> first
  | (cases rx; rfl)
  | (obtain ⟨t,rfl⟩:=rx; rfl)
theorem nomark (b:Expr) {op:CmpOp} (h:op≠.In:=by decide) (h2:op≠.NotIn:=by decide):behindInMarks op b=false:=by
 have e1:(op == CmpOp.In)=false:=by cases op <;> first | rfl | exact absurd rfl h
 have e2:(op == CmpOp.NotIn)=false:=by cases op <;> first | rfl | exact absurd rfl h2
 cases b <;> simp [behindInMarks,e1,e2]
theorem pe_cmpR {op:CmpOp} {r:R2} (ho:OpR X (compareOp op) r) (ha:PE X a ta) (hb:PE X b tb) (hm:behindInMarks op b=false):PE X (.Compare a [op] [b] pos) (tOp r ta tb):=by
 intro pins s σ H Q I h
 exact wpAny_Compare1 (binT ha hb I h fun v u s2 x y H2 I2 rx ry q=>ho pins s2 σ H2 x y v u Q I2 rx ry q) hm
def tTest (t:TE):TT:=fun σ H Q=>t σ H fun x H'=>∃ k,x=.bl k∧Q k H'
theorem pt_cmpR {op:CmpOp} {r:R2} (ho:OpR X (compareOp op) r) (ha:PE X a ta) (hb:PE X b tb) (hm:behindInMarks op b=false):PT X (.Compare a [op] [b] pos) (tTest (tOp r ta tb)):=by
 intro pins s σ H Q I h
 refine wpAny_isTrue_Compare1 (thn (ha pins s σ H _ I h) fun v s1 ⟨x,H1,I1,r1,q1⟩=>thn (hb pins s1 σ H1 _ I1 q1) fun u s2 ⟨y,H2,I2,r2,q2⟩=>
  thn (ho pins s2 σ H2 x y v u _ I2 r1 r2 q2) fun c s3 ⟨z,H3,I3,r3,k,e,q3⟩=>?_) hm
 subst e
 cases r3
 exact wpAny_truthy_bool ⟨H3,I3,q3⟩
theorem line63:(sizeLine:Nat) < 2 ^ 63:=by rw [sizeLine_eq]; decide
theorem vals1 {x:V} {us:List Value} (r:Vals [x] us):∃ u,us=[u]∧RelV x u:=by
 cases r with
 | cons r1 r2=>cases r2; exact ⟨_,rfl,r1⟩
theorem vals2 {x y:V} {us:List Value} (r:Vals [x,y] us):∃ u w',us=[u,w']∧RelV x u∧RelV y w':=by
 cases r with
 | cons r1 r2=>
  cases r2 with
  | cons r3 r4=>cases r4; exact ⟨_,_,rfl,r1,r3⟩
theorem call_abs:CallR X (.builtin "abs") (fun xs H Q=>∃ i,xs=[.int i]∧Q (.int (if i < 0 then -i else i)) H):=by
 intro pins s σ H xs us Q I r h
 obtain ⟨i,rfl,q⟩:=h
 obtain ⟨u,rfl,t,rfl⟩:=vals1 r
 exact call_abs_int fun u tk=>⟨.int (if i < 0 then -i else i),H,I.tok _,⟨_,rfl⟩,q⟩
theorem call_max2 (hc:X.calm=true):CallR X (.builtin "max") (fun xs H Q=>∃ i j,xs=[.int i,.int j]∧Q (.int (if j > i then j else i)) H):=by
 intro pins s σ H xs us Q I r h
 obtain ⟨i,j,rfl,q⟩:=h
 obtain ⟨u,w',rfl,⟨t,rfl⟩,⟨t',rfl⟩⟩:=vals2 r
 refine max_two_ints (I.ok.hd hc) fun h' tk k=>⟨_,H,I.kept k,?_,q⟩
 by_cases hj:j > i
 ·rw [if_pos hj,if_pos hj]; exact ⟨_,rfl⟩
 ·rw [if_neg hj,if_neg hj]; exact ⟨_,rfl⟩
theorem call_int1:CallR X (.type "int") (fun xs H Q=>(∃ i,xs=[.int i]∧Q (.int i) H)∨∃ k,xs=[.bl k]∧Q (.int (if k then 1 else 0)) H):=by
 intro pins s σ H xs us Q I r h
 rcases h with ⟨i,rfl,q⟩ | ⟨k,rfl,q⟩
 ·obtain ⟨u,rfl,t,rfl⟩:=vals1 r
  exact call_int_int ⟨.int i,H,I,⟨_,rfl⟩,q⟩
 ·obtain ⟨u,rfl,r1⟩:=vals1 r
  cases r1
  exact call_int_bool ⟨.int (if k then 1 else 0),H,I.tok _,⟨_,rfl⟩,q⟩
end
end L2
namespace L2
open PySem PySem.Spec PyProof.Rows
structure ObjM (h:Heap) (x dx C:Addr) (mA:Str→Option Value):Prop where
 obj:h.get? x=some (PySem.W.instObj C dx)
 ns:h.Ns1 dx mA
 ne:dx≠x
theorem lookIn_ns {h:Heap} {dx:Addr} {mA:Str→Option Value} (n:h.Ns1 dx mA):∃ od,h.get? dx=some od∧∀ name,PySem.W.lookIn name od=some (mA name):=by
 obtain ⟨o,es,ep,ho,hd,hk,_,hm⟩:=n
 refine ⟨o,ho,fun name=>?_⟩
 have e:=hm name
 unfold nsFind findBy at e
 rw [← Array.find?_toList] at e
 unfold PySem.W.lookIn
 rw [hd]
 dsimp only
 split
 ·rename_i y q
  rw [q] at e
  exact congrArg some e
 ·rename_i q
  rw [q] at e
  have a:es.toList.any (·.refKey)=false:=by
   rw [List.any_eq_false]
   intro y hy
   obtain ⟨z,t,hkey⟩:=hk y (Array.mem_toList_iff.mp hy)
   simp [DictEntry.refKey,hkey]
  have a':¬ es.toList.any (·.refKey)=true:=by rw [a]; exact Bool.false_ne_true
  rw [if_neg a']
  exact congrArg some e
theorem ObjM.look {h:Heap} {x dx C:Addr} {mA:Str→Option Value} (I:ObjM h x dx C mA):∃ od,PySem.W.InstAt h x (PySem.W.instObj C dx) C (some od)∧∀ name,PySem.W.lookIn name od=some (mA name):=
 let ⟨od,ho,hl⟩:=lookIn_ns I.ns
 ⟨od,⟨I.obj,rfl,rfl,ho⟩,hl⟩
section
variable {prog:Program} {w:World} {A:Around} {E:Value→Shared→Prop} {s:Shared} {K:PySem.W.Frag} {x dx C f:Addr} {mA:Str→Option Value} {name:Str} {v:Value}
end
section
variable {P:Program} {w:World} {H H':Hp} {h h':Heap} {a C dx:Addr} {fs fs':List (Str×V)}
theorem ins_get (hok:HOk P w H h) (e:H a=some (.ins C dx fs)):∃ mA,ObjM h a dx C mA∧(∀ f,RelO (fs.lookup f) (mA f))∧PySem.Within mA (fs.map (·.1))∧fs.length≤1000∧H dx=some (.own a):=by
 obtain ⟨d,z,ne,ob,mA,n,r,q⟩:=(show ObjOk P w H h a (.ins C dx fs) from hok a _ e)
 exact ⟨mA,⟨ob,n,ne⟩,r,q,z,d⟩
end
structure Cls (K:PySem.W.Frag) (C:Addr):Prop where
 pg:PySem.W.plainGet K C Str.empty=true
 hd:PySem.W.hasDictIn K C=true
 po:PySem.W.plainOver K C=true
 sa:PySem.W.findIn K (.ref C) "__setattr__"=some (some (.builtin "object.__setattr__"))
theorem Cls.get {K:PySem.W.Frag} {C:Addr} (c:Cls K C) (f:Str):PySem.W.plainGet K C f=true:=c.pg
section
variable {X:Cx} {pins:List (Addr×Obj)} {σ:St} {H:Hp} {s:Shared} {a C dx:Addr} {fs:List (Str×V)} {f:Str} {v:V} {A:Around} {E:Value→Shared→Prop}
end
section
variable {X:Cx} {o e value:Expr} {f:Str} {pos pos' tpos:Pos} {ta tv:TE}
end
section
variable {X:Cx} {pins:List (Addr×Obj)} {σ:St} {H:Hp} {s:Shared} {A:Around} {E:Value→Shared→Prop} {Q:Value→Shared→Prop} {c:Value} {b:Bool}
inductive TyOf (K:PySem.W.Frag) (H:Hp):V→Value→Prop where
 | non:TyOf K H .non (.type "NoneType")
 | bl (x:Bool):TyOf K H (.bl x) (.type "bool")
 | int (i:Int):TyOf K H (.int i) (.type "int")
 | str (x:Str):TyOf K H (.str x) (.type "str")
 | flt (x:UInt64):TyOf K H (.flt x) (.type "float")
 | lst {a:Addr} {xs:List V} (e:H a=some (.lst xs)):TyOf K H (.ref a) (.type "list")
 | frz {a:Addr} {o:Obj} {xs:List V} (e:H a=some (.frz o (.lst xs))):TyOf K H (.ref a) (.type "list")
 | tup {a:Addr} {xs:List V} (e:H a=some (.tup xs)):TyOf K H (.ref a) (.type "tuple")
 | dK {a:Addr} {kvs:List (Key×V)} (e:H a=some (.dK kvs)):TyOf K H (.ref a) (.type "dict")
 | dT {a:Addr} {kvs:List (List Key×V)} (e:H a=some (.dT kvs)):TyOf K H (.ref a) (.type "dict")
 | ins {a C dx:Addr} {fs:List (Str×V)} (e:H a=some (.ins C dx fs)) (cl:Cls K C) (ha:PySem.W.findIn K (.ref C) "__class__"=some (some (.builtin "object.__class__")))
   (hn:PySem.W.specialIn K (.builtin "object.__class__") "__get__"=some (some (.builtin "getset_descriptor.__get__"))) (htk:PySem.W.takesIn K (.builtin "object.__class__")=some true)
   (hm:PySem.W.mroIn K C (.type "object")=some true):TyOf K H (.ref a) (.ref C)
theorem isinst_ok {x:V} {u t:Value} (I:Inv X pins σ H s) (rx:RelV x u) (ty:TyOf X.K H x t) (e:PySem.W.kitOne X.K t c=some b) (h:∀ tk,Q (.bool b) { s with toks:=tk }) :
  wpAny (model X.prog X.w) A (call (.builtin "isinstance") [u,c]) Q E s:=by
 cases ty with
 | non=>cases (show u=Value.none from rx); exact PySem.W.kia_one PySem.W.kitx_none I.kIn True.intro e (fun z=>nomatch z) h
 | bl y=>cases (show u=Value.bool y from rx); exact PySem.W.kia_one PySem.W.kitx_bool I.kIn True.intro e (fun z=>nomatch z) h
 | int i=>obtain ⟨t,q⟩:=(show ∃ t,u=Value.int i t from rx); cases q; exact PySem.W.kia_one PySem.W.kitx_int I.kIn True.intro e (fun z=>nomatch z) h
 | str y=>obtain ⟨t,q⟩:=(show ∃ t,u=Value.str y t from rx); cases q; exact PySem.W.kia_one PySem.W.kitx_str I.kIn True.intro e (fun z=>nomatch z) h
 | flt y=>obtain ⟨t,q⟩:=(show ∃ t,u=Value.float y t from rx); cases q; exact PySem.W.kia_one PySem.W.kitx_float I.kIn True.intro e (fun z=>nomatch z) h
 | @lst a xs ea=>
  cases (show u=Value.ref a from rx)
  obtain ⟨_,_,n,_,h1⟩:=(show ObjOk X.prog X.w H s.heap a (.lst xs) from I.hok a _ ea)
  exact PySem.W.kia_one PySem.W.kitx_list I.kIn ⟨_,h1,rfl⟩ e (fun z=>nomatch z) h
 | @frz a ob xs ea=>
  cases (show u=Value.ref a from rx)
  obtain ⟨_,_,_,n,_,h1⟩:=(show ObjOk X.prog X.w H s.heap a (.frz ob (.lst xs)) from I.hok a _ ea)
  exact PySem.W.kia_one PySem.W.kitx_list I.kIn ⟨_,h1,rfl⟩ e (fun z=>nomatch z) h
 | @tup a xs ea=>
  cases (show u=Value.ref a from rx)
  obtain ⟨_,_,_,p⟩:=(show ObjOk X.prog X.w H s.heap a (.tup xs) from I.hok a _ ea)
  obtain ⟨o,h1,h2,_⟩:=p
  exact PySem.W.kia_one PySem.W.kitx_tuple I.kIn ⟨o,h1,h2⟩ e (fun z=>nomatch z) h
 | @dK a kvs ea=>
  cases (show u=Value.ref a from rx)
  obtain ⟨_,_,vs,_,p⟩:=(show ObjOk X.prog X.w H s.heap a (.dK kvs) from I.hok a _ ea)
  obtain ⟨o,es,ep,h1,h2,_⟩:=p
  exact PySem.W.kia_one PySem.W.kitx_dict I.kIn ⟨o,h1,h2.1⟩ e (fun z=>nomatch z) h
 | @dT a kvs ea=>
  cases (show u=Value.ref a from rx)
  obtain ⟨_,_,xs,_,o,es,ep,h1,h2,_⟩:=(show ObjOk X.prog X.w H s.heap a (.dT kvs) from I.hok a _ ea)
  exact PySem.W.kia_one PySem.W.kitx_dict I.kIn ⟨o,h1,h2.1⟩ e (fun z=>nomatch z) h
 | @ins a C dx fs ea cl ha hn htk hm=>
  cases (show u=Value.ref a from rx)
  obtain ⟨mA,O,_⟩:=ins_get I.hok ea
  obtain ⟨od,J,_⟩:=O.look
  exact PySem.W.kia_one (PySem.W.kitx_own (cl.get _) cl.hd ha hn htk hm) I.kIn J e (fun z=>nomatch z) h
end
end L2
namespace L2
open PySem PySem.Spec PyProof.Rows
structure Room (k:Nat) (A:Around):Prop where
 hd:A.handled=none
 dp:A.depth + 3 * k + 5 < recursionLimit
 un:A.units + 16 * k + 200 < cLine
 gd:A.guards=some []
theorem Room.mono {j k:Nat} {A:Around} (r:Room k A) (h:j≤k):Room j A:=⟨r.hd,by have:=r.dp; omega,by have:=r.un; omega,r.gd⟩
theorem Room.deeper {k:Nat} {A:Around} (r:Room (k + 1) A) (env:Env):Room k (A.deeper env):=
 ⟨r.hd,by have:=r.dp; show A.depth + 1 + 3 * k + 5 < _; omega,by have:=r.un; show A.units + 3 + 16 * k + 200 < _; omega,r.gd⟩
theorem Room.depth {k:Nat} {A:Around} (r:Room k A):A.depth < recursionLimit:=by have:=r.dp; omega
theorem Room.units {k:Nat} {A:Around} (r:Room k A):A.units + 64 < cLine:=by have:=r.un; omega
def tNil:TA:=fun _ H Q=>Q [] H
def tCons (ta:TE) (tr:TA):TA:=fun σ H Q=>ta σ H fun x H1=>tr σ H1 fun xs H2=>Q (x::xs) H2
section
variable {X:Cx} {e:Expr} {es:List Expr} {te:TE} {t:TA} {pos:Pos}
theorem pa_nil:PA X [] tNil:=fun _ _ _ _ H Q I h=>Calls.spliced_nil ⟨[],H,I,.nil,h⟩
theorem pa_cons (ha:PE X e te) (hr:PA X es t) (hs:starEach (e::es) X.env=(false,eval e X.env)::starEach es X.env:=by rfl):PA X (e::es) (tCons te t):=by
 intro pos pins s σ H Q I h
 rw [hs]
 show wpAny _ _ (spliced ((false,eval e X.env)::backTo pos (starEach es X.env))) _ _ s
 refine Calls.spliced_cons (thn (ha pins s σ H _ I h) fun u s1 ⟨x,H1,I1,r1,q1⟩=>?_)
 exact thn (hr pos pins s1 σ H1 _ I1 q1) fun us s2 ⟨xs,H2,I2,r2,q2⟩=>⟨x::xs,H2,I2,.cons r1 r2,q2⟩
def tTup (t:TA):TE:=fun σ H Q=>t σ H fun xs H1=>xs.length≤sizeLine∧∀ p,H1 p=none→Q (.ref p) (upd H1 p (.tup xs))
def tLst (t:TA):TE:=fun σ H Q=>t σ H fun xs H1=>xs.length≤sizeLine∧∀ p,H1 p=none→Q (.ref p) (upd H1 p (.lst xs))
theorem pe_tup {x1} (h:PA X es t):PE X (.Tuple es x1 pos) (tTup t):=by
 intro pins s σ H Q I hq
 refine wpAny_Tuple_spliced (thn (h pos pins s σ H _ I hq) fun us s1 ⟨xs,H1,I1,r,z,q⟩=>⟨by rw [← r.length]; exact z,?_⟩)
 have hf:H1 s1.heap.objs.size=none:=I1.hok.fresh (Nat.le_refl _)
 refine ⟨.ref s1.heap.objs.size,upd H1 s1.heap.objs.size (.tup xs),I1.laid (t':=s1.toks) (fun b u e=>Heap.get?_push_of_some _ e) (Nat.le_refl _) ?_,rfl,q _ hf⟩
 exact ⟨z,us,r,⟨_,Heap.get?_push_size _ rfl,rfl,_,rfl⟩⟩
theorem pe_lst (h:PA X es t):PE X (.List es pos) (tLst t):=by
 intro pins s σ H Q I hq
 refine wpAny_List_spliced (thn (h pos pins s σ H _ I hq) fun us s1 ⟨xs,H1,I1,r,z,q⟩=>⟨by rw [← r.length]; exact z,?_⟩)
 have hf:H1 s1.heap.objs.size=none:=I1.hok.fresh (Nat.le_refl _)
 refine ⟨.ref s1.heap.objs.size,upd H1 s1.heap.objs.size (.lst xs),I1.laid (t':=s1.toks) (fun b u e=>Heap.get?_push_of_some _ e) (Nat.le_refl _) ?_,rfl,q _ hf⟩
 exact ⟨z,us,0,r,Heap.get?_push_size _ rfl⟩
end
abbrev Sp:=List V→Hp→VK→XK→Prop
abbrev CXT:=List Env→Hp→Shared→XK→Value→Shared→Prop
structure Env0 (P:Program) (w:World) (K:PySem.W.Frag) (mg:Str→Option Value) (base:Heap) (A:Around) (outer:List Env) (s:Shared) (H:Hp):Prop where
 frames:A.frames=some outer
 mod:Mod K mg base
 bs:∀ b o,base.get? b=some o→s.heap.get? b=some o∧H b=none
 bsz:base.objs.size≤s.heap.objs.size
 funs:s.heap.FunFrames base outer
 frf:∀ b∈frs outer,H b=none
 hok:HOk P w H s.heap
 bare:AllBare s.gens
def CE (outer:List Env) (P:Program) (w:World) (H:Hp) (s:Shared) (Q:VK) (u:Value) (s':Shared):Prop:=
 ∃ v H',s'.os=s.os∧AllBare s'.gens∧Un (frs outer) [] H H' s.heap s'.heap∧HOk P w H' s'.heap∧RelV v u∧Q v H'
def CR (CX:CXT) (outer:List Env) (P:Program) (w:World) (H:Hp) (s:Shared) (Q:VK) (E:XK) (r:Result) (s':Shared):Prop:=
 match r with
 | .ok (.ret u)=>CE outer P w H s Q u s'
 | .ok _=>False
 | .error e=>CX outer H s E e s'
structure FnOk (P:Program) (w:World) (K:PySem.W.Frag) (mg:Str→Option Value) (base:Heap) (CX:CXT) (k:Nat) (f:Addr) (fd:FuncData) (ps:List Str) (sp:Sp):Prop where
 len:∀ vs H Q E,sp vs H Q E→vs.length=ps.length
 run:∀ (A:Around) (outer:List Env) (s:Shared) (H:Hp) (args:Args) (us:List Value) (vs:List V) (Q:VK) (E:XK),Room k A→Env0 P w K mg base A outer s H→BindsTo s fd args (ps.zip us)→Vals vs us→sp vs H Q E→
  codeAny (model P w) A (.call (.ref f) args) (CR CX outer P w H s Q E) s
theorem FnOk.imp {P:Program} {w:World} {K:PySem.W.Frag} {mg:Str→Option Value} {base:Heap} {CX:CXT} {k:Nat} {f:Addr} {fd:FuncData} {ps:List Str} {sp sp':Sp} (F:FnOk P w K mg base CX k f fd ps sp)
  (h:∀ vs H Q E,sp' vs H Q E→sp vs H Q E):FnOk P w K mg base CX k f fd ps sp':=
 ⟨fun vs H Q E q=>F.len vs H Q E (h _ _ _ _ q),fun A outer s H args us vs Q E hr he hb hv hs=>F.run A outer s H args us vs Q E hr he hb hv (h _ _ _ _ hs)⟩
section
variable {X:Cx} {pins:List (Addr×Obj)} {σ:St} {H:Hp} {s s':Shared}
theorem Inv.env0 (I:Inv X pins σ H s):Env0 X.prog X.w X.K X.mg X.base X.A X.stack s H:=
 ⟨I.ok.frames,I.ok.mod,I.bs,Nat.le_trans I.ok.bsz I.sz,I.stack,I.stkFree,I.hok,I.bare⟩
theorem Inv.after {Q:VK} {u:Value} (I:Inv X pins σ H s) (h:CE X.stack X.prog X.w H s Q u s'):EP X pins σ Q u s':=by
 obtain ⟨v,H',os,bare,un,hok,r,q⟩:=h
 obtain ⟨hh,g,d,t,os'⟩:=s'
 obtain rfl:os'=s.os:=os
 exact ⟨v,H',I.call (h':=hh) (g':=g) (d':=d) (t':=t) (ch:=[]) un hok bare (fun b z=>absurd z (by simp)),r,q⟩
end
def tCall (sp:Sp) (dvs:List V) (E:XK) (t:TA):TE:=fun σ H Q=>t σ H fun vs H1=>sp (vs++dvs) H1 Q E
def Binds (K:PySem.W.Frag) (fd:FuncData) (ps:List Str) (ds:List Value):Prop:=
 ∀ (s:Shared) (us:List Value),K.In s.heap→(us++ds).length=ps.length→BindsTo s fd ⟨us,[]⟩ (ps.zip (us++ds))
theorem Binds.all {K:PySem.W.Frag} {fd:FuncData} {ps:List Str} (h:∀ us:List Value,us.length=ps.length→bindArgs fd ⟨us,[]⟩=pure (ps.zip us)):Binds K fd ps []:=fun s us _ hl=>by
 rw [List.append_nil] at hl ⊢
 exact .of_eq (h us hl)
def Passes (CX:CXT) (X:Cx) (E:XK):Prop:=∀ (pins:List (Addr×Obj)) (σ:St) (H:Hp) (s:Shared) (e:Value) (s':Shared),Inv X pins σ H s→CX X.stack H s E e s'→X.xe e s'
section
variable {X:Cx} {CX:CXT} {k:Nat} {f C:Addr} {fd:FuncData} {ps:List Str} {sp:Sp} {dvs:List V} {ds:List Value} {E:XK} {x m:Str} {p pos apos:Pos} {e o:Expr} {es:List Expr} {ta:TE} {t:TA}
theorem run_fn {pins:List (Addr×Obj)} {σ:St} {H:Hp} {s:Shared} {Q:VK} {us:List Value} {vs:List V} (F:FnOk X.prog X.w X.K X.mg X.base CX k f fd ps sp) (hr:Room k X.A) (hb:Binds X.K fd ps ds) (hd:Vals dvs ds) (hx:Passes CX X E)
  (I:Inv X pins σ H s) (r:Vals vs us) (h:sp (vs++dvs) H Q E):wpAny (model X.prog X.w) X.A (call (.ref f) us) (EP X pins σ Q) X.xe s:=by
 have r2:Vals (vs++dvs) (us++ds):=r.append hd
 have hl:(us++ds).length=ps.length:=by rw [← r2.length]; exact F.len _ _ _ _ h
 refine wpAny_call (codeAny_mono (F.run X.A X.stack s H ⟨us,[]⟩ (us++ds) (vs++dvs) Q E hr I.env0 (hb s us I.kIn hl) r2 h) fun r s' hq=>?_)
 cases r with
 | error e=>exact hx pins σ H s e s' I hq
 | ok fl=>
  cases fl with
  | ret u=>exact I.after hq
  | next=>exact False.elim hq
  | brk=>exact False.elim hq
  | cont=>exact False.elim hq
theorem pe_call (F:FnOk X.prog X.w X.K X.mg X.base CX k f fd ps sp) (hr:Room k X.A) (hg:Gl X x) (hm:X.mg x=some (.ref f)) (hk:PySem.W.keepIn X.K (.ref f)=true) (hb:Binds X.K fd ps ds) (hd:Vals dvs ds) (hx:Passes CX X E)
  (ha:PA X (e::es) t) (hdb:(x == ("__debug__":Str))=false:=by decide) (he:starEach (e::es) X.env=(false,eval e X.env)::starEach es X.env:=by rfl) (hpl:(backTo pos (starEach es X.env)).any (·.1)=false:=by rfl) :
  PE X (.Call (.Name x p) (e::es) [] pos) (tCall sp dvs E t):=by
 intro pins s σ H Q I h
 refine wpAny_Call_Name_kw (ld_glob I hg hm ?_ hdb)
 refine PySem.W.callWith_K (h₀:=X.base) I.ok.mod.kin hk (thn (ha pos pins s σ H _ I h) fun us s1 ⟨vs,H1,I1,r,q⟩=>⟨I1.kIn,?_⟩) he hpl
 exact run_fn F hr hb hd hx I1 r q
end
section
variable {X:Cx} {CX:CXT} {k:Nat} {f C:Addr} {fd:FuncData} {ps ks:List Str} {sp:Sp} {E:XK} {x m:Str} {p pos apos kpos:Pos} {e o:Expr} {es:List Expr} {kws:List Keyword} {te ta:TE} {t tk:TA} {nm:Option Str}
variable {g:List Value→List Value→List Value} {gV:List V→List V→List V}
end
structure FnScope (N P:List Str) (sc:Scope):Prop where
 kind:sc.kind=.function
 co:sc.isCoroutine=false
 gen:sc.isGenerator=false
 nd:N.Nodup
 pre:N.take P.length=P
 par:∀ x∈P,sc.names.lookup x=some .local∨sc.names.lookup x=some .cell
 nofree:∀ y∈sc.names,y.2≠.free
theorem bindL_out {kindOf:Str→Option NameKind} {x:Str}:∀ {binds:List (Str×Value)} {m:Str→Option Value},(∀ v,(x,v)∉binds)→bindL kindOf binds m x=m x
 | [],_,_=>rfl
 | (n,v)::r,m,h=>by
  unfold bindL
  rw [bindL_out fun w hw=>h w (List.mem_cons_of_mem _ hw)]
  split
  ·have:x≠n:=by rintro rfl; exact h v List.mem_cons_self
   simp [this]
  ·rfl
theorem bindC_out {kindOf:Str→Option NameKind} {x:Str}:∀ {binds:List (Str×Value)} {m:Str→Option Value},(∀ v,(x,v)∉binds)→bindC kindOf binds m x=m x
 | [],_,_=>rfl
 | (n,v)::r,m,h=>by
  unfold bindC
  rw [bindC_out fun w hw=>h w (List.mem_cons_of_mem _ hw)]
  split
  ·rfl
  ·have:x≠n:=by rintro rfl; exact h v List.mem_cons_self
   simp [this]
theorem bindL_get {kindOf:Str→Option NameKind} {x:Str} {v:Value}:∀ {P:List Str} {vs:List Value} {i:Nat} {m:Str→Option Value},P.Nodup→P[i]?=some x→vs[i]?=some v→kindOf x=some .local→
  bindL kindOf (P.zip vs) m x=some v
 | [],_,_,_,_,h,_,_=>by simp at h
 | _::_,[],_,_,_,_,h,_=>by simp at h
 | p::P,w::vs,0,m,nd,h1,h2,hk=>by
  simp at h1 h2; subst h1; subst h2
  show bindL kindOf ((p,w)::P.zip vs) m p=_
  unfold bindL
  rw [bindL_out fun v hv=>(List.nodup_cons.mp nd).1 (List.of_mem_zip hv).1,if_pos hk]
  simp
 | p::P,w::vs,i + 1,m,nd,h1,h2,hk=>by
  show bindL kindOf ((p,w)::P.zip vs) m x=_
  unfold bindL
  exact bindL_get (i:=i) (List.nodup_cons.mp nd).2 (by simpa using h1) (by simpa using h2) hk
theorem bindC_get {kindOf:Str→Option NameKind} {x:Str} {v:Value}:∀ {P:List Str} {vs:List Value} {i:Nat} {m:Str→Option Value},P.Nodup→P[i]?=some x→vs[i]?=some v→kindOf x≠some .local→
  bindC kindOf (P.zip vs) m x=some v
 | [],_,_,_,_,h,_,_=>by simp at h
 | _::_,[],_,_,_,_,h,_=>by simp at h
 | p::P,w::vs,0,m,nd,h1,h2,hk=>by
  simp at h1 h2; subst h1; subst h2
  show bindC kindOf ((p,w)::P.zip vs) m p=_
  unfold bindC
  rw [bindC_out fun v hv=>(List.nodup_cons.mp nd).1 (List.of_mem_zip hv).1,if_neg hk]
  simp
 | p::P,w::vs,i + 1,m,nd,h1,h2,hk=>by
  show bindC kindOf ((p,w)::P.zip vs) m x=_
  unfold bindC
  exact bindC_get (i:=i) (List.nodup_cons.mp nd).2 (by simpa using h1) (by simpa using h2) hk
def start (N:List Str) (vs:List V):St:=vs.map some++List.replicate (N.length - vs.length) none
def cxOf (CX:CXT) (P:Program) (w:World) (K:PySem.W.Frag) (mg:Str→Option Value) (base:Heap) (N:List Str) (qual:Str) (scope:Scope) (f:Addr) (cd:Value) (A:Around) (outer:List Env) (s:Shared) (H:Hp) (E:XK):Cx where
 prog:=P
 w:=w
 K:=K
 mg:=mg
 base:=base
 A:=A.deeper (envOfC qual scope s.heap.objs.size f cd)
 N:=N
 s₀:=s
 H₀:=H
 env:=envOfC qual scope s.heap.objs.size f cd
 outer:=outer
 stack:=envOfC qual scope s.heap.objs.size f cd::outer
 ex:=[]
 calm:=true
 fn:=fun _=>true
 pn:=[]
 xe:=fun e s'=>wpAny (model P w) (A.deeper (envOfC qual scope s.heap.objs.size f cd)) (leaving (envOfC qual scope s.heap.objs.size f cd) e) (fun _ s''=>CX outer H s E e s'') (fun e' s''=>CX outer H s E e' s'') s'
theorem cell_has {sc:Scope} {n:Nat} {x:Str} (h:sc.names.lookup x=some .cell):∃ c,(cellsFrom n sc.names []).lookup x=some c:=by
 have q:=PySem.W.cellsFrom_some sc.names n [] (.inl h)
 exact Option.isSome_iff_exists.mp q
theorem inv_start {CX:CXT} {P:Program} {w:World} {K:PySem.W.Frag} {mg:Str→Option Value} {base:Heap} {N ps:List Str} {qual:Str} {scope:Scope} {f:Addr} {cd:Value} {A:Around} {outer:List Env} {s s1:Shared} {H:Hp} {E:XK} {us:List Value} {vs:List V}
  (S:FnScope N ps scope) (hd:A.handled=none) (e0:Env0 P w K mg base A outer s H) (hl:vs.length=ps.length) (r:Vals vs us)
  (x:InCallC s s.heap.objs.size (bindL (envOfC qual scope s.heap.objs.size f cd).kindOf (ps.zip us) fun _=>none) (cellsFrom (s.heap.objs.size + 1) scope.names []) (bindC (envOfC qual scope s.heap.objs.size f cd).kindOf (ps.zip us) fun _=>none) s1) :
  Inv (cxOf CX P w K mg base N qual scope f cd A outer s H E) [] (start N vs) H s1:=by
 have hpl:ps.length≤N.length:=by have:=congrArg List.length S.pre; rw [List.length_take] at this; omega
 obtain ⟨h1,tk,rfl,hk⟩:=x.done
 have noA:∀ b:Addr,b∉(cxOf CX P w K mg base N qual scope f cd A outer s H E).ex:=fun b z=>absurd (show b∈([]:List Addr) from z) (by simp)
 refine ⟨⟨e0.mod,S.kind,rfl,rfl,Nat.le_refl _,fun y z c h1 h2=>?_,fun y hy=>?_,fun y c _ h=>?_,fun _=>hd,Around.frames_deeper e0.frames,.inr ⟨rfl,rfl⟩,fun b z=>absurd z (noA b),e0.bs,e0.bsz,fun b _ _=>noA b,fun b z=>absurd z (noA b),e0.funs,e0.frf⟩,
  rfl,e0.bare,Un.kept hk,⟨_,x.toInCall.ns,fun i y v h1 h2 h3=>?_⟩,fun y c h=>⟨_,x.cell y c h⟩,e0.hok.fresh (Nat.le_refl _),fun y c h=>?_,fun p hp=>absurd (show p∈([]:List (Addr×Obj)) from hp) (by simp),e0.hok.kept hk,?_⟩
 ·exact name_of_addr x.apart (PySem.mem_of_lookup h1) (PySem.mem_of_lookup h2)
 ·have hy:scope.names.lookup y=some .cell∨scope.names.lookup y=some .free:=hy
  rcases hy with hy | hy
  ·exact cell_has hy
  ·exact absurd rfl (S.nofree _ (PySem.mem_of_lookup hy))
 ·exact Nat.le_of_lt (x.above y c (PySem.mem_of_lookup h))
 ·have hi:i < vs.length:=by
   unfold start at h2
   by_cases hi:i < vs.length
   ·exact hi
   ·rw [List.getElem?_append_right (by simpa using hi)] at h2
    rw [List.getElem?_replicate] at h2
    split at h2 <;> cases h2
  have ha:vs[i]?=some v:=by
   unfold start at h2
   rw [List.getElem?_append_left (by simpa using hi),List.getElem?_map] at h2
   cases e:vs[i]? with
   | none=>rw [e] at h2; cases h2
   | some a=>rw [e] at h2; cases h2; rfl
  obtain ⟨u,hu,rv⟩:=r.get ha
  have hp:ps[i]?=some y:=by
   rw [← S.pre,List.getElem?_take_of_lt (by omega)]; exact h1
  have ndP:ps.Nodup:=by rw [← S.pre]; exact S.nd.sublist (List.take_sublist _ _)
  refine ⟨u,rv,?_⟩
  rcases S.par y (List.mem_of_getElem? hp) with k | k
  ·exact .inl ⟨k,bindL_get ndP hp hu k⟩
  ·obtain ⟨c,e⟩:=cell_has (n:=s.heap.objs.size + 1) k
   refine .inr ⟨.inl k,c,e,?_⟩
   have q:=x.cell y c e
   rw [bindC_get ndP hp hu (by show scope.names.lookup y≠_; rw [k]; decide)] at q
   exact q
 ·exact e0.hok.fresh (Nat.le_of_lt (x.above y c (PySem.mem_of_lookup h)))
 ·unfold start
  show _=N.length
  rw [List.length_append,List.length_map,List.length_replicate]
  omega
theorem fn_of {CX:CXT} {P:Program} {w:World} {K:PySem.W.Frag} {mg:Str→Option Value} {base:Heap} {k:Nat} {f:Addr} {name qual:Str} {params:Arguments} {body:List Stmt} {scope:Scope} {dV kV doc pm cdv ct oc:Value} {an od:Option Addr}
  {osl:Array (Option Value)} {N ps:List Str} {sp:Sp} (lk:K.lookup f=some ⟨oc,od,.func (PySem.W.fnOf name qual params body scope dV kV doc pm an cdv ct),osl⟩) (hcd:PySem.W.codeIn K cdv qual=true) (S:FnScope N ps scope)
  (len:∀ vs H Q E,sp vs H Q E→vs.length=ps.length)
  (hbody:∀ (A:Around) (outer:List Env) (s:Shared) (H:Hp) (vs:List V) (Q:VK) (E:XK),Room k (A.deeper (envOfC qual scope s.heap.objs.size f cdv))→sp vs H Q E→
   ∃ t,PSs (cxOf CX P w K mg base N qual scope f cdv A outer s H E) body t∧t { nx:=fun _ H'=>Q .non H',rt:=Q } (start N vs) H) :
  FnOk P w K mg base CX (k + 1) f (PySem.W.fnOf name qual params body scope dV kV doc pm an cdv ct) ps sp:=by
 refine ⟨len,fun A outer s H args us vs Q E hr e0 hb r hsp=>?_⟩
 have hl:=len _ _ _ _ hsp
 have KX:K.In s.heap:=e0.mod.kin.keeps fun b o e=>(e0.bs b o e).1
 have lim:s.heap.NoLimit:=e0.mod.nolimit.keeps fun b o e=>(e0.bs b o e).1
 have hkind:∀ y∈ps.zip us,scope.names.lookup y.1=some .local∨(scope.names.lookup y.1=some .cell∧((cellsFrom (s.heap.objs.size + 1) scope.names []).lookup y.1).isSome=true):=fun ⟨n,v⟩ hy=>by
  rcases S.par n (List.of_mem_zip hy).1 with q | q
  ·exact .inl q
  ·exact .inr ⟨q,PySem.W.cellsFrom_some _ _ _ (.inl q)⟩
 refine codeAny_call_function hr.depth (KX _ _ lk) rfl S.co S.gen rfl (PySem.W.codeRec_of KX hcd) (hb _ _ _ _ ?_)
 refine wpAny_newFunctionEnv_cells S.kind hkind fun env he s1 x=>?_
 subst he
 refine ⟨lim.keeps x.toInCall.keep,codeAny_func ?_⟩
 obtain ⟨t,ht,hq⟩:=hbody A outer s H vs Q E (hr.deeper _) hsp
 have I:Inv (cxOf CX P w K mg base N qual scope f cdv A outer s H E) [] (start N vs) H s1:=inv_start S hr.hd e0 hl r x
 refine wpAny_mono (ht [] s1 (start N vs) H _ I hq) (fun fl s' hs=>?_) fun e s' hs=>hs
 have fin:∀ {σ':St} {H':Hp} {v:V} {u:Value},Inv (cxOf CX P w K mg base N qual scope f cdv A outer s H E) [] σ' H' s'→RelV v u→Q v H'→CE outer P w H s Q u s':=
  fun {σ' H' v u} J rv q=>⟨v,H',J.os,J.bare,J.base,J.hok,rv,q⟩
 cases fl with
 | ret u=>
  obtain ⟨v,σ',H',J,rv,q⟩:=hs
  exact fin J rv q
 | next=>
  obtain ⟨σ',H',J,q⟩:=hs
  exact fin (v:=V.non) (u:=Value.none) J rfl q
 | brk=>
  obtain ⟨_,_,_,q⟩:=hs
  exact False.elim q
 | cont=>
  obtain ⟨_,_,_,q⟩:=hs
  exact False.elim q
end L2
namespace L2
open PySem PySem.Spec PyProof.Rows
section
variable {X:Cx} {x:Str} {p pos:Pos} {e:Expr} {es:List Expr} {t:TA} {id T:String} {r:List V→Hp→VK→Prop}
def tCB (r:List V→Hp→VK→Prop) (t:TA):TE:=fun σ H Q=>t σ H fun vs H1=>r vs H1 Q
theorem pe_callB (hc:CallR X (.builtin id) r) (hg:Gl X x) (hm:X.mg x=none) (hv:bootBuiltins x=some (.builtin id)) (ha:PA X (e::es) t) (hn:x≠"__name__":=by decide) (hdb:(x == ("__debug__":Str))=false:=by decide)
  (he:starEach (e::es) X.env=(false,eval e X.env)::starEach es X.env:=by rfl) (hpl:(backTo pos (starEach es X.env)).any (·.1)=false:=by rfl):PE X (.Call (.Name x p) (e::es) [] pos) (tCB r t):=by
 intro pins s σ H Q I h
 refine wpAny_Call_Name_kw (ld_blt I hg hm hv ?_ hn hdb)
 exact PyProof.Rows.callWith_builtin1 (thn (ha pos pins s σ H _ I h) fun us s1 ⟨vs,H1,I1,r1,q1⟩=>hc pins s1 σ H1 vs us Q I1 r1 q1) he hpl
theorem pe_callTy (hc:CallR X (.type T) r) (hg:Gl X x) (hm:X.mg x=none) (hv:bootBuiltins x=some (.type T)) (ha:PA X (e::es) t) (hn:x≠"__name__":=by decide) (hdb:(x == ("__debug__":Str))=false:=by decide)
  (he:starEach (e::es) X.env=(false,eval e X.env)::starEach es X.env:=by rfl) (hpl:(backTo pos (starEach es X.env)).any (·.1)=false:=by rfl):PE X (.Call (.Name x p) (e::es) [] pos) (tCB r t):=by
 intro pins s σ H Q I h
 refine wpAny_Call_Name_kw (ld_blt I hg hm hv ?_ hn hdb)
 exact PyProof.Rows.callWith_type1 (thn (ha pos pins s σ H _ I h) fun us s1 ⟨vs,H1,I1,r1,q1⟩=>hc pins s1 σ H1 vs us Q I1 r1 q1) he hpl
end
end L2
namespace HT
open PySem PyProof.Rows
section
open PySem.SeqAt
open PySem.AutoSeq1 (wpAny_loadPart')
open PySem.MeetsSeq PySem.MeetsSeq2 PySem.MeetsSeq3
end
section
variable {prog:Program} {w:World} {A:Around} {E:Value→Shared→Prop} {s:Shared}
def sIx (n d:Nat):Option Int→Nat
 | none=>d
 | some v=>if v < 0 then (v + (n:Int)).toNat else min v.toNat n
theorem sIx_nat (n d k:Nat):sIx n d (some (k:Int))=min k n:=by
 show (if (k:Int) < 0 then ((k:Int) + (n:Int)).toNat else min (k:Int).toNat n)=min k n
 rw [if_neg (by omega),Int.toNat_natCast]
theorem sIx_le (n d:Nat) (hd:d≤n) (o:Option Int):sIx n d o≤n:=by
 cases o with
 | none=>exact hd
 | some v=>
  show (if v < 0 then (v + (n:Int)).toNat else min v.toNat n)≤n
  by_cases hv:v < 0
  ·rw [if_pos hv]; omega
  ·rw [if_neg hv]; exact Nat.min_le_right _ _
theorem clip_eq (v:Int) (n d:Nat):(if v < 0 then max (v + (n:Int)) 0 else min v (n:Int))=((sIx n d (some v):Nat):Int):=by
 show (if v < 0 then max (v + (n:Int)) 0 else min v (n:Int))=(((if v < 0 then (v + (n:Int)).toNat else min v.toNat n):Nat):Int)
 by_cases hv:v < 0
 ·simp only [if_pos hv]; omega
 ·simp only [if_neg hv]; omega
theorem adjust_gen (lo hi:Option Int) (n:Nat):Builtin.Slice.sliceAdjust lo hi 1 (n:Int)=(((sIx n 0 lo:Nat):Int),((sIx n n hi:Nat):Int)):=by
 have h1:¬ ((1:Int) < 0):=by omega
 unfold Builtin.Slice.sliceAdjust
 simp only [h1,if_false]
 refine Prod.ext ?_ ?_
 ·cases lo with
  | none=>rfl
  | some v=>exact clip_eq v n 0
 ·cases hi with
  | none=>rfl
  | some v=>exact clip_eq v n n
theorem places_gen (i j:Nat):Builtin.Slice.slicePlaces (i:Int) (j:Int) 1=j - i:=by
 unfold Builtin.Slice.slicePlaces
 have h1:(1:Int) > 0:=by omega
 simp only [h1,if_true,Int.ediv_one]
 split <;> omega
theorem slicePart_ {v:Value} {o:Option Int} {Q:Option Int→Shared→Prop} (p:IsPart v o) (h:Q o s):wpAny (model prog w) A (Builtin.Slice.slicePartIndex v) Q E s:=by
 cases p with
 | none=>exact slicePart_none h
 | int i t=>exact slicePart_int h
theorem sliceApplied_gen {sl:Addr} {vl vu:Value} {lo hi:Option Int} {n:Nat} {Q:Int×Int×Nat→Shared→Prop} (hs:s.heap.IsSliceOf sl vl vu .none) (pl:IsPart vl lo) (pu:IsPart vu hi)
  (h:Q (((sIx n 0 lo:Nat):Int),1,sIx n n hi - sIx n 0 lo) s):wpAny (model prog w) A (Builtin.Slice.sliceApplied (.ref sl) (pure (n:Int))) Q E s:=by
 obtain ⟨os,hos,hcs,hds⟩:=id hs
 unfold Builtin.Slice.sliceApplied Builtin.Slice.sliceFields
 refine wpAny_bind (wpAny_bind (wpAny_field hos hds (x:=vl) rfl (wpAny_bind (wpAny_field hos hds (x:=vu) rfl (wpAny_bind (wpAny_field hos hds (x:=.none) rfl (wpAny_pure ?_)))))))
 refine wpAny_bind (slicePart_none ?_)
 show wpAny _ _ (if ((1:Int) == 0)=true then _ else _) _ _ s
 rw [if_neg (by decide)]
 refine wpAny_bind (slicePart_ pl (wpAny_bind (slicePart_ pu (wpAny_bind (wpAny_pure ?_)))))
 show wpAny _ _ (match Builtin.Slice.sliceAdjust lo hi 1 (n:Int) with | (lo,hi)=>pure (lo,(1:Int),Builtin.Slice.slicePlaces lo hi 1)) _ _ s
 rw [adjust_gen lo hi n]
 show wpAny _ _ (pure (((sIx n 0 lo:Nat):Int),(1:Int),Builtin.Slice.slicePlaces ((sIx n 0 lo:Nat):Int) ((sIx n n hi:Nat):Int) 1)) _ _ s
 rw [places_gen]
 exact wpAny_pure h
theorem pick_gen (xs:Array Value) (i k:Nat):((List.range k).filterMap fun (m:Nat)=>xs[((i:Int) + (m:Int) * 1).toNat]?).toArray=((xs.toList.drop i).take k).toArray:=by
 have e:(fun (m:Nat)=>xs[((i:Int) + (m:Int) * 1).toNat]?)=fun m=>xs[i + m]?:=by
  funext m
  have:((i:Int) + (m:Int) * 1).toNat=i + m:=by omega
  rw [this]
 rw [e]
 have:=pick_run xs i k
 rw [List.filterMap_map] at this
 have e2:((fun x=>xs[x]?) ∘ fun x=>i + x)=fun m=>xs[i + m]?:=rfl
 rw [e2] at this
 rw [this]
theorem getItem_tuple_cut {t sl:Addr} {items:Array Value} {vl vu:Value} {lo hi:Option Int} {Q:Value→Shared→Prop} (ht:IsTup s.heap t items) (hs:s.heap.IsSliceOf sl vl vu .none) (pl:IsPart vl lo) (pu:IsPart vu hi)
  (hw:¬ (sIx items.size 0 lo=0∧sIx items.size items.size hi=items.size))
  (h:Q (.ref s.heap.objs.size) { s with heap:=s.heap.push { cls:=.type "tuple",data:=.seq ((items.toList.drop (sIx items.size 0 lo)).take (sIx items.size items.size hi - sIx items.size 0 lo)).toArray } })
  (hsz:items.size≤sizeLine):wpAny (model prog w) A (getItem (.ref t) (.ref sl)) Q E s:=by
 have htake:sizeOk (.seq ((items.toList.drop (sIx items.size 0 lo)).take (sIx items.size items.size hi - sIx items.size 0 lo)).toArray):=by
  show ((items.toList.drop (sIx items.size 0 lo)).take (sIx items.size items.size hi - sIx items.size 0 lo)).toArray.size≤sizeLine
  rw [List.size_toArray,List.length_take,List.length_drop,Array.length_toList]
  omega
 have hj:sIx items.size items.size hi≤items.size:=sIx_le _ _ (Nat.le_refl _) hi
 obtain ⟨os,hos,hcs,hds⟩:=id hs
 have hTs:s.TypeIs (.ref sl) "slice":=⟨os,hos,hcs⟩
 unfold getItem
 try with_reducible refine wpAny_holding ?_
 first | refine wpAny_bind (wpAny_pure ?_) | skip
 refine wpAny_bind (wpAny_sequenceKey ht.typeIs (by decide) ?_)
 refine wpAny_bind (wpAny_callSpecial?_slot (name:=Str.ofString "__getitem__") ht.typeIs PyProof.Rows.slot_tuple_getitem
  (wpAny_call_entry PyProof.Rows.slot_tuple_getitem ht.typeIs entry_tuple_getitem ?_ (args_tuple_getitem _ _)))
 show wpAny _ _ (Builtin.Tuple.tupleItemsOf (.ref t) >>= _) _ _ s
 refine wpAny_bind (tupleItemsOf_ ht ?_)
 refine wpAny_bind (wpAny_typeOf hTs ?_)
 rw [if_pos (by decide)]
 refine wpAny_bind (sliceApplied_gen hs pl pu ?_)
 have hno:¬ ((((sIx items.size 0 lo:Nat):Int) == 0 && (1:Int) == 1 && (sIx items.size items.size hi - sIx items.size 0 lo) == items.size)=true):=by
  intro q
  rw [Bool.and_eq_true,Bool.and_eq_true] at q
  have q1:((sIx items.size 0 lo:Nat):Int)=0:=eq_of_beq q.1.1
  have q2:sIx items.size items.size hi - sIx items.size 0 lo=items.size:=eq_of_beq q.2
  exact hw ⟨by omega,by omega⟩
 show wpAny _ _ (if (((sIx items.size 0 lo:Nat):Int) == 0 && (1:Int) == 1 && (sIx items.size items.size hi - sIx items.size 0 lo) == items.size)=true then _ else _) _ _ s
 rw [if_neg hno,pick_gen]
 first
  | exact wpAny_bind (m:=Builtin.Tuple.tupleExact _) (wpAny_newObj_type (wpAny_pure ⟨_,rfl,wpAny_pure h⟩) htake)
  | exact wpAny_bind (m:=Builtin.Tuple.tupleExact _) (wpAny_newObj_type (wpAny_bind (wpAny_pure (wpAny_pure ⟨_,rfl,wpAny_pure h⟩))) htake)
  | exact wpAny_bind (wpAny_bind (m:=Builtin.Tuple.tupleExact _) (wpAny_newObj_type (wpAny_pure (wpAny_pure ⟨_,rfl,wpAny_pure h⟩)) htake))
  | exact wpAny_bind (wpAny_bind (m:=Builtin.Tuple.tupleExact _) (wpAny_newObj_type (wpAny_pure ⟨_,rfl,wpAny_pure h⟩) htake))
end
end HT
namespace L2
open PySem PySem.Spec PyProof.Rows
abbrev TO:=St→Hp→(Option Int→Hp→Prop)→Prop
def PO (X:Cx) (e:Option Expr) (t:TO):Prop:=
 ∀ (pins:List (Addr×Obj)) (s:Shared) (σ:St) (H:Hp) (Q:Option Int→Hp→Prop),Inv X pins σ H s→t σ H Q→
  wpAny (model X.prog X.w) X.A (evalPart e X.env) (fun u s'=>∃ o H',Inv X pins σ H' s'∧IsPart u o∧Q o H') X.xe s
def tNoPart:TO:=fun _ H Q=>Q none H
def tPart (t:TE):TO:=fun σ H Q=>t σ H fun x H1=>∃ i,x=.int i∧Q (some i) H1
theorem intsAre_of {ns:List Int}:∀ {us:List Value},Vals (ns.map V.int) us→IntsAre us ns:=by
 induction ns with
 | nil=>intro us r; rw [List.map_nil] at r; cases r; exact .nil
 | cons n ns ih=>
  intro us r
  rw [List.map_cons] at r
  cases r with
  | cons r1 r2=>
   obtain ⟨t,e⟩:=r1
   subst e
   exact .cons n t (ih r2)
section
variable {X:Cx} {e:Expr} {te:TE} {lo hi:Option Expr} {tl th:TO} {pos p2:Pos}
theorem po_none:PO X none tNoPart:=by
 intro pins s σ H Q I h
 rw [evalPart_none]
 exact wpAny_pure ⟨none,H,I,.none,h⟩
theorem po_some (h:PE X e te):PO X (some e) (tPart te):=by
 intro pins s σ H Q I hw
 rw [evalPart_some]
 refine thn (h pins s σ H _ I hw) fun u s1 ⟨x,H1,I1,r1,q1⟩=>?_
 obtain ⟨i,rfl,q⟩:=q1
 obtain ⟨t,rfl⟩:=r1
 exact ⟨some i,H1,I1,.int i t,q⟩
def SlR (X:Cx) (r:V→Option Int→Option Int→Hp→VK→Prop):Prop:=
 ∀ (pins:List (Addr×Obj)) (s:Shared) (σ:St) (H:Hp) (x:V) (v vl vu:Value) (lo hi:Option Int) (sl:Addr) (Q:VK),Inv X pins σ H s→RelV x v→s.heap.IsSliceOf sl vl vu .none→IsPart vl lo→IsPart vu hi→r x lo hi H Q→
  ∃ T id,typeLookup (.type T) "__getitem__"=pure (some (.builtin id))∧s.TypeIs v T∧wpAny (model X.prog X.w) X.A (getItem v (.ref sl)) (EP X pins σ Q) X.xe s
def tSl (r:V→Option Int→Option Int→Hp→VK→Prop) (te:TE) (tl th:TO):TE:=fun σ H Q=>te σ H fun x H1=>tl σ H1 fun l H2=>th σ H2 fun u H3=>r x l u H3 Q
theorem pe_slice {r:V→Option Int→Option Int→Hp→VK→Prop} (hr:SlR X r) (he:PE X e te) (hl:PO X lo tl) (hu:PO X hi th):PE X (.Subscript e (.Slice lo hi none p2) pos) (tSl r te tl th):=by
 intro pins s σ H Q I h
 refine Subscript_ (thn (he pins s σ H _ I h) fun v s1 ⟨x,H1,I1,r1,q1⟩=>?_)
 refine wpAny_Slice (thn (hl pins s1 σ H1 _ I1 q1) fun vl s2 ⟨l,H2,I2,pl,q2⟩=>thn (hu pins s2 σ H2 _ I2 q2) fun vu s3 ⟨u,H3,I3,pu,q3⟩=>?_)
 rw [evalPart_none]
 refine wpAny_pure ?_
 have I4:Inv X pins σ H3 { s3 with heap:=s3.heap.push { cls:=.type "slice",data:=.fields #[vl,vu,.none] } }:=I3.kept (t':=s3.toks) fun b ob q=>Heap.get?_push_of_some _ q
 obtain ⟨T,id,hT,ht,hg⟩:=hr pins { s3 with heap:=s3.heap.push { cls:=.type "slice",data:=.fields #[vl,vu,.none] } } σ H3 x v vl vu l u s3.heap.objs.size Q I4 r1 (Heap.IsSliceOf.new ..) pl pu q3
 show wpAny (model X.prog X.w) X.A (subscriptTail e (.Slice lo hi none p2) v (.ref s3.heap.objs.size)) (EP X pins σ Q) X.xe { s3 with heap:=s3.heap.push { cls:=.type "slice",data:=.fields #[vl,vu,.none] } }
 exact tail_any (ops:=[.ref s3.heap.objs.size,v]) ht hT hg (by with_unfolding_all rfl)
def cutV (xs:List V) (lo hi:Option Int):List V:=(xs.drop (HT.sIx xs.length 0 lo)).take (HT.sIx xs.length xs.length hi - HT.sIx xs.length 0 lo)
theorem cutV_length (xs:List V) (lo hi:Option Int):(cutV xs lo hi).length≤xs.length:=by
 unfold cutV
 rw [List.length_take,List.length_drop]
 omega
def rSlT (K:PySem.W.Frag):V→Option Int→Option Int→Hp→VK→Prop:=fun x lo hi H Q=>∃ a xs,x=.ref a∧SqT K H a xs∧
 ¬ (HT.sIx xs.length 0 lo=0∧HT.sIx xs.length xs.length hi=xs.length)∧∀ p,H p=none→Q (.ref p) (upd H p (.tup (cutV xs lo hi)))
theorem sl_tup:SlR X (rSlT X.K):=by
 intro pins s σ H x v vl vu lo hi sl Q I rx hs pl pu h
 obtain ⟨a,xs,rfl,hx,hw,q⟩:=h
 cases rx
 obtain ⟨its,r,ht,hz⟩:=I.tuple hx
 have hlen:its.toArray.size=xs.length:=by rw [List.size_toArray]; exact r.length.symm
 refine ⟨"tuple",_,PyProof.Rows.slot_tuple_getitem.lookup,ht.typeIs,?_⟩
 refine HT.getItem_tuple_cut ht hs pl pu (by rw [hlen]; exact hw) ?_ (by rw [hlen]; exact hz)
 rw [hlen]
 refine ⟨.ref s.heap.objs.size,_,I.laid (t':=s.toks) (o:=.tup (cutV xs lo hi)) (fun b ob q=>Heap.get?_push_of_some _ q) (Nat.le_refl _) ?_,rfl,q _ (I.hok.fresh (Nat.le_refl _))⟩
 exact ⟨Nat.le_trans (cutV_length xs lo hi) hz,_,(r.drop (HT.sIx xs.length 0 lo)).take (HT.sIx xs.length xs.length hi - HT.sIx xs.length 0 lo),IsTup.new _ _⟩
end
end L2
namespace L2
open PySem PySem.Spec PyProof.Rows
def ixN (n:Nat) (i:Int):Option Nat:=if 0≤i then (if i < n then some i.toNat else none) else if -(n:Int)≤i then some (i + n).toNat else none
def atI {α:Type} (xs:List α) (i:Int):Option α:=(ixN xs.length i).bind fun j=>xs[j]?
theorem ixN_seq {n:Nat} {i:Int} {j:Nat} (h:ixN n i=some j):seqIndex? i n=some j∧j < n∧-(n:Int)≤i∧i < n:=by
 unfold ixN at h
 by_cases h0:0≤i
 ·rw [if_pos h0] at h
  by_cases h1:i < n
  ·rw [if_pos h1] at h
   have e:i.toNat=j:=Option.some.inj h
   exact ⟨by rw [seqIndex_of h0 h1,e],by omega,by omega,h1⟩
  ·rw [if_neg h1] at h; cases h
 ·rw [if_neg h0] at h
  by_cases h1:-(n:Int)≤i
  ·rw [if_pos h1] at h
   have e:(i + n).toNat=j:=Option.some.inj h
   exact ⟨by rw [seqIndex_neg (by omega) h1,e],by omega,h1,by omega⟩
  ·rw [if_neg h1] at h; cases h
theorem atI_get {α:Type} {xs:List α} {i:Int} {v:α} (h:atI xs i=some v):∃ j,seqIndex? i xs.length=some j∧xs[j]?=some v∧j < xs.length∧-(xs.length:Int)≤i∧i < xs.length:=by
 unfold atI at h
 cases e:ixN xs.length i with
 | none=>rw [e] at h; cases h
 | some j=>
  rw [e] at h
  obtain ⟨h1,h2,h3,h4⟩:=ixN_seq e
  exact ⟨j,h1,h,h2,h3,h4⟩
theorem atI_nat {α:Type} {xs:List α} {j:Nat} {v:α} (h:xs[j]?=some v):atI xs (j:Int)=some v:=by
 have hj:j < xs.length:=(List.getElem?_eq_some_iff.mp h).1
 have e:ixN xs.length (j:Int)=some j:=by
  unfold ixN
  rw [if_pos (by omega),if_pos (by omega)]; simp
 unfold atI; rw [e]; exact h
def PlainIx (b:Expr):Prop:=∀ o i,subscripted b false o i=operate [o,i] (getItem o i)
def IxR (X:Cx) (r:R2):Prop:=
 ∀ (value slice:Expr) (pins:List (Addr×Obj)) (s:Shared) (σ:St) (H:Hp) (x y:V) (v u:Value) (Q:VK),Inv X pins σ H s→RelV x v→RelV y u→r x y H Q→
  subscripted slice false v u=operate [v,u] (getItem v u)→wpAny (model X.prog X.w) X.A (subscriptTail value slice v u) (EP X pins σ Q) X.xe s
def MtR (X:Cx) (id:String) (r:V→List V→Hp→VK→Prop):Prop:=
 ∀ (pins:List (Addr×Obj)) (s:Shared) (σ:St) (H:Hp) (x:V) (xs:List V) (v:Value) (us:List Value) (Q:VK),Inv X pins σ H s→RelV x v→Vals xs us→r x xs H Q→
  wpAny (model X.prog X.w) X.A (call (.builtin id) (v::us)) (EP X pins σ Q) X.xe s
section
variable {X:Cx} {a b:Expr} {ta tb:TE} {pos:Pos}
theorem pe_ix {r:R2} (hr:IxR X r) (ha:PE X a ta) (hb:PE X b tb) (hs:PlainIx b):PE X (.Subscript a b pos) (tOp r ta tb):=by
 intro pins s σ H Q I h
 exact Subscript_ (binT ha hb I h fun v u s2 x y H2 I2 rx ry q=>hr a b pins s2 σ H2 x y v u Q I2 rx ry q (hs _ _))
def rIxL (K:PySem.W.Frag):R2:=fun x y H Q=>∃ p xs i v,x=.ref p∧y=.int i∧SqL K H p xs∧atI xs i=some v∧Q v H
def rIxT (K:PySem.W.Frag):R2:=fun x y H Q=>∃ p xs i v,x=.ref p∧y=.int i∧SqT K H p xs∧atI xs i=some v∧Q v H
theorem ix_list:IxR X (rIxL X.K):=by
 intro value slice pins s σ H x y v u Q I rx ry h hs
 obtain ⟨p,xs,i,z,rfl,rfl,hq,he,q⟩:=h
 cases rx
 obtain ⟨t,rfl⟩:=ry
 obtain ⟨its,r,pl,hz⟩:=I.list hq
 obtain ⟨j,h1,h2,h3,h4,h5⟩:=atI_get he
 obtain ⟨w,ew,rw'⟩:=r.get h2
 have hl:=r.length
 have hn:=line63
 have fin:EP X pins σ Q w s:=⟨z,H,I,rw',q⟩
 by_cases h0:0≤i
 ·have hj:i.toNat=j:=by
   rw [seqIndex_of h0 h5] at h1
   exact Option.some.inj h1
  exact item_listR pl.isList h0 (by omega) (by rw [hj]; simpa using ew) fin hs
 ·have hj:(i + (its.toArray.size:Int)).toNat=j:=by
   rw [seqIndex_neg (by omega) h4] at h1
   rw [List.size_toArray,← hl]
   exact Option.some.inj h1
  exact subscriptTail_builtinR (x:=w) pl.isList.typeIs slot_list_getitem.lookup
   (wpAny_getItem_list_neg (Q:=fun r s'=>r=w∧EP X pins σ Q r s') pl.isList (by omega) (by rw [List.size_toArray] <;> omega) (by omega) (by rw [hj]; simpa using ew) ⟨rfl,fin⟩) hs
theorem ix_tup:IxR X (rIxT X.K):=by
 intro value slice pins s σ H x y v u Q I rx ry h hs
 obtain ⟨p,xs,i,z,rfl,rfl,hq,he,q⟩:=h
 cases rx
 obtain ⟨t,rfl⟩:=ry
 obtain ⟨its,r,pl,hz⟩:=I.tuple hq
 obtain ⟨j,h1,h2,h3,h4,h5⟩:=atI_get he
 obtain ⟨w,ew,rw'⟩:=r.get h2
 have hl:=r.length
 have hn:=line63
 have fin:EP X pins σ Q w s:=⟨z,H,I,rw',q⟩
 exact subscriptTail_builtinR (x:=w) pl.typeIs slot_tuple_getitem.lookup
  (getItem_tuple (j:=j) (Q:=fun r s'=>r=w∧EP X pins σ Q r s') pl (by omega) (by omega) (by rw [List.size_toArray,← hl]; exact h1) (by simpa using ew) ⟨rfl,fin⟩) hs
theorem mapSeq_set (its:List Value) (n j:Nat) (u:Value):Obj.mapSeq (·.setIfInBounds j u) { cls:=.type "list",data:=.seq its.toArray n }={ cls:=.type "list",data:=.seq (its.set j u).toArray n }:=by
 simp [Obj.mapSeq]
theorem Inv.lst {pins:List (Addr×Obj)} {σ:St} {H:Hp} {s:Shared} {p:Addr} {xs:List V} (I:Inv X pins σ H s) (h:H p=some (.lst xs)) :
  ∃ (its:List Value) (n:Nat),Vals xs its∧s.heap.get? p=some { cls:=.type "list",data:=.seq its.toArray n }∧xs.length≤sizeLine:=by
 obtain ⟨z,its,n,r,e⟩:=I.hok p _ h
 exact ⟨its,n,r,e,z⟩
theorem Inv.lstUpd {pins:List (Addr×Obj)} {σ:St} {H:Hp} {s:Shared} {p:Addr} {xs ys:List V} {its its':List Value} {n n':Nat} {f:Obj→Obj} (I:Inv X pins σ H s) (h:H p=some (.lst xs))
  (ho:s.heap.get? p=some { cls:=.type "list",data:=.seq its.toArray n }) (hf:f { cls:=.type "list",data:=.seq its.toArray n }={ cls:=.type "list",data:=.seq its'.toArray n' }) (r:Vals ys its') (hz:ys.length≤sizeLine) (t:Nat) :
  Inv X pins σ (upd H p (.lst ys)) { s with heap:=s.heap.update p f,toks:=t }:=by
 have e:(s.heap.update p f).get? p=some { cls:=.type "list",data:=.seq its'.toArray n' }:=by
  rw [Heap.get?_update_self f ho (by rw [hf] <;> rfl),hf]
 refine I.write (x:=p) (e:=p) (by rw [h]; trivial) (.inl rfl) (fun b u hb q=>(Heap.get?_update_other _ _ (Ne.symm hb)).trans q) ⟨_,e⟩ ?_
 exact ⟨hz,its',n',r,e⟩
def rSetL:V→V→V→Hp→(Hp→Prop)→Prop:=fun o i v H Q=>∃ p xs k j,o=.ref p∧i=.int k∧H p=some (.lst xs)∧ixN xs.length k=some j∧Q (upd H p (.lst (xs.set j v)))
theorem set_list:PSet X rSetL:=by
 intro pins s σ H o i v ov iv u Q I ro ri rv h
 obtain ⟨p,xs,k,j,rfl,rfl,hp,hj,q⟩:=h
 cases ro
 obtain ⟨t,rfl⟩:=ri
 obtain ⟨its,n,r,ho,hz⟩:=I.lst hp
 obtain ⟨h1,h2,h3,h4⟩:=ixN_seq hj
 have hl:=r.length
 have hn:=line63
 have I':Inv X pins σ (upd H p (.lst (xs.set j v))) { s with heap:=s.heap.update p (Obj.mapSeq (·.setIfInBounds j u)) }:=
  I.lstUpd hp ho (mapSeq_set its n j u) (r.set rv j) (by rw [List.length_set]; exact hz) s.toks
 by_cases h0:0≤k
 ·have hk:k.toNat=j:=by
   rw [seqIndex_of h0 h4] at h1
   exact Option.some.inj h1
  exact PySem.W.ki_setAt ho h0 (by omega) (by rw [List.size_toArray,← hl]; exact h4) (by rw [hk]; exact ⟨_,I',q⟩)
 ·have hk:(k + (its.toArray.size:Int)).toNat=j:=by
   rw [seqIndex_neg (by omega) h3] at h1
   rw [List.size_toArray,← hl]
   exact Option.some.inj h1
  exact PySem.W.ki_setBack ho (by omega) (by rw [List.size_toArray,← hl]; exact h3) (by omega) (by rw [hk]; exact ⟨_,I',q⟩)
theorem slice_bounds (lo hi:Option Int) (n:Nat):(sliceBounds lo hi none n).1=((HT.sIx n 0 lo:Nat):Int)∧(sliceBounds lo hi none n).2.1=((HT.sIx n n hi:Nat):Int)∧(sliceBounds lo hi none n).2.2=1:=by
 refine ⟨?_,?_,rfl⟩
 ·cases lo with
  | none=>simp [sliceBounds,HT.sIx]
  | some i=>
   simp only [sliceBounds,HT.sIx,Option.getD_none,show (1:Int) > 0 by decide,if_true]
   by_cases h:i < 0
   ·simp only [h,if_true] <;> omega
   ·simp only [h,if_false] <;> omega
 ·cases hi with
  | none=>simp [sliceBounds,HT.sIx]
  | some i=>
   simp only [sliceBounds,HT.sIx,Option.getD_none,show (1:Int) > 0 by decide,if_true]
   by_cases h:i < 0
   ·simp only [h,if_true] <;> omega
   ·simp only [h,if_false] <;> omega
theorem slicePick_cut (its:List Value) (lo hi:Option Int):slicePick its.toArray lo hi none=((its.drop (HT.sIx its.length 0 lo)).take (HT.sIx its.length its.length hi - HT.sIx its.length 0 lo)).toArray:=by
 obtain ⟨h1,h2,h3⟩:=slice_bounds lo hi its.toArray.size
 unfold slicePick
 rw [h1,h2,h3]
 simp only [sliceRange_one,pick_run,List.size_toArray] <;> rfl
def rSlL (K:PySem.W.Frag):V→Option Int→Option Int→Hp→VK→Prop:=fun x lo hi H Q=>∃ a xs,x=.ref a∧SqL K H a xs∧∀ p,H p=none→Q (.ref p) (upd H p (.lst (cutV xs lo hi)))
theorem sl_list:SlR X (rSlL X.K):=by
 intro pins s σ H x v vl vu lo hi sl Q I rx hs pl pu h
 obtain ⟨a,xs,rfl,hx,q⟩:=h
 cases rx
 obtain ⟨its,r,ht,hz⟩:=I.list hx
 have hlen:=r.length
 refine ⟨"list",_,slot_list_getitem.lookup,ht.isList.typeIs,?_⟩
 refine wpAny_getItem_list_slice ht.isList hs pl pu .none (by simp) ?_ (by rw [List.size_toArray] <;> omega)
 rw [slicePick_cut,← hlen]
 refine ⟨.ref s.heap.objs.size,_,I.laid (t':=s.toks) (o:=.lst (cutV xs lo hi)) (fun b ob q=>Heap.get?_push_of_some _ q) (Nat.le_refl _) ?_,rfl,q _ (I.hok.fresh (Nat.le_refl _))⟩
 exact ⟨Nat.le_trans (cutV_length xs lo hi) hz,_,0,(r.drop (HT.sIx xs.length 0 lo)).take (HT.sIx xs.length xs.length hi - HT.sIx xs.length 0 lo),Heap.get?_push_size _ rfl⟩
def flatV:V→Bool
 | .non=>true
 | .bl _=>true
 | .int _=>true
 | .str _=>true
 | _=>false
def eqV:V→V→Bool
 | .non,.non=>true
 | .bl a,.bl b=>a == b
 | .bl a,.int b=>(if a then 1 else 0) == b
 | .int a,.bl b=>a == (if b then 1 else 0)
 | .int a,.int b=>a == b
 | .str a,.str b=>a == b
 | _,_=>false
theorem eqAt_V {A:Around} {s:Shared} {y x:V} {u v:Value} (ry:RelV y u) (rx:RelV x v) (fy:flatV y=true) (fx:flatV x=true):SeqAt.EqAt A s u v (eqV y x):=by
 cases y with
 | non=>
  cases ry
  cases x with
  | non=>cases rx; exact SeqAt.EqAt.same _
  | bl b=>cases rx; exact SeqAt.EqAt.none_bool b
  | int b=>obtain ⟨t,rfl⟩:=rx; exact SeqAt.EqAt.none_int b t
  | str b=>obtain ⟨t,rfl⟩:=rx; exact SeqAt.EqAt.none_str b t
  | _=>exact absurd (show false=true from fx) Bool.false_ne_true
 | bl a=>
  cases ry
  cases x with
  | non=>cases rx; exact SeqAt.EqAt.bool_none a
  | bl b=>cases rx; exact SeqAt.EqAt.bool_bool a b
  | int b=>obtain ⟨t,rfl⟩:=rx; exact SeqAt.EqAt.bool_int a b t
  | str b=>obtain ⟨t,rfl⟩:=rx; exact SeqAt.EqAt.bool_str a b t
  | _=>exact absurd (show false=true from fx) Bool.false_ne_true
 | int a=>
  obtain ⟨t',rfl⟩:=ry
  cases x with
  | non=>cases rx; exact SeqAt.EqAt.int_none a t'
  | bl b=>cases rx; exact SeqAt.EqAt.int_bool a t' b
  | int b=>obtain ⟨t,rfl⟩:=rx; exact SeqAt.EqAt.int_int a t' b t
  | str b=>obtain ⟨t,rfl⟩:=rx; exact SeqAt.EqAt.int_str a t' b t
  | _=>exact absurd (show false=true from fx) Bool.false_ne_true
 | str a=>
  obtain ⟨t',rfl⟩:=ry
  cases x with
  | non=>cases rx; exact SeqAt.EqAt.str_none a t'
  | bl b=>cases rx; exact SeqAt.EqAt.str_bool a t' b
  | int b=>obtain ⟨t,rfl⟩:=rx; exact SeqAt.EqAt.str_int a t' b t
  | str b=>obtain ⟨t,rfl⟩:=rx; exact SeqAt.EqAt.str_str a t' b t
  | _=>exact absurd (show false=true from fx) Bool.false_ne_true
 | _=>exact absurd (show false=true from fy) Bool.false_ne_true
def eqU (x:V) (u:Value):Bool:=match u with
 | .none=>eqV .non x
 | .bool b=>eqV (.bl b) x
 | .int i _=>eqV (.int i) x
 | .str z _=>eqV (.str z) x
 | _=>false
theorem eqU_of {x y:V} {u:Value} (r:RelV y u) (f:flatV y=true):eqU x u=eqV y x:=by
 cases y with
 | non=>cases r; rfl
 | bl b=>cases r; rfl
 | int i=>obtain ⟨t,rfl⟩:=r; rfl
 | str z=>obtain ⟨t,rfl⟩:=r; rfl
 | _=>exact absurd (show false=true from f) Bool.false_ne_true
theorem any_eqU {x:V}:∀ {xs:List V} {us:List Value},Vals xs us→xs.all flatV=true→us.any (eqU x)=xs.any fun y=>eqV y x
 | _,_,.nil,_=>rfl
 | y::xs,u::us,.cons r t,f=>by
  rw [List.all_cons,Bool.and_eq_true] at f
  rw [List.any_cons,List.any_cons,eqU_of r f.1,any_eqU t f.2]
theorem mem_eqAt {A:Around} {s:Shared} {x:V} {v:Value} (rx:RelV x v) (fx:flatV x=true):∀ {xs:List V} {us:List Value},Vals xs us→xs.all flatV=true→∀ u∈us,SeqAt.EqAt A s u v (eqU x u)
 | _,_,.nil,_=>fun u hu=>by cases hu
 | y::xs,u::us,.cons r t,f=>fun u' hu=>by
  rw [List.all_cons,Bool.and_eq_true] at f
  rcases List.mem_cons.mp hu with rfl | hu
  ·rw [eqU_of r f.1]; exact eqAt_V r rx f.1 fx
  ·exact mem_eqAt rx fx t f.2 u' hu
def inV (x:V) (xs:List V):Bool:=xs.any fun y=>eqV y x
def rIn (K:PySem.W.Frag) (neg:Bool):R2:=fun x y H Q=>∃ p xs,y=.ref p∧(SqL K H p xs∨SqT K H p xs)∧flatV x=true∧xs.all flatV=true∧Q (.bl (if neg then !inV x xs else inV x xs)) H
theorem op_in_seq:OpR X (compareOp .In) (rIn X.K false):=by
 intro pins s σ H x y v u Q I rx ry h
 obtain ⟨p,xs,rfl,hq,fx,fs,q⟩:=h
 cases ry
 rcases hq with hq | hq
 ·obtain ⟨its,r,pl,hz⟩:=I.list hq
  refine SeqAt.in_listAt (eqU x) pl.isList (fun w hw=>mem_eqAt rx fx r fs w (by simpa using hw)) ⟨.bl _,H,I,rfl,?_⟩
  rw [show its.toArray.any (eqU x)=its.any (eqU x) by simp,any_eqU r fs]
  exact q
 ·obtain ⟨its,r,pl,hz⟩:=I.tuple hq
  refine SeqAt.in_tupleAt (eqU x) pl (fun w hw=>mem_eqAt rx fx r fs w (by simpa using hw)) ⟨.bl _,H,I,rfl,?_⟩
  rw [show its.toArray.any (eqU x)=its.any (eqU x) by simp,any_eqU r fs]
  exact q
theorem call_len_seq:CallR X (.builtin "len") (fun xs H Q=>∃ p ys,xs=[.ref p]∧(SqL X.K H p ys∨SqT X.K H p ys)∧Q (.int ys.length) H):=by
 intro pins s σ H xs us Q I r h
 obtain ⟨p,ys,rfl,hq,q⟩:=h
 obtain ⟨u,rfl,rx⟩:=vals1 r
 cases rx
 have hn:=line63
 rcases hq with hq | hq
 ·obtain ⟨its,r',pl,hz⟩:=I.list hq
  have hlen:=r'.length
  exact Calls.call_len_list pl.isList (by simp only [List.size_toArray] <;> omega) ⟨.int ys.length,H,I.tok _,⟨s.toks + 1,by rw [List.size_toArray,hlen]⟩,q⟩
 ·obtain ⟨its,r',pl,hz⟩:=I.tuple hq
  have hlen:=r'.length
  exact len_tuple pl (by simp only [List.size_toArray] <;> omega) ⟨.int ys.length,H,I.tok _,⟨s.toks + 1,by rw [List.size_toArray,hlen]⟩,q⟩
theorem call_list_of:CallR X (.type "list") (fun xs H Q=>∃ p ys,xs=[.ref p]∧(SqL X.K H p ys∨SqT X.K H p ys)∧∀ l,H l=none→Q (.ref l) (upd H l (.lst ys))):=by
 intro pins s σ H xs us Q I r h
 obtain ⟨p,ys,rfl,hq,q⟩:=h
 obtain ⟨u,rfl,rx⟩:=vals1 r
 cases rx
 have fin:∀ (its:List Value),Vals ys its→ys.length≤sizeLine→∀ (h':Heap) (c':Nat),(∀ b o',s.heap.get? b=some o'→h'.get? b=some o')→
   h'.get? s.heap.objs.size=some { cls:=.type "list",dict:=none,data:=.seq its.toArray c',slots:=#[] }→EP X pins σ Q (.ref s.heap.objs.size) { s with heap:=h' }:=fun its r' hz h' c' kp e=>
  ⟨.ref s.heap.objs.size,_,I.laid (t':=s.toks) kp (Nat.le_refl _) (show ObjOk X.prog X.w _ h' _ (.lst ys) from ⟨hz,its,c',r',e⟩),rfl,q _ (I.hok.fresh (Nat.le_refl _))⟩
 rcases hq with hq | hq
 ·obtain ⟨its,r',pl,hz⟩:=I.list hq
  have hlen:=r'.length
  obtain ⟨o,ho,hc,n,hd⟩:=pl.isList
  exact call_list_seq p (.inl rfl) ho hc hd (fun h' c' kp e=>fin its r' hz h' c' kp e) (by simp only [List.size_toArray] <;> omega)
 ·obtain ⟨its,r',pl,hz⟩:=I.tuple hq
  have hlen:=r'.length
  obtain ⟨o,ho,hc,n,hd⟩:=pl
  exact call_list_seq p (.inr rfl) ho hc hd (fun h' c' kp e=>fin its r' hz h' c' kp e) (by simp only [List.size_toArray] <;> omega)
theorem call_tuple_of:CallR X (.type "tuple") (fun xs H Q=>∃ p ys,xs=[.ref p]∧((SqL X.K H p ys∧∀ l,H l=none→Q (.ref l) (upd H l (.tup ys)))∨(SqT X.K H p ys∧Q (.ref p) H))):=by
 intro pins s σ H xs us Q I r h
 obtain ⟨p,ys,rfl,h⟩:=h
 obtain ⟨u,rfl,rx⟩:=vals1 r
 cases rx
 rcases h with ⟨hq,q⟩ | ⟨hq,q⟩
 ·obtain ⟨its,r',pl,hz⟩:=I.list hq
  have hlen:=r'.length
  refine call_tuple_list pl.isList (fun h' kp=>?_) (by simp only [List.size_toArray] <;> omega)
  have I1:Inv X pins σ H { s with heap:=h' }:=I.kept (t':=s.toks) kp
  have I2:Inv X pins σ (upd H h'.objs.size (.tup ys)) { s with heap:=h'.push { cls:=.type "tuple",data:=.seq its.toArray } }:=
   I1.laid (t':=s.toks) (fun b o e=>Heap.get?_push_of_some _ e) (Nat.le_refl _) (show ObjOk X.prog X.w _ _ _ (.tup ys) from ⟨hz,its,r',IsTup.new _ _⟩)
  exact ⟨.ref h'.objs.size,_,I2,rfl,q _ (I1.hok.fresh (Nat.le_refl _))⟩
 ·obtain ⟨its,r',pl,hz⟩:=I.tuple hq
  exact call_tuple_same pl ⟨.ref p,H,I,rfl,q⟩
def tyV (K:PySem.W.Frag) (T:String) (x:V) (H:Hp):Prop:=match x with
 | .str _=>T="str"
 | .int _=>T="int"
 | .ref p=>(T="list"∧∃ xs,SqL K H p xs)∨(T="tuple"∧∃ o,K.lookup p=some o∧o.cls=.type "tuple"∧o.dict=none)∨
   (T="dict"∧((∃ kvs,H p=some (.dK kvs))∨∃ kvs,H p=some (.dT kvs)))∨(T="set"∧∃ S n,H p=some (.set S n))
 | _=>False
theorem tyV_is {pins:List (Addr×Obj)} {σ:St} {H:Hp} {s:Shared} {T:String} {x:V} {v:Value} (I:Inv X pins σ H s) (r:RelV x v) (ty:tyV X.K T x H) :
  s.TypeIs v T∧∀ a,v=.ref a→∃ ob,s.heap.get? a=some ob∧ob.dict=none:=by
 cases x with
 | str z=>
  obtain ⟨t,rfl⟩:=r
  cases (show T="str" from ty)
  exact ⟨typeIs_str s z t,fun _ e=>nomatch e⟩
 | int i=>
  obtain ⟨t,rfl⟩:=r
  cases (show T="int" from ty)
  exact ⟨typeIs_int s i t,fun _ e=>nomatch e⟩
 | ref p=>
  cases r
  rcases ty with ⟨rfl,xs,hq⟩ | ⟨rfl,o,hk,hc,hd⟩ | ⟨rfl,hk⟩ | ⟨rfl,S,n,hk⟩
  ·obtain ⟨its,_,pl,_⟩:=I.list hq
   refine ⟨pl.isList.typeIs,fun a e=>?_⟩
   cases e
   obtain ⟨o,n,e,c,hd,_⟩:=pl
   exact ⟨o,e,hd⟩
  ·refine ⟨⟨o,I.kIn p o hk,hc⟩,fun a e=>?_⟩
   cases e
   exact ⟨o,I.kIn _ o hk,hd⟩
  ·have z:∃ o,s.heap.get? p=some o∧o.ExactDict:=by
    rcases hk with ⟨kvs,hk⟩ | ⟨kvs,hk⟩
    ·obtain ⟨_,_,_,_,o,_,_,e,ex,_⟩:=I.hok p _ hk
     exact ⟨o,e,ex⟩
    ·obtain ⟨_,_,_,_,o,_,_,e,ex,_⟩:=I.hok p _ hk
     exact ⟨o,e,ex⟩
   obtain ⟨o,e,ex⟩:=z
   refine ⟨⟨o,e,ex.1⟩,fun a e2=>?_⟩
   cases e2
   exact ⟨o,e,ex.2.1⟩
  ·obtain ⟨o,_,_,_,e,ex,_⟩:=I.hok p _ hk
   refine ⟨⟨o,e,ex.1⟩,fun a e2=>?_⟩
   cases e2
   exact ⟨o,e,ex.2.1⟩
 | _=>exact False.elim ty
def tBM0 (K:PySem.W.Frag) (T:String) (r:V→List V→Hp→VK→Prop) (to:TE):TE:=fun σ H Q=>to σ H fun x H1=>tyV K T x H1∧r x [] H1 Q
def tBM (K:PySem.W.Frag) (T:String) (r:V→List V→Hp→VK→Prop) (to:TE) (t:TA):TE:=fun σ H Q=>to σ H fun x H1=>tyV K T x H1∧t σ H1 fun xs H2=>r x xs H2 Q
variable {o e:Expr} {es:List Expr} {to:TE} {t:TA} {name:Str} {apos cpos:Pos} {T id:String} {r:V→List V→Hp→VK→Prop}
theorem pe_bm0 (pa:PlainAttrs T) (slot:Slot T name id) (hty:typeOf (.builtin id)=pure (.type "method_descriptor")) (hm:MtR X id r) (ho:PE X o to)
  (hbase:attributeBase o name X.env (eval o X.env)=eval o X.env:=by rfl) (hline:(apos.endLine == cpos.line)=true:=by rfl):PE X (.Call (.Attribute o name apos) [] [] cpos) (tBM0 X.K T r to):=by
 intro pins s σ H Q I h
 refine wpAny_Call_method0_late hbase hline (thn (ho pins s σ H _ I h) fun v s1 ⟨x,H1,I1,r1,ty,q1⟩=>?_)
 obtain ⟨h1,h2⟩:=tyV_is I1 r1 ty
 exact ⟨T,id,pa,slot,hty,h1,h2,Calls.callWith_builtin rfl (PySem.evalArgs_none (hm pins s1 σ H1 x [] v [] Q I1 r1 .nil q1))⟩
theorem pe_bm (pa:PlainAttrs T) (slot:Slot T name id) (hty:typeOf (.builtin id)=pure (.type "method_descriptor")) (hm:MtR X id r) (ho:PE X o to) (ha:PA X (e::es) t)
  (hbase:attributeBase o name X.env (eval o X.env)=eval o X.env:=by rfl)
  (hfew:((backTo cpos (starEach (e::es) X.env)).all (fun x=>!x.1) && (backToKw cpos (keywordEach [] X.env)).all (fun x=>x.1.isSome)
   && decide ((e::es).length + ([]:List Keyword).length + (if ([]:List Keyword).isEmpty then 0 else 1) < 30))=true:=by rfl)
  (hline:(apos.endLine == cpos.line)=true:=by rfl) (hs:starEach (e::es) X.env=(false,eval e X.env)::starEach es X.env:=by rfl) (hplain:(backTo cpos (starEach es X.env)).any (·.1)=false:=by rfl) :
  PE X (.Call (.Attribute o name apos) (e::es) [] cpos) (tBM X.K T r to t):=by
 intro pins s σ H Q I h
 refine wpAny_Call_method_late hbase hfew hline rfl (thn (ho pins s σ H _ I h) fun v s1 ⟨x,H1,I1,r1,ty,q1⟩=>?_)
 obtain ⟨h1,h2⟩:=tyV_is I1 r1 ty
 refine ⟨T,id,pa,slot,hty,h1,h2,?_⟩
 have hA:=ha cpos pins s1 σ H1 _ I1 q1
 rw [hs] at hA ⊢
 refine Calls.callWith_builtin (by show (false || (backTo cpos (starEach es X.env)).any (·.1))=false; rw [hplain] <;> rfl) (Calls.evalArgs_plain ?_)
 exact thn hA fun us s2 ⟨vs,H2,I2,r2,q2⟩=>hm pins s2 σ H2 x vs v us Q I2 r1 r2 q2
end
end L2
namespace L2
open PySem PySem.Spec PyProof.Rows
def MtM (X:Cx) (id:String) (r:V→List V→Hp→VK→Prop):Prop:=
 ∀ (pins:List (Addr×Obj)) (s:Shared) (σ:St) (H:Hp) (x:V) (xs:List V) (v:Value) (us:List Value) (Q:VK),Inv X pins σ H s→RelV x v→Vals xs us→r x xs H Q→
  wpAny (model X.prog X.w) X.A (call (.builtin id) (v::us)) (EP X pins σ Q) X.xe s
theorem Vals.one:∀ {x:V} {us:List Value},Vals [x] us→∃ u,us=[u]∧RelV x u
 | _,_,.cons r .nil=>⟨_,rfl,r⟩
theorem Vals.zero:∀ {us:List Value},Vals [] us→us=[]
 | _,.nil=>rfl
theorem Vals.eraseIdx:∀ {xs:List V} {us:List Value} (i:Nat),Vals xs us→Vals (xs.eraseIdx i) (us.eraseIdx i)
 | _,_,_,.nil=>.nil
 | _,_,0,.cons _ t=>t
 | _,_,i + 1,.cons r t=>.cons r (Vals.eraseIdx i t)
theorem len_erase {α:Type}:∀ (l:List α) (i:Nat),(l.eraseIdx i).length≤l.length
 | [],_=>Nat.le_refl _
 | _::_,0=>Nat.le_succ _
 | _::r,i + 1=>Nat.succ_le_succ (len_erase r i)
section
variable {X:Cx} {pins:List (Addr×Obj)} {σ:St} {H:Hp} {s:Shared} {l b:Addr} {xs ys zs:List V}
theorem Inv.lset {its its':List Value} {n:Nat} {f:Array Value→Array Value} {t':Nat} (I:Inv X pins σ H s) (hH:H l=some (.lst xs))
  (e:s.heap.get? l=some { cls:=.type "list",data:=.seq its.toArray n }) (hf:f its.toArray=its'.toArray) (hv:Vals ys its') (hz:ys.length≤sizeLine) :
  Inv X pins σ (upd H l (.lst ys)) { s with heap:=s.heap.update l (Obj.mapSeq f),toks:=t' }:=by
 have q:=PySem.IsL.update e f
 rw [hf] at q
 refine I.write (x:=l) (e:=l) (by rw [hH]; exact trivial) (.inl rfl) (fun b' u hb hu=>(Heap.get?_update_other s.heap (Obj.mapSeq f) (Ne.symm hb)).trans hu) ⟨_,q⟩ ?_
 exact ⟨hz,its',_,hv,q⟩
theorem Inv.lnew {its:List Value} {t':Nat} (I:Inv X pins σ H s) (hv:Vals ys its) (hz:ys.length≤sizeLine) :
  Inv X pins σ (upd H s.heap.objs.size (.lst ys)) { s with heap:=s.heap.push { cls:=.type "list",data:=.seq its.toArray },toks:=t' }:=
 I.laid (fun _ _ q=>Heap.get?_push_of_some _ q) (Nat.le_refl _) ⟨hz,its,0,hv,Heap.get?_push_size _ rfl⟩
theorem Inv.fresh (I:Inv X pins σ H s):H s.heap.objs.size=none:=I.hok.fresh (Nat.le_refl _)
theorem Inv.lstM (I:Inv X pins σ H s) (hH:H l=some (.lst xs)):xs.length≤sizeLine∧∃ (its:List Value) (n:Nat),Vals xs its∧xs.length=its.length∧s.heap.get? l=some { cls:=.type "list",data:=.seq its.toArray n }:=by
 obtain ⟨z,its,n,r,e⟩:=I.hok l _ hH
 exact ⟨z,its,n,r,r.length,e⟩
theorem notLongL {n:Nat} (h:n≤sizeLine):Builtin.List.listTooLong n=false:=by
 unfold Builtin.List.listTooLong
 exact decide_eq_false (by omega)
end
section
variable {X:Cx}
def rAppend:V→List V→Hp→VK→Prop:=fun x vs H Q=>∃ l xs y,x=.ref l∧vs=[y]∧H l=some (.lst xs)∧xs.length < sizeLine∧Q .non (upd H l (.lst (xs++[y])))
theorem mt_append:MtM X "list.append" rAppend:=by
 intro pins s σ H x vs v us Q I rx rv h
 obtain ⟨l,xs,y,rfl,rfl,hH,hz,q⟩:=h
 cases rx
 obtain ⟨u,rfl,ru⟩:=rv.one
 obtain ⟨z,its,n,r,hl,e⟩:=I.lstM hH
 refine call_meets F.slot_list_append ⟨_,e,rfl⟩ F.entry_list_append (F.args_list_append_2 _ _) (PySem.list_append l its.toArray n u (by rw [List.size_toArray]; omega)) ⟨e,?_⟩
 refine ⟨.non,_,I.lset (its':=its++[u]) hH e (by simp) (r.append (.cons ru .nil)) ?_,rfl,q⟩
 rw [List.length_append,List.length_singleton]
 omega
def rExtend:V→List V→Hp→VK→Prop:=fun x vs H Q=>∃ l b xs zs,x=.ref l∧vs=[.ref b]∧H l=some (.lst xs)∧H b=some (.lst zs)∧xs.length + zs.length≤sizeLine∧Q .non (upd H l (.lst (xs++zs)))
theorem mt_extend:MtM X "list.extend" rExtend:=by
 intro pins s σ H x vs v us Q I rx rv h
 obtain ⟨l,b,xs,zs,rfl,rfl,hH,hB,hz,q⟩:=h
 cases rx
 obtain ⟨u,rfl,ru⟩:=rv.one
 cases ru
 obtain ⟨z,its,n,r,hl,e⟩:=I.lstM hH
 obtain ⟨z2,its2,n2,r2,hl2,e2⟩:=I.lstM hB
 have hsz:its.toArray.size + its2.toArray.size≤sizeLine:=by rw [List.size_toArray,List.size_toArray]; omega
 have hlong:¬ (!its.toArray.isEmpty && Builtin.List.listTooLong (its.toArray.size + its2.toArray.size))=true:=by
  rw [notLongL hsz,Bool.and_false]
  exact Bool.false_ne_true
 refine call_meets F.slot_list_extend ⟨_,e,rfl⟩ F.entry_list_extend (F.args_list_extend_2 _ _)
  (AutoSeq1.list_extend_list_list_0 l its.toArray n b its2.toArray n2 hlong (by rw [List.size_toArray]; omega) (by omega)) ⟨e,e2,?_⟩
 refine ⟨.non,_,I.lset (its':=its++its2) hH e (by simp) (r.append r2) ?_,rfl,q⟩
 rw [List.length_append]
 omega
def rPopAt:V→List V→Hp→VK→Prop:=fun x vs H Q=>∃ l xs i k y,x=.ref l∧vs=[.int i]∧H l=some (.lst xs)∧-(2 ^ 63)≤i∧i < 2 ^ 63∧seqIndex? i xs.length=some k∧xs[k]?=some y∧Q y (upd H l (.lst (xs.eraseIdx k)))
theorem mt_popAt:MtM X "list.pop" rPopAt:=by
 intro pins s σ H x vs v us Q I rx rv h
 obtain ⟨l,xs,i,k,y,rfl,rfl,hH,h1,h2,hk,hy,q⟩:=h
 cases rx
 obtain ⟨u,rfl,ru⟩:=rv.one
 obtain ⟨t,rfl⟩:=ru
 obtain ⟨z,its,n,r,hl,e⟩:=I.lstM hH
 obtain ⟨w,hw,rw'⟩:=r.get hy
 refine call_meets F.slot_list_pop ⟨_,e,rfl⟩ F.entry_list_pop (F.args_list_pop_2 _ _)
  (MeetsSeq.list_pop_at l its.toArray n i t k w (fitsIndex_both h1 h2) (by rw [List.size_toArray,← hl]; exact hk) (by rw [← Array.getElem?_toList]; exact hw) (by rw [List.size_toArray]; omega)) ⟨e,?_⟩
 refine ⟨y,_,I.lset (its':=its.eraseIdx k) hH e ?_ (r.eraseIdx k) ?_,rw',q⟩
 ·show its.toArray.eraseIdxIfInBounds k=(its.eraseIdx k).toArray
  rw [List.eraseIdxIfInBounds_toArray]
 ·have:=len_erase xs k
  omega
def rClear:V→List V→Hp→VK→Prop:=fun x vs H Q=>∃ l xs,x=.ref l∧vs=[]∧H l=some (.lst xs)∧Q .non (upd H l (.lst []))
theorem mt_clear:MtM X "list.clear" rClear:=by
 intro pins s σ H x vs v us Q I rx rv h
 obtain ⟨l,xs,rfl,rfl,hH,q⟩:=h
 cases rx
 have hus:=rv.zero
 subst hus
 obtain ⟨z,its,n,r,hl,e⟩:=I.lstM hH
 refine call_meets F.slot_list_clear ⟨_,e,rfl⟩ F.entry_list_clear (F.args_list_clear_1 _) (AutoSeq1.list_clear_list_0 l its.toArray n (by rw [List.size_toArray]; omega)) ⟨e,?_⟩
 exact ⟨.non,_,I.lset (its':=[]) (ys:=[]) hH e rfl .nil (Nat.zero_le _),rfl,q⟩
def rCat:R2:=fun x y H Q=>∃ l b xs zs,x=.ref l∧y=.ref b∧H l=some (.lst xs)∧H b=some (.lst zs)∧xs.length + zs.length≤sizeLine∧∀ p,H p=none→Q (.ref p) (upd H p (.lst (xs++zs)))
theorem op_cat:OpR X (binaryOp .Add) rCat:=by
 intro pins s σ H x y v u Q I rx ry h
 obtain ⟨l,b,xs,zs,rfl,rfl,hH,hB,hz,q⟩:=h
 cases rx
 cases ry
 obtain ⟨z,its,n,r,hl,e⟩:=I.lstM hH
 obtain ⟨z2,its2,n2,r2,hl2,e2⟩:=I.lstM hB
 refine PySem.P.add_list e e2 ?_ (by rw [List.size_toArray,List.size_toArray]; omega)
 have ea:its.toArray++its2.toArray=(its++its2).toArray:=by simp
 rw [ea]
 exact ⟨.ref _,_,I.lnew (t':=s.toks) (r.append r2) (by rw [List.length_append]; omega),rfl,q _ I.fresh⟩
end
section
variable {prog:Program} {w:World} {A:Around} {E:Value→Shared→Prop} {s:Shared}
end
section
variable {X:Cx}
end
end L2
namespace Att
open PySem PySem.W PySem.Calls PyProof.Rows
theorem ints_of_wellAll {P:Params} {h:Heap}:∀ (ns:List Int) (vs:List Value),WellAll P h vs (ns.map WData.int)→IntsAre vs ns:=by
 intro ns
 induction ns with
 | nil=>
  intro vs w
  rw [List.map_nil] at w
  cases w
  exact .nil
 | cons n ns ih=>
  intro vs w
  rw [List.map_cons] at w
  cases w with
  | cons a b=>
   cases a
   exact .cons _ _ (ih _ b)
theorem script_of {l:OpenLaw} {n:Nat} (hn:l.most=some n) {P:Params} {h:Heap} {args:List WData} {vals:List Value}
  (hpre:l.row.toRowW.claim.pre args=true) (hwl:WellAll P h vals args) :
  ∃ a vs ns,vals=[Value.ref a]∧args=[WData.list (ns.map WData.int)]∧h.get? a=some { cls:=.type "list",data:=.seq vs.toArray }∧IntsAre vs ns∧ns.length≤n:=by
 have hsh:WShape.hasAll [] args [.list .int]=true:=(pre_splitW hpre).1
 have hc:l.pre.holds [] { args:=args }=true:=(pre_splitW hpre).2
 obtain ⟨d,r,rfl,h1,h2⟩:=hasAllW_cons hsh
 obtain rfl:=hasAllW_nil h2
 obtain ⟨xs,rfl,h3⟩:=hasW_list h1
 obtain ⟨ns,rfl⟩:=items_int h3
 have hlen:ns.length≤n:=by
  unfold OpenLaw.pre at hc
  have h4:(WTm.not (.lt (.lit (.int (n:Int))) (.len (.arg 0)))).holds [] { args:=[.list (ns.map .int)] }=true:=by
   have h4:=(holds_andW hc).1
   rw [hn] at h4
   exact h4
  have h5:=condW_of h4 (w_not (w_lt w_lit (w_len_list (w_arg rfl))))
  rw [List.length_map] at h5
  refine Nat.le_of_not_lt fun q=>?_
  have q':(n:Int) < ((ns.length:Nat):Int):=by omega
  first
   | (rw [decide_eq_true q'] at h5; exact absurd h5 (by decide))
   | (simp at h5; omega)
 cases hwl with
 | cons w1 w2=>
  cases w2
  cases w1 with
  | list ho hall=>exact ⟨_,_,ns,rfl,rfl,ho,ints_of_wellAll ns _ hall,hlen⟩
theorem post_true (l:OpenLaw) (args:List WData):l.row.toRowW.claim.post args (.bool true) args=true:=
 postW_of (r:=l.row.toRowW) (X:=(true == true))
  (show WShape.has [] (.bool true) .bool=true by first | rfl | decide | simp [WShape.has,WShape.arms,WShape.armsAll])
  (show (WTm.eq .res (.lit (.bool true))).value [] { args:=args,res:=some (.bool true),after:=args }=some (.bool (true == true)) from w_eq_bool (w_res rfl) w_lit) rfl
theorem attach_call {l:OpenLaw} {n:Nat} {q:Program} {loose:List Str} {XP:(Str→Option Value)→Heap→Prop} {YP:World→Heap→Prop} {d:DefRec}
  (hn:l.most=some n) (hdf:d.params.defaults=[])
  (call:∀ (w:World) (s₀ s₁:Shared) (mg mb:Str→Option Value) (fa:Addr) (o:Obj) (pm cd doc:Value) (a:Addr) (vs:List Value) (ns:List Int),
   Ground q loose [] XP w s₀ mg mb s₁.heap→YP w s₁.heap→
   s₁.heap.get? fa=some o→o.data=.func (docDef d.name d.params d.body d.scope pm cd doc)→s₁.heap.CodeRec cd d.name→mg d.name=some (.ref fa)→
   s₁.heap.get? a=some { cls:=.type "list",data:=.seq vs.toArray }→IntsAre vs ns→ns.length≤n→s₁.gens=#[]→
   codeAny (model l.prog w) callerA (.call (.ref fa) ⟨[.ref a],[]⟩) (fun r s'=>r=.ok (.ret (.bool true))∧OldK s₁.heap s'.heap∧s'.os=s₁.os∧AllBare s'.gens) s₁) :
  WalkO q loose XP YP l.row.toRowW d [] (fun f vs=>PySem.call f vs):=by
 intro w s₀ s₁ mg mb G Y fa o pm cd doc dV kV ho hd hcd hD hmg hg args vals as hpre hlay hrd hwl hlo
 obtain rfl:dV=.none:=Dflts.none hD hdf
 obtain rfl:kV=.none:=Dflts.noKw hD
 obtain ⟨a,vs,ns,rfl,rfl,hobj,hints,hlen⟩:=script_of hn hpre hwl
 refine enter_call (codeAny_mono (call w s₀ s₁ mg mb fa o pm cd doc a vs ns G Y ho (fd_plain hd) hcd hmg hobj hints hlen hg) fun r s' hq=>?_)
 obtain ⟨rfl,h2,h3,h4⟩:=hq
 exact ⟨.inl ⟨.bool true,.bool true,[],rfl,fun _=>rfl,.bool true,post_true l _,fun _=>⟨List.Pairwise.nil,fun _ hm=>(nomatch hm)⟩⟩,h2,h3,h4⟩
section
variable {prog:Program} {w:World} {A:Around} {E:Value→Shared→Prop} {s:Shared} {K:Frag}
end
end Att
namespace L2
open PySem PySem.Spec PyProof.Rows
theorem vals_ints:∀ {vs:List Value} {ns:List Int},IntsAre vs ns→Vals (ns.map V.int) vs
 | _,_,.nil=>.nil
 | _,_,.cons n t h=>.cons ⟨t,rfl⟩ (vals_ints h)
def Only (H:Hp):Prop:=∀ b,H b=none∨∃ o xs,H b=some (.frz o (.lst xs))
theorem law_call {P:Program} {w:World} {K:PySem.W.Frag} {mg mb:Str→Option Value} {CX:CXT} {k:Nat} {fa a:Addr} {fd:FuncData} {x:Str} {sp:Sp} {s₁:Shared} {vs:List Value} {ns:List Int}
  (KX:K.In s₁.heap) (hns:s₁.heap.Ns mainGlobals mg) (hb:s₁.heap.Ns builtinsNs mb) (hbb:∀ x:Str,x≠"__name__"→mb x=bootBuiltins x) (hlim:s₁.heap.NoLimit) (hg:s₁.gens=#[])
  (ha:s₁.heap.get? a=some { cls:=.type "list",data:=.seq vs.toArray }) (hi:IntsAre vs ns) (hl:ns.length≤sizeLine) (hr:Room k callerA)
  (F:∀ base:Heap,K.In base→base.Ns mainGlobals mg→FnOk P w K mg base CX k fa fd [x] sp) (hbind:∀ (s:Shared) (u:Value),BindsTo s fd ⟨[u],[]⟩ [(x,u)])
  (hsp:∀ H:Hp,Only H→SqL K H a (ns.map V.int)→sp [.ref a] H (fun v _=>v=.bl true) fun _ _ _=>False)
  (hCX:∀ H e s',CX [] H s₁ (fun _ _ _=>False) e s'→False) :
  codeAny (model P w) callerA (.call (.ref fa) ⟨[.ref a],[]⟩) (fun r s'=>r=.ok (.ret (.bool true))∧OldK s₁.heap s'.heap∧s'.os=s₁.os∧AllBare s'.gens) s₁:=by
 have rv:=vals_ints hi
 have lenV:=hi.length
 have core:∀ H:Hp,Only H→SqL K H a (ns.map V.int)→HOk P w H s₁.heap→(∀ b,H b≠none→b=a)→(H a≠none→K.lookup a=none)→
   codeAny (model P w) callerA (.call (.ref fa) ⟨[.ref a],[]⟩) (fun r s'=>r=.ok (.ret (.bool true))∧OldK s₁.heap s'.heap∧s'.os=s₁.os∧AllBare s'.gens) s₁:=by
  intro H hO hS hok hA hK
  have base_of:∀ {b:Addr} {o:Obj},s₁.heap.get? b=some o→H b=none→(hidT s₁.heap H).get? b=some o:=fun e n=>hidT_get e n
  have noA:∀ {b:Addr} {o:Obj} {es:Array DictEntry} {ep:Nat},s₁.heap.get? b=some o→o.data=.dict es ep→H b=none:=fun {b o es ep} e d=>by
   cases q:H b with
   | none=>rfl
   | some u=>
    have e':b=a:=hA b (by rw [q]; simp)
    subst e'
    rw [ha] at e; cases e
    have d':Data.seq vs.toArray _=Data.dict es ep:=d
    cases d'
  have nsK:∀ {b:Addr} {m:Str→Option Value},s₁.heap.Ns b m→(hidT s₁.heap H).Ns b m:=fun {b m} ⟨o,es,ep,e,d,r⟩=>⟨o,es,ep,base_of e (noA e d),d,r⟩
  have hKb:K.In (hidT s₁.heap H):=fun b o e=>base_of (KX b o e) (by
   cases q:H b with
   | none=>rfl
   | some u=>
    have e':b=a:=hA b (by rw [q]; simp)
    subst e'
    rw [hK (by rw [q]; simp)] at e; cases e)
  have hM:Mod K mg (hidT s₁.heap H):=⟨hKb,nsK hns,⟨mb,nsK hb,hbb⟩,let ⟨mc,h1,h2⟩:=hlim; ⟨mc,nsK h1,h2⟩⟩
  have e0:Env0 P w K mg (hidT s₁.heap H) callerA [] s₁ H:=⟨rfl,hM,fun b o e=>of_hidT e,Nat.le_of_eq (hidT_size _ _),trivial,fun b hb=>absurd (show b∈([]:List Addr) from hb) (by simp),hok,.of_eq hg⟩
  refine codeAny_mono ((F _ hKb (nsK hns)).run callerA [] s₁ H ⟨[.ref a],[]⟩ [.ref a] [.ref a] _ _ hr e0 (hbind s₁ (.ref a)) (.cons rfl .nil) (hsp H hO hS)) fun r s' h=>?_
  cases r with
  | error e=>exact (hCX H e s' h).elim
  | ok fl=>
   cases fl with
   | next=>exact False.elim h
   | brk=>exact False.elim h
   | cont=>exact False.elim h
   | ret u=>
    obtain ⟨v,H',os,bare,un,hok',r',q⟩:=h
    have q':v=.bl true:=q
    subst q'
    obtain rfl:u=Value.bool true:=r'
    refine ⟨rfl,OldK.of_keep fun b o e=>?_,os,bare⟩
    cases q:H b with
    | none=>exact un.keep b o e q (by intro z; exact absurd (show b∈([]:List Addr) from z) (by simp)) (by simp)
    | some u=>
     rcases hO b with z | ⟨ob,xs,z⟩
     ·rw [q] at z; cases z
     ·have z2:=un.frzs b ob _ z
      obtain ⟨e1,_⟩:=hok b _ z
      obtain ⟨e2,_⟩:=hok' b _ z2
      rw [e] at e1; cases e1
      exact e2
 cases hk:K.lookup a with
 | some o=>
  have e:=KX a o hk
  rw [ha] at e
  cases e
  refine core (fun _=>none) (fun _=>.inl rfl) (.inr ⟨_,vs.toArray,_,hk,rfl,rfl,rfl,by rw [List.size_toArray,lenV]; exact hl,by simpa using rv⟩) (fun b u z=>by have z':(none:Option HO)=some u:=z; cases z') (fun b z=>absurd rfl z) fun z=>absurd rfl z
 | none=>
  refine core (fun b=>if b=a then some (.frz { cls:=.type "list",data:=.seq vs.toArray } (.lst (ns.map V.int))) else none) (fun b=>?_) (.inl (.inr ⟨{ cls:=.type "list",data:=.seq vs.toArray },if_pos rfl⟩)) (fun b u z=>?_) (fun b z=>?_) fun _=>hk
  ·by_cases hb:b=a
   ·exact .inr ⟨_,_,if_pos hb⟩
   ·exact .inl (if_neg hb)
  ·by_cases hb:b=a
   ·have z':=(if_pos hb).symm.trans z
    cases z'
    subst hb
    exact ⟨ha,by rw [List.length_map]; exact hl,vs,_,rv,ha⟩
   ·have z':=(if_neg hb).symm.trans z
    cases z'
  ·by_cases hb:b=a
   ·exact hb
   ·exact absurd (if_neg hb) z
end L2
namespace L2
open PySem PySem.Spec PyProof.Rows
abbrev KOf {K:PySem.W.Frag} {h:Heap} (_:K.In h):PySem.W.Frag:=K
theorem walk_of {l:PySem.W.OpenLaw} {n k:Nat} {q:Program} {loose:List Str} {XP:(Str→Option Value)→Heap→Prop} {YP:World→Heap→Prop} {d:DefRec} {K:Params→PySem.W.Frag} {CX:World→CXT} {sp:World→Sp} {x:Str}
  (hn:l.most=some n) (hn2:n≤sizeLine) (hdf:d.params.defaults=[]) (hr:Room k callerA)
  (hY:∀ (w:World) (h:Heap),YP w h→(K w.params).In h)
  (F:∀ (w:World) (mg:Str→Option Value) (fa:Addr) (h:Heap),(K w.params).In h→h.Ns mainGlobals mg→mg d.name=some (.ref fa)→
   ∃ fd:FuncData,(∀ (s:Shared) (u:Value),BindsTo s fd ⟨[u],[]⟩ [(x,u)])∧
    ∀ base:Heap,(K w.params).In base→base.Ns mainGlobals mg→FnOk l.prog w (K w.params) mg base (CX w) k fa fd [x] (sp w))
  (hsp:∀ (w:World) (H:Hp) (a:Addr) (ns:List Int),ns.length≤n→Only H→SqL (K w.params) H a (ns.map V.int)→sp w [.ref a] H (fun v _=>v=.bl true) fun _ _ _=>False)
  (hCX:∀ (w:World) (H:Hp) (s:Shared) (e:Value) (s':Shared),CX w [] H s (fun _ _ _=>False) e s'→False) :
  PySem.W.WalkO q loose XP YP l.row.toRowW d [] (fun f vs=>PySem.call f vs):=by
 refine Att.attach_call hn hdf fun w s₀ s₁ mg mb fa o pm cd doc a vs ns G Y ho hd hcd hmg hobj hints hlen hg=>?_
 have KX:=hY w _ Y
 obtain ⟨fd,hb,hF⟩:=F w mg fa _ KX G.T.g hmg
 exact law_call KX G.T.g G.T.b G.T.builtins G.T.nolimit hg hobj hints (Nat.le_trans hlen hn2) hr hF hb (fun H hO hS=>hsp w H a ns hlen hO hS) fun H e s'=>hCX w H s₁ e s'
end L2
namespace L2
open PySem PySem.Spec PyProof.Rows
def defArgs (s:Stmt):Arguments:=match s with
 | .FunctionDef _ a _ _ _ _ _ _ _ _=>a
 | _=>{ posonlyargs:=[],args:=[],vararg:=none,kwonlyargs:=[],kw_defaults:=[],kwarg:=none,defaults:=[] }
def defBody (s:Stmt):List Stmt:=match s with
 | .FunctionDef _ _ b _ _ _ _ _ _ _=>b
 | _=>[]
def defScope (s:Stmt):Scope:=match s with
 | .FunctionDef _ _ _ _ _ _ sc _ _ _=>sc
 | _=>{ kind:=.function,names:=[],isGenerator:=false,isCoroutine:=false }
abbrev CX0:CXT:=fun _ _ _ _ _ _=>False
abbrev E0:XK:=fun _ _ _=>False
theorem pass0 {X:Cx}:Passes CX0 X E0:=fun _ _ _ _ _ _ _ h=>h.elim
structure Fun (K:PySem.W.Frag) (x qual:Str) (st:Stmt) (f:Addr) (fd:FuncData):Prop where
 ex:∃ (oc:Value) (od:Option Addr) (kV doc pm:Value) (an:Option Addr) (cdv ct:Value) (osl:Array (Option Value)),
  fd=PySem.W.fnOf x qual (defArgs st) (defBody st) (defScope st) .none kV doc pm an cdv ct∧K.lookup f=some ⟨oc,od,.func fd,osl⟩∧PySem.W.codeIn K cdv qual=true
 kp:PySem.W.keepIn K (.ref f)=true
section
variable {P:Program} {w:World} {K:PySem.W.Frag} {mg:Str→Option Value} {base:Heap}
theorem Fun.ok {x qual:Str} {st:Stmt} {f:Addr} {fd:FuncData} {N ps:List Str} {k:Nat} {sp:Sp} (F:Fun K x qual st f fd) (S:FnScope N ps (defScope st)) (len:∀ vs H Q E,sp vs H Q E→vs.length=ps.length)
  (hbody:∀ (cdv:Value) (A:Around) (outer:List Env) (s:Shared) (H:Hp) (vs:List V) (Q:VK) (E:XK),Room k (A.deeper (envOfC qual (defScope st) s.heap.objs.size f cdv))→sp vs H Q E→
   ∃ t,PSs (cxOf CX0 P w K mg base N qual (defScope st) f cdv A outer s H E).nox (defBody st) t∧t { nx:=fun _ H'=>Q .non H',rt:=Q } (start N vs) H):FnOk P w K mg base CX0 (k + 1) f fd ps sp:=by
 obtain ⟨oc,od,kV,doc,pm,an,cdv,ct,osl,rfl,lk,hcd⟩:=F.ex
 refine fn_of lk hcd S len fun A outer s H vs Q E hr hsp=>?_
 obtain ⟨t,h,q⟩:=hbody cdv A outer s H vs Q E hr hsp
 exact ⟨t,h.nox,q⟩
theorem Fun.binds {x qual:Str} {st:Stmt} {f:Addr} {fd:FuncData} {ps:List Str} (F:Fun K x qual st f fd)
  (h:∀ (kV doc pm:Value) (an:Option Addr) (cdv ct:Value) (us:List Value),us.length=ps.length→bindArgs (PySem.W.fnOf x qual (defArgs st) (defBody st) (defScope st) .none kV doc pm an cdv ct) ⟨us,[]⟩=pure (ps.zip us)):Binds K fd ps []:=by
 obtain ⟨oc,od,kV,doc,pm,an,cdv,ct,osl,rfl,lk,hcd⟩:=F.ex
 exact .all (h kV doc pm an cdv ct)
theorem fun_mk {x qual:Str} {st:Stmt} {f:Addr} {oc:Value} {od an:Option Addr} {osl:Array (Option Value)} {kV doc pm cdv ct:Value} (l:K.lookup f=some ⟨oc,od,.func (PySem.W.fnOf x qual (defArgs st) (defBody st) (defScope st) .none kV doc pm an cdv ct),osl⟩)
  (c:PySem.W.codeIn K cdv qual=true) (k:PySem.W.keepIn K (.ref f)=true):Fun K x qual st f (PySem.W.fnOf x qual (defArgs st) (defBody st) (defScope st) .none kV doc pm an cdv ct):=⟨⟨oc,od,kV,doc,pm,an,cdv,ct,osl,rfl,l,c⟩,k⟩
end
section
variable {X:Cx}
theorem pv (i:Nat) {x:Str} {pos:Pos} (hN:X.N[i]?=some x:=by rfl) (hv:Vis X.env.scope x:=by first | exact Or.inl rfl | exact Or.inr (Or.inl rfl) | exact Or.inr (Or.inr rfl)) (hd:(x == ("__debug__":Str))=false:=by decide)
  (hcd:(x == ("__classdict__":Str))=false:=by decide):PE X (.Name x pos) (tVar i):=pe_var hN hv hd hcd
end
theorem iteF {A B:Prop} (h:B):if false=true then A else B:=by
 rw [if_neg Bool.false_ne_true]
 exact h
theorem iteT {A B:Prop} (h:A):if true=true then A else B:=by
 rw [if_pos rfl]
 exact h
theorem ite2 {c A B:Prop} [Decidable c] (h1:c→A) (h2:¬ c→B):if c then A else B:=by
 by_cases h:c
 ·rw [if_pos h]
  exact h1 h
 ·rw [if_neg h]
  exact h2 h
theorem iteNS {c A B:Prop} [Decidable c] (hc:c) (h:B):if (!decide c)=true then A else B:=by
 rw [decide_eq_true hc]
 exact iteF h
def Same (H H':Hp):Prop:=∀ b o,H b=some o→H' b=some o
theorem Same.refl (H:Hp):Same H H:=fun _ _ h=>h
theorem Same.trans {H H1 H2:Hp} (a:Same H H1) (b:Same H1 H2):Same H H2:=fun c o h=>b c o (a c o h)
theorem Same.free {H H':Hp} (e:Same H H') {l:Addr} (h:H' l=Option.none):H l=Option.none:=by
 cases q:H l with
 | none=>rfl
 | some o=>
  rw [e l o q] at h
  cases h
theorem Same.seq {K:PySem.W.Frag} {H H':Hp} {a:Addr} {xs:List V} (e:Same H H') (h:SqL K H a xs):SqL K H' a xs:=by
 rcases h with (h | ⟨o,h⟩) | h
 ·exact .inl (.inl (e _ _ h))
 ·exact .inl (.inr ⟨o,e _ _ h⟩)
 ·exact .inr h
end L2
set_option maxHeartbeats 4000000
namespace L2
open PySem PySem.Spec PyProof.Rows
theorem ObjOk.there {P:Program} {w:World} {H:Hp} {h:Heap} {a:Addr} {o:HO} (x:ObjOk P w H h a o):∃ ob,h.get? a=some ob:=by
 cases o with
 | lst xs=>obtain ⟨_,_,_,_,e⟩:=x; exact ⟨_,e⟩
 | tup xs=>obtain ⟨_,_,_,ob,e,_⟩:=x; exact ⟨ob,e⟩
 | dK kvs=>obtain ⟨_,_,_,_,ob,_,_,e,_⟩:=x; exact ⟨_,e⟩
 | dT kvs=>obtain ⟨_,_,_,_,ob,_,_,e,_⟩:=x; exact ⟨_,e⟩
 | set S n=>obtain ⟨ob,_,_,_,e,_⟩:=x; exact ⟨_,e⟩
 | ins C dx fs=>obtain ⟨_,_,_,e,_⟩:=x; exact ⟨_,e⟩
 | own y=>exact x
 | xd fs=>obtain ⟨_,⟨_,_,_,e,_⟩,_⟩:=x; exact ⟨_,e⟩
 | rng lo hi=>obtain ⟨_,_,_,e⟩:=x; exact ⟨_,e⟩
 | frz ob u=>obtain ⟨e,_⟩:=x; exact ⟨_,e⟩
 | tbl ps=>exact ⟨_,(show h.get? a=some _ from x)⟩
 | met f y=>exact ⟨_,(show h.get? a=some _ from x)⟩
 | ext φ=>obtain ⟨_,e,_⟩:=x; exact e
section
variable {X:Cx} {pins:List (Addr×Obj)} {σ:St} {H H':Hp} {s s':Shared}
theorem Inv.nopins (I:Inv X pins σ H s):Inv X [] σ H s:=I.pins_of fun p hp=>nomatch hp
theorem Inv.new0 (I:Inv X pins σ H s) (hex:X.ex=[]) {b:Addr} (n:s.heap.get? b=none):X.s₀.heap.get? b=none:=by
 cases q:X.s₀.heap.get? b with
 | none=>rfl
 | some o=>
  obtain ⟨o',e⟩:=I.base.there b o q (by rw [hex]; simp)
  rw [n] at e; cases e
theorem Inv.newH (I:Inv X pins σ H s) {b:Addr} (n:s.heap.get? b=none):H b=none:=by
 cases q:H b with
 | none=>rfl
 | some o=>
  obtain ⟨ob,e⟩:=(I.hok b o q).there
  rw [n] at e; cases e
structure Shift (X:Cx) (ts:List Addr) (h h':Heap):Prop where
 stays:(PySem.W.hideAll h (ts++frs X.stack)).StaysIn h'
 up:h.UpToSlots h'
theorem Shift.frame {ts:List Addr} {h':Heap} (S:Shift X ts s.heap h') (I:Inv X pins σ H s) {b:Addr} (hb:b∈frs X.stack) {o:Obj} (e:s.heap.get? b=some o):∃ sl,h'.get? b=some { o with slots:=sl }:=by
 obtain ⟨_,o',e',nf⟩:=I.stack.mem hb
 rw [e] at e'; cases e'
 exact S.up b o e nf
theorem Shift.get {ts:List Addr} {h':Heap} (S:Shift X ts s.heap h') {b:Addr} {o:Obj} (e:s.heap.get? b=some o) (h1:b∉ts) (h2:b∉frs X.stack):h'.get? b=some o:=
 S.stays b o (PySem.W.hideAll_get _ e fun z=>(List.mem_append.mp z).elim h1 h2)
theorem Shift.hok {ts:List Addr} {h':Heap} (S:Shift X ts s.heap h') (I:Inv X pins σ H s) (hts:∀ b∈ts,H b=none):HOk X.prog X.w H h':=fun a o e=>by
 refine (I.hok a o e).stay (fun b u hb q=>S.get q (fun z=>?_) fun z=>?_) (fun _ q=>q) fun _ _ q=>q
 ·have n:=hts b z
  rcases hb with rfl | hb
  ·rw [e] at n; cases n
  ·rw [hb] at n; cases n
 ·have n:=I.stkFree b z
  rcases hb with rfl | hb
  ·rw [e] at n; cases n
  ·rw [hb] at n; cases n
theorem Shift.un {ts:List Addr} {h':Heap} (S:Shift X ts s.heap h') (I:Inv X pins σ H s) (hts:∀ b∈ts,X.s₀.heap.get? b=none):Un X.fs X.ex X.H₀ H X.s₀.heap h':=by
 have nts:∀ b o,X.s₀.heap.get? b=some o→b∉ts:=fun b o e z=>by rw [hts b z] at e; cases e
 have nL:∀ b o,X.s₀.heap.get? b=some o→b≠X.env.locals:=fun b o e=>Nat.ne_of_lt (Nat.lt_of_lt_of_le (Heap.lt_size e) I.ok.above)
 have nst:∀ b o,X.s₀.heap.get? b=some o→b∉X.fs→b∉frs X.stack:=fun b o e hb z=>(List.mem_cons.mp (I.stkSub b z)).elim (nL b o e) hb
 refine ⟨fun b o e n hb hx=>S.get (I.base.keep b o e n hb hx) (nts b o e) (nst b o e hb),fun b o e n hb hx=>?_,fun b o e n hx=>I.base.free b o e n hx,fun b o e hx=>?_,I.base.tups,I.base.frzs,I.base.tbls⟩
 ·obtain ⟨sl,e1⟩:=I.base.slot b o e n hb hx
  obtain ⟨_,o',e',nf⟩:=I.funs.mem hb
  rw [e1] at e'; cases e'
  obtain ⟨sl2,e2⟩:=S.up b _ e1 nf
  exact ⟨sl2,e2⟩
 ·obtain ⟨o',e1⟩:=I.base.there b o e hx
  by_cases z:b∈frs X.stack
  ·obtain ⟨sl,e2⟩:=S.frame I z e1
   exact ⟨_,e2⟩
  ·exact ⟨o',S.get e1 (nts b o e) z⟩
theorem Shift.inv {ts:List Addr} {h':Heap} {tk:Nat} (S:Shift X ts s.heap h') (I:Inv X pins σ H s) (hts:∀ b∈ts,X.s₀.heap.get? b=none∧H b=none∧∀ p∈X.pn++pins,p.1≠b):Inv X pins σ H { s with heap:=h',toks:=tk }:=by
 have cellK:∀ c v,s.heap.IsCell c v→h'.IsCell c v:=fun c v ⟨o,ho,hd⟩=>by
  obtain ⟨sl,e⟩:=S.up c o ho (fun vs q=>by rw [hd] at q; cases q)
  exact ⟨_,e,hd⟩
 refine ⟨I.ok,I.os,I.bare,S.un I fun b z=>(hts b z).1,?_,fun x c e=>?_,I.free,I.freeC,fun p hp=>?_,S.hok I fun b z=>(hts b z).2.1,I.len⟩
 ·obtain ⟨m,hn,hl⟩:=I.loc
  refine ⟨m,S.up.ns hn,fun i x v e1 e2 e3=>?_⟩
  obtain ⟨u,r,l⟩:=hl i x v e1 e2 e3
  refine ⟨u,r,?_⟩
  rcases l with l | ⟨k,c,e,z⟩
  ·exact .inl l
  ·exact .inr ⟨k,c,e,cellK c _ z⟩
 ·obtain ⟨v,z⟩:=I.cell x c e
  exact ⟨v,cellK c v z⟩
 ·obtain ⟨e,n,ne,nf,d⟩:=I.pin p hp
  exact ⟨S.get e (fun z=>(hts p.1 z).2.2 p hp rfl) fun z=>(List.mem_cons.mp (I.stkSub p.1 z)).elim ne nf,n,ne,nf,d⟩
theorem fun_hide (I:Inv X pins σ H s) (ts:List Addr):s.heap.FunFrames (PySem.W.hideAll s.heap (ts++frs X.stack)) X.stack:=
 PySem.W.funFrames_hide I.stack fun env he b hb=>List.mem_append_right _ (List.mem_filterMap.mpr ⟨env,he,hb⟩)
theorem hide_stays (h:Heap) (l:List Addr):(PySem.W.hideAll h l).StaysIn h:=fun _ _ e=>PySem.W.of_hideAll l e
end
section
variable {P:Program} {w:World} {K:PySem.W.Frag} {mg:Str→Option Value} {base:Heap} {N:List Str} {qual:Str} {scope:Scope} {f:Addr} {cd:Value} {A:Around} {outer:List Env} {s:Shared} {H:Hp} {E:XK}
end
theorem exc_cls_of {K:PySem.W.Frag} {h:Heap} {C:Addr} {bmB:List Value} {newId:String} (X:K.In h) (q:PySem.W.excIn K C bmB newId=true) :
  ∃ bm N nm q bs hdct sn sub ab col dd k0 k1 k2 k3 k5 mN,h.get? C=some (excClassObj nm q C N bs bm hdct sn sub ab col dd k0 k1 k2 k3 k5 newId)∧h.Ns N mN∧mN "__init__"=none∧OwnTail h bmB bm:=by
 unfold PySem.W.excIn at q
 split at q
 ·rename_i dd cd sl ho
  split at q
  ·rename_i C' bm k0 k1 k2 k3 n k5 hm hs
   simp only [Bool.and_eq_true,beq_iff_eq,Bool.not_eq_true'] at q
   obtain ⟨⟨⟨⟨⟨rfl,rfl⟩,hdel⟩,ht⟩,hok⟩,hni⟩:=q
   obtain ⟨nm,bs,mro,ns,qn,hd,sn,sub,ab,col,del⟩:=cd
   dsimp only at hm hdel hok hni
   subst hm hdel
   have hsl:sl=#[k0,k1,k2,k3,some (.builtin n),k5]:=by
    obtain ⟨l⟩:=sl
    simp only at hs
    rw [hs]
   subst hsl
   exact ⟨bm,ns,nm,qn,bs,hd,sn,sub,ab,col,dd,k0,k1,k2,k3,k5,_,X _ _ ho,.of_isNs (PySem.W.isNs_of_in X hok),PySem.W.nsMap_none_of_in X hok hni,PySem.W.tail_of_in X ht⟩
  ·cases q
 ·cases q
abbrev bmVE:List Value:=[.type "ValueError",.type "Exception",.type "BaseException",.type "object"]
abbrev newVE:String:="ValueError.__new__"
end L2
namespace PySem.W
open PySem PySem.Calls PyProof.Rows Builtin Builtin.ObjectAttr Builtin.Getset_descriptor
structure ExcK (K:Frag) (C:Addr):Prop where
 ex:excIn K C [.type "ValueError",.type "Exception",.type "BaseException",.type "object"] "ValueError.__new__"=true
 ga:findIn K (.ref C) "__getattribute__"=some (some (.builtin "BaseException.__getattribute__"))
 no:findIn K (.ref C) "__getattr__"=some none
 cl:findIn K (.ref C) "__class__"=some (some (.builtin "object.__class__"))
 ob:mroIn K C (.type "object")=some true
 be:mroIn K C (.type "BaseException")=some true
structure ClsK (K:Frag):Prop where
 gt:specialIn K (.builtin "object.__class__") "__get__"=some (some (.builtin "getset_descriptor.__get__"))
 tk:takesIn K (.builtin "object.__class__")=some true
section
variable {prog:Program} {w:World} {A:Around} {E:Value→Shared→Prop} {s:Shared} {K:Frag} {x C D:Addr} {ox:Obj}
theorem exc_class_get {tp:Value} {R:Result→Shared→Prop} (X:K.In s.heap) (hx:s.heap.get? x=some ox) (hc:ox.cls=.ref C) (hm:mroIn K C (.type "object")=some true)
  (h:R (.ok (.ret (.ref C))) s):codeAny (model prog w) A (.call (.builtin "getset_descriptor.__get__") ⟨[.builtin "object.__class__",.ref x,tp],[]⟩) R s:=by
 obtain ⟨hh,g,dr,t,os⟩:=s
 have Q0:Looks (model prog w) hh (typeOf (.ref x)) (.ref C):=hc▸(Looks.ld hx).andThen .now
 have Q1:=looks_mroIn (M:=model prog w) X hm
 refine codeAny_call_builtin KF.slot_gs.plain KF.entry_gs (KF.slot_gs.check _ _ _ _ _ _ _ _ KF.type_class (KF.args_gs _ _ _) ?_)
 unfold Builtin.«getset_descriptor.__get__» descrGet
 rw [dga_obj]
 refine wpAny_bind (wpAny_pure ?_)
 unfold descrGetter descrCheckInstance descrNameAndClass isInstance
 simp only [KF.owner_class]
 repeat lk
 refine ⟨Code.quiet_builtin _ (by decide +kernel),codeAny_builtin KF.entry_class ?_⟩
 unfold Builtin.«object.__class__» shownTypeOf
 repeat lk
 exact h
theorem wp_if_neg {α:Type} {M:Model} {A:Around} {c:Prop} [Decidable c] {a b:Sem α} {Q:α→Shared→Prop} {E:Value→Shared→Prop} {s:Shared} (h:¬ c) (k:wpAny M A b Q E s):wpAny M A (if c then a else b) Q E s:=by
 rw [if_neg h]
 exact k
theorem ga_slot (x n:Value):slotArgs "__getattribute__" 1 ⟨[x,n],[]⟩=pure (x,[n]):=by kernel_rfl
theorem ga_name (n:Str) (t:Tok):attrName (.str n t)=pure n:=by kernel_rfl
theorem exc_ga_check {M:Model} {nameV:Value} {Q:Unit→Shared→Prop} (hi:Looks M s.heap (isInstance (.ref x) (.type "BaseException")) true) (h:Q () s):wpAny M A (checkBuiltinCall "BaseException.__getattribute__" ⟨[.ref x,nameV],[]⟩) Q E s:=by
 have hk:builtinKind "BaseException.__getattribute__"=some .slot:=by decide +kernel
 have hsplit:splitId "BaseException.__getattribute__"=some ("BaseException", "__getattribute__"):=by decide +kernel
 have ha:=PySem.F.args_bexc_ga (.ref x) nameV
 obtain ⟨hh,g,d,t,os⟩:=s
 simp only [checkBuiltinCall,hk,hsplit]
 refine wpAny_bind (hi.at ?_)
 repeat (any_goals (first | assumption | wp_step))
theorem exc_ga_call {nameV:Value} {R:Result→Shared→Prop} (hi:Looks (model prog w) s.heap (isInstance (.ref x) (.type "BaseException")) true)
  (h:wpAny (model prog w) A.in1 (Builtin.«object.__getattribute__» ⟨[.ref x,nameV],[]⟩) (fun fin s'=>match fin with | .done (.ret v)=>R (.ok (.ret v)) s' | _=>False) (fun e s'=>R (.error e) s') s) :
  codeAny (model prog w) A (.call (.builtin "BaseException.__getattribute__") ⟨[.ref x,nameV],[]⟩) R s:=
 codeAny_call_builtin PySem.F.attr_ValueError.ga.plain PySem.F.entry_bexc_ga (exc_ga_check hi (wpAny_mono h (fun fin s' z=>by rcases fin with (_ | _ | _ | _) | _ <;> first | exact z | exact z.elim) fun _ _ z=>z))
set_option maxHeartbeats 400000 in
theorem exc_ca {Q:Option Value→Shared→Prop} (T:ExcK K C) (G:ClsK K) (X:K.In s.heap) (hx:s.heap.get? x=some ox) (hc:ox.cls=.ref C) (h:Q (some (.ref C)) { s with toks:=s.toks + 1 }) :
  wpAny (model prog w) A (getAttr? (.ref x) "__class__") Q E s:=by
 obtain ⟨hh,g,d,t,os⟩:=s
 have Q0:Looks (model prog w) hh (typeOf (.ref x)) (.ref C):=hc▸(Looks.ld hx).andThen .now
 have Q1:=looks_findIn (M:=model prog w) X T.ga
 have Q2:=looks_findIn (M:=model prog w) X T.no
 have Q3:=looks_findIn (M:=model prog w) X T.cl
 have Q4:=looks_takesIn (M:=model prog w) X G.tk
 have Q5:Looks (model prog w) hh (getOf (some (.builtin "object.__class__"))) (some (.builtin "getset_descriptor.__get__")):=looks_specialIn (M:=model prog w) X G.gt
 have Q6:Looks (model prog w) hh (find (.ref x) (.ref C) "__class__") (.bind (.builtin "getset_descriptor.__get__") (.builtin "object.__class__")):=
  Q3.andThen (Q5.andThen ((show Looks (model prog w) hh (dataDescriptor? (some (.builtin "object.__class__")) (some (.builtin "getset_descriptor.__get__"))) (some (.builtin "getset_descriptor.__get__",.builtin "object.__class__")) from Q4.andThen .now).andThen (Looks.tag .now)))
 have Q7:Looks (model prog w) hh (isInstance (.ref x) (.type "BaseException")) true:=Q0.andThen (looks_mroIn X T.be)
 have hx2:(Value.builtin "BaseException.__getattribute__" == Value.builtin "object.__getattribute__")=false:=by decide +kernel
 have hx1:¬ ((onTheHeap (Value.ref C) && Value.builtin "BaseException.__getattribute__" == Value.builtin "object.__getattribute__")=true):=by rw [hx2,Bool.and_false]; exact Bool.false_ne_true
 unfold getAttr? getAttrBy? getAttrBy
 refine wpAny_bind (wpAny_mkText (wpAny_bind (wpAny_attempt (wpAny_holding (wpAny_bind (Q0.at (wpAny_bind (Q1.at ?_))))))))
 refine wp_if_neg hx1 ?_
 unfold getAttrByItsOwn
 refine wpAny_bind ?_
 show wpAny _ _ (typeLookup (.ref C) "__getattr__") _ _ _
 refine Q2.at ?_
 refine wpAny_bind (wpAny_attempt (wpAny_holding ?_))
 show wpAny _ _ (boundAndCalled (.builtin "BaseException.__getattribute__") (.ref x) _) _ _ _
 unfold boundAndCalled
 refine wpAny_bind (wpAny_of_eq (PySem.F.attr_ValueError.ga.bind _) ?_)
 refine wpAny_call (exc_ga_call Q7 ?_)
 unfold Builtin.«object.__getattribute__»
 refine wpAny_bind (wpAny_of_eq (ga_slot _ _) ?_)
 refine wpAny_bind (wpAny_of_eq (ga_name _ _) ?_)
 refine wpAny_bind (Q0.at (wpAny_bind (Q6.at ?_)))
 show wpAny _ _ (bindTo (.builtin "getset_descriptor.__get__") (.builtin "object.__class__") (.ref x) (.ref C)) _ _ _
 unfold bindTo
 refine wpAny_bind (wpAny_holding (wpAny_call (exc_class_get X hx hc T.ob ?_)))
 refine wpAny_pure ?_
 exact handed_on rfl (wpAny_pure h)
theorem kitx_exc (T:ExcK K C) (G:ClsK K):KitX K (.ref x) (.ref C) (fun h=>∃ o,h.get? x=some o∧o.cls=.ref C) where
 ty:=fun _ _ _ ⟨_,hx,hc⟩=>hc▸(Looks.ld hx).andThen .now
 it:=fun _ _ X _=>by
  obtain ⟨tl,N,nm,q,bs,hdct,sn,sub,ab,col,dd,k0,k1,k2,k3,k5,mN,hC,_⟩:=L2.exc_cls_of X T.ex
  intro A' Q' E' s' k q
  unfold isType loadHead
  exact wpAny_bind (wpAny_loadPart (k _ _ hC) (wpAny_pure q))
 ne:=fun h tp dd its n sl X htp=>by
  obtain ⟨tl,N,nm,q,bs,hdct,sn,sub,ab,col,dd,k0,k1,k2,k3,k5,mN,hC,_⟩:=L2.exc_cls_of X T.ex
  refine Bool.eq_false_iff.mpr fun q=>?_
  have e:C=tp:=Value.ref.inj (beq_iff_eq.mp q)
  subst e
  exact absurd (Value.type.inj (congrArg Obj.cls (Option.some.inj (hC.symm.trans htp)))) (by decide)
 ca:=fun X ⟨_,hx,hc⟩ k=>exc_ca T G X hx hc k
theorem exc_matches {M:Model} {Q:Bool→Shared→Prop} (X:K.In s.heap) (hx:s.heap.get? x=some ox) (hc:ox.cls=.ref C) (T:ExcK K D) (m:mroIn K C (.ref D)=some true) (h:Q true s) :
  wpAny M A (excMatches (.ref x) (.ref D)) Q E s:=by
 obtain ⟨hh,g,d,tk,os⟩:=s
 obtain ⟨tl,N,nm,q',bs,hdct,sn,sub,ab,col,dd,k0,k1,k2,k3,k5,mN,hD,_⟩:=L2.exc_cls_of X T.ex
 have Q1:=looks_mroIn (M:=M) X m
 have Q2:=looks_mroIn (M:=M) X T.be
 have f:=tc_notTuple
 unfold excMatches
 repeat (first | (with_reducible refine wpAny_loadPart_at hx ?_; rw [hc]) | with_reducible refine wpAny_loadPart_at hD ?_ | with_reducible refine Q1.at ?_ | with_reducible refine Q2.at ?_ | wp_step)
 exact h
end
end PySem.W
namespace L2
open PySem PySem.Spec PyProof.Rows
theorem call_isinst {X:Cx}:CallR X (.builtin "isinstance") (fun xs H Q=>∃ x c t b,xs=[x,c]∧TyOf X.K H x t∧(∀ u,RelV c u→PySem.W.kitOne X.K t u=some b)∧Q (.bl b) H):=by
 intro pins s σ H xs us Q I r h
 obtain ⟨x,c,t,b,rfl,ty,k,q⟩:=h
 obtain ⟨u,w',rfl,r1,r2⟩:=vals2 r
 exact isinst_ok I r1 ty (k _ r2) fun tk=>⟨.bl b,H,I.tok tk,rfl,q⟩
abbrev Cx.inH (X:Cx) (a:Addr):Cx:={ X with A:=X.A.mark (some (.ref a)),calm:=false,xe:=fun _ _=>False }
abbrev Cx.pinned (X:Cx) (pn:List (Addr×Obj)):Cx:={ X with pn:=pn }
section
variable {X:Cx} {pins:List (Addr×Obj)} {σ:St} {H:Hp} {s:Shared}
theorem Inv.inH (I:Inv X pins σ H s) (a:Addr):Inv (X.inH a) pins σ H s:=
 ⟨⟨I.ok.mod,I.ok.kind,I.ok.glob,I.ok.blt,I.ok.above,I.ok.inj,I.ok.has,I.ok.cab,(fun h=>nomatch h),I.ok.frames,I.ok.stk,I.ok.exf,I.ok.bs,I.ok.bsz,I.ok.noex,I.ok.exfs,I.ok.funs,I.ok.frf⟩,I.os,I.bare,I.base,I.loc,I.cell,I.free,I.freeC,I.pin,I.hok,I.len⟩
theorem Inv.ofH {a:Addr} (ok:X.Ok) (I:Inv (X.inH a) pins σ H s):Inv X pins σ H s:=⟨ok,I.os,I.bare,I.base,I.loc,I.cell,I.free,I.freeC,I.pin,I.hok,I.len⟩
theorem Inv.toPn (I:Inv X pins σ H s):Inv (X.pinned (X.pn++pins)) [] σ H s:=
 ⟨⟨I.ok.mod,I.ok.kind,I.ok.glob,I.ok.blt,I.ok.above,I.ok.inj,I.ok.has,I.ok.cab,I.ok.hd,I.ok.frames,I.ok.stk,I.ok.exf,I.ok.bs,I.ok.bsz,I.ok.noex,I.ok.exfs,I.ok.funs,I.ok.frf⟩,I.os,I.bare,I.base,I.loc,I.cell,I.free,I.freeC,fun p hp=>I.pin p (by simpa using hp),I.hok,I.len⟩
theorem Inv.ofPn (ok:X.Ok) (I:Inv (X.pinned (X.pn++pins)) [] σ H s):Inv X pins σ H s:=
 ⟨ok,I.os,I.bare,I.base,I.loc,I.cell,I.free,I.freeC,fun p hp=>I.pin p (by simpa using hp),I.hok,I.len⟩
theorem Inv.track {a:Addr} {o:HO} (I:Inv X pins σ H s) (hn:H a=none) (h0:X.s₀.heap.get? a=none) (hL:a≠X.env.locals) (hc:∀ x c,X.env.cells.lookup x=some c→c≠a) (hp:∀ p∈X.pn++pins,p.1≠a)
  (new:ObjOk X.prog X.w (upd H a o) s.heap a o):Inv X pins σ (upd H a o) s:=by
 have ne:∀ b u,H b=some u→b≠a:=fun b u e=>ne_of_none e hn
 refine ⟨I.ok,I.os,I.bare,⟨I.base.keep,I.base.slot,fun b ob e n hx=>?_,I.base.there,fun b xs e=>?_,fun b ob u e=>?_,fun b ps e=>?_⟩,I.loc,I.cell,?_,fun x c e=>?_,fun p hp'=>?_,fun b u e=>?_,I.len⟩
 ·rw [upd_ne (fun z=>by rw [z,h0] at e; cases e)]
  exact I.base.free b ob e n hx
 ·have q:=I.base.tups b xs e
  rw [upd_ne (ne b _ q)]; exact q
 ·have q:=I.base.frzs b ob u e
  rw [upd_ne (ne b _ q)]; exact q
 ·obtain ⟨m,q⟩:=I.base.tbls b ps e
  exact ⟨m,by rw [upd_ne (ne b _ q)]; exact q⟩
 ·rw [upd_ne (Ne.symm hL)]; exact I.free
 ·rw [upd_ne (hc x c e)]; exact I.freeC x c e
 ·obtain ⟨e,n,r⟩:=I.pin p hp'
  exact ⟨e,by rw [upd_ne (hp p hp')]; exact n,r⟩
 ·by_cases hb:b=a
  ·subst hb; rw [upd_same] at e; cases e; exact new
  ·rw [upd_ne hb] at e
   exact (I.hok b u e).stay (fun _ _ _ q=>q) (fun c q=>by rw [upd_ne (ne c _ q)]; exact q) fun c xs q=>by rw [upd_ne (ne c _ q)]; exact q
end
end L2
namespace L2
open PySem PySem.Spec PyProof.Rows
end L2
namespace L2
open PySem PySem.Spec PyProof.Rows
def WTurn (Pv:St→Hp→Prop) (mu:St→Hp→Nat) (m:Nat) (tb:TS) (D:Ends) (σ:St) (H1:Hp):Prop:=
 ∃ N:St→Hp→Prop,(∀ σ' H',N σ' H'→∃ m',m' < m∧m'=mu σ' H'∧Pv σ' H')∧tb { D with nx:=N,ct:=N,bk:=D.nx } σ H1
theorem WTurn.of {Pv:St→Hp→Prop} {mu:St→Hp→Nat} {m:Nat} {tb:TS} {D:Ends} {σ:St} {H1:Hp}
  (h:tb { D with nx:=fun σ' H'=>Pv σ' H'∧mu σ' H' < m,ct:=fun σ' H'=>Pv σ' H'∧mu σ' H' < m,bk:=D.nx } σ H1):WTurn Pv mu m tb D σ H1:=
 ⟨_,fun σ' H' ⟨p,l⟩=>⟨_,l,rfl,p⟩,h⟩
theorem while_w {c:TT} {tb:TS} {D:Ends} {σ:St} {H:Hp} (Pv:St→Hp→Prop) (mu:St→Hp→Nat) (h0:Pv σ H)
  (hs:∀ m σ H,Pv σ H→m=mu σ H→c σ H fun b H1=>if b=true then WTurn Pv mu m tb D σ H1 else D.nx σ H1):tWhile c tb D σ H:=by
 refine ⟨fun m σ H=>m=mu σ H∧Pv σ H,⟨_,rfl,h0⟩,?_⟩
 rintro m σ H ⟨e,p⟩
 exact hs m σ H p e
theorem ifT {c A B:Prop} [Decidable c] (h:c) (k:A):if decide c=true then A else B:=by
 rw [if_pos (decide_eq_true h)]
 exact k
theorem ifF {c A B:Prop} [Decidable c] (h:¬ c) (k:B):if decide c=true then A else B:=by
 rw [if_neg (fun z=>h (of_decide_eq_true z))]
 exact k
end L2
namespace L2
open PySem PySem.Spec PyProof.Rows
theorem cellOf_some {env:Env} {x:Str} {c:Addr} (h:env.cells.lookup x=some c):cellOf env x=pure c:=by
 unfold cellOf
 rw [h]
theorem closure_go {env:Env}:∀ (names:List (Str×NameKind)) (cs:List (Str×Addr)),(∀ x,(x,NameKind.free)∈names→∃ c,env.cells.lookup x=some c)→
  (∀ x c,cs.lookup x=some c→env.cells.lookup x=some c)→
  ∃ cl:List (Str×Addr),(forIn names cs fun (y:Str×NameKind) (r:List (Str×Addr))=>if (y.2 == .free)=true then (do let c ← cellOf env y.1; pure (ForInStep.yield ((y.1,c)::r)):Sem _) else pure (ForInStep.yield r))=pure cl∧
   (∀ x c,cl.lookup x=some c→env.cells.lookup x=some c)∧(∀ x,((x,NameKind.free)∈names∨∃ c,cs.lookup x=some c)→∃ c,cl.lookup x=some c)
 | [],cs,_,h2=>⟨cs,rfl,h2,fun x hx=>hx.elim (fun z=>nomatch z) id⟩
 | (y,k)::names,cs,h1,h2=>by
  by_cases hk:k=.free
  ·subst hk
   obtain ⟨c,hc⟩:=h1 y (List.mem_cons_self ..)
   obtain ⟨cl,e,a,b⟩:=closure_go names ((y,c)::cs) (fun x hx=>h1 x (List.mem_cons_of_mem _ hx)) (fun x c' hx=>by
    rw [List.lookup_cons] at hx
    split at hx
    ·rename_i hb
     have hb':x=y:=by simpa using hb
     cases hx
     rw [hb']
     exact hc
    ·exact h2 x c' hx)
   refine ⟨cl,?_,a,fun x hx=>b x ?_⟩
   ·rw [List.forIn_cons]
    simp only [beq_self_eq_true,if_true,cellOf_some hc]
    exact e
   ·rcases hx with hx | ⟨c',hx⟩
    ·rcases List.mem_cons.mp hx with z | z
     ·cases z
      exact .inr ⟨c,by simp⟩
     ·exact .inl z
    ·by_cases hb:(x == y)=true
     ·exact .inr ⟨c,by rw [List.lookup_cons,hb]⟩
     ·exact .inr ⟨c',by rw [List.lookup_cons,Bool.not_eq_true _ |>.mp hb]; exact hx⟩
  ·obtain ⟨cl,e,a,b⟩:=closure_go names cs (fun x hx=>h1 x (List.mem_cons_of_mem _ hx)) h2
   have hb:(k == NameKind.free)=false:=by simpa using hk
   refine ⟨cl,?_,a,fun x hx=>b x ?_⟩
   ·rw [List.forIn_cons]
    simp only [hb,Bool.false_eq_true,if_false]
    exact e
   ·rcases hx with hx | hx
    ·rcases List.mem_cons.mp hx with z | z
     ·cases z
      exact absurd rfl hk
     ·exact .inl z
    ·exact .inr hx
theorem closure_of {scope:Scope} {env:Env} (h:∀ x,(x,NameKind.free)∈scope.names→∃ c,env.cells.lookup x=some c) :
  ∃ cl,closureFor scope env=pure cl∧(∀ x c,cl.lookup x=some c→env.cells.lookup x=some c)∧∀ x,(x,NameKind.free)∈scope.names→∃ c,cl.lookup x=some c:=by
 obtain ⟨cl,e,a,b⟩:=closure_go scope.names [] h (fun x c hx=>nomatch hx)
 refine ⟨cl,?_,a,fun x hx=>b x (.inl hx)⟩
 refine Eq.trans (b:=(forIn scope.names [] fun (y:Str×NameKind) (r:List (Str×Addr))=>if (y.2 == .free)=true then (do let c ← cellOf env y.1; pure (ForInStep.yield ((y.1,c)::r)):Sem _) else pure (ForInStep.yield r)) >>= fun r=>pure r) rfl ?_
 rw [e]
 rfl
section
variable {prog:Program} {w:World} {A:Around} {R:Result→Shared→Prop} {s:Shared}
theorem compLoop_anyX {elt target iter:Expr} {ifs:List Expr} {scope:Scope} {pos:Pos} {it acc:Value} {env:Env} (I:Nat→Shared→Prop)
  (turn:∀ n s,I n s→wpAny (model prog w) A (pyNext it) (fun r s1=>match r with
   | none=>R (.ok .next) s1
   | some v=>wpAny (model prog w) A (letOwnedTupleGo target it v) (fun _ s1'=>wpAny (model prog w) A (assign target env v) (fun _ s2=>
     wpAny (model prog w) A (forIn ifs true fun c r=>if r=true then do let ok ← isTrue c env (eval c env); pure (ForInStep.yield ok) else pure (ForInStep.yield r)) (fun ok s3=>
      if ok=true then wpAny (model prog w) A (eval elt env) (fun x s4=>
       wpAny (model prog w) A (call (.builtin "list.append") [acc,x]) (fun _ s5=>∃ m,m < n∧I m s5) (fun _ _=>False) s4) (notedBy (model prog w) A env fun x s'=>R (.error x) s') s3
      else ∃ m,m < n∧I m s3) (fun _ _=>False) s2) (fun _ _=>False) s1') (fun _ _=>False) s1) (fun _ _=>False) s)
  (n:Nat) (h:I n s):codeAny (model prog w) A (.compLoop (.ListComp elt [⟨target,iter,ifs,0⟩] scope pos) 0 it acc env) R s:=by
 refine codeAny_loop rfl I (fun n s hI=>?_) n h
 show wpAny _ A ((compTurn (.ListComp elt [⟨target,iter,ifs,0⟩] scope pos) 0 it acc env).onRaise (fun x=>do noteFrame x env; theTreesLotGoes x)) _ _ s
 refine wpAny_noted ?_
 rw [compTurn_list]
 refine wpAny_bind (wpAny_standAt (wpAny_bind (wpAny_mono (turn n s hI) (fun r s1 h1=>?_) fun _ _ h'=>h'.elim)))
 cases r with
 | none=>exact wpAny_pure h1
 | some v=>
  refine wpAny_bind (wpAny_mono h1 (fun _ s1' h1'=>?_) fun _ _ h'=>h'.elim)
  refine wpAny_bind (wpAny_mono h1' (fun _ s2 h2=>wpAny_bind (wpAny_mono h2 (fun ok s3 h3=>?_) fun _ _ h'=>h'.elim)) fun _ _ h'=>h'.elim)
  cases ok with
  | false=>exact wpAny_pure ⟨rfl,h3⟩
  | true=>
   exact wpAny_bind (wpAny_bind (wpAny_mono h3 (fun x s4 h4=>wpAny_bind (wpAny_mono h4 (fun _ s5 h5=>wpAny_pure (wpAny_pure ⟨rfl,h5⟩)) fun _ _ h'=>h'.elim)) fun _ _ h'=>h'))
end
def cxC (X:Cx) (s:Shared) (H:Hp) (scope:Scope) (cl:List (Str×Addr)) (C:Addr) (N:List Str) (fp:List Addr):Cx where
 prog:=X.prog
 w:=X.w
 K:=X.K
 mg:=X.mg
 base:=X.base
 A:=X.A
 N:=N
 s₀:=s
 H₀:=H
 env:=compEnvC scope cl C X.env
 outer:=X.stack
 stack:=X.stack
 ex:=fp
 fn:=fun x=>scope.names.lookup x == some NameKind.cell
 calm:=X.calm
 pn:=[]
 xe:=fun _ _=>False
def seen (σ:St) (src:List (Option Nat)):St:=src.map fun o=>match o with | some j=>(σ[j]?).join | none=>none
structure CompScope (X:Cx) (scope:Scope) (N:List Str) (src:List (Option Nat)):Prop where
 kind:scope.kind=.function
 cells:∀ y∈scope.names,y.2=.cell→scope.names.lookup y.1=some .cell
 own:∀ y∈scope.names,y.2=.local→scope.names.lookup y.1=some .local
 has:∀ x,(x,NameKind.free)∈scope.names→X.env.kindOf x=some .cell∨X.env.kindOf x=some .free
 len:src.length=N.length
 src:∀ (i j:Nat) (x:Str),src[i]?=some (some j)→N[i]?=some x→X.N[j]?=some x∧(x,NameKind.free)∈scope.names∧scope.names.lookup x=some .free
theorem lookup_relabel_free {env:Env}:∀ {names:List (Str×NameKind)} {x:Str},names.lookup x=some .free→
  (names.map fun (n,k)=>if (k == NameKind.free && env.scope.kind == .function && env.kindOf n == some .cell) then (n,NameKind.cell) else (n,k)).lookup x=some .cell∨
  (names.map fun (n,k)=>if (k == NameKind.free && env.scope.kind == .function && env.kindOf n == some .cell) then (n,NameKind.cell) else (n,k)).lookup x=some .free
 | [],_,h=>by simp at h
 | (n,k)::r,x,h=>by
  have ih:=@lookup_relabel_free env r x
  show List.lookup x ((if (k == NameKind.free && env.scope.kind == .function && env.kindOf n == some .cell)=true then (n,NameKind.cell) else (n,k))::_)=_∨List.lookup x ((if (k == NameKind.free && env.scope.kind == .function && env.kindOf n == some .cell)=true then (n,NameKind.cell) else (n,k))::_)=_
  cases hx:x == n with
  | true=>
   simp only [List.lookup_cons,hx] at h
   cases h
   by_cases hc:(NameKind.free == NameKind.free && env.scope.kind == .function && env.kindOf n == some .cell)=true
   ·rw [if_pos hc]; left; simp only [List.lookup_cons,hx]
   ·rw [if_neg hc]; right; simp only [List.lookup_cons,hx]
  | false=>
   simp only [List.lookup_cons,hx] at h
   by_cases hc:(k == NameKind.free && env.scope.kind == .function && env.kindOf n == some .cell)=true
   ·rw [if_pos hc]; simp only [List.lookup_cons,hx]; exact ih h
   ·rw [if_neg hc]; simp only [List.lookup_cons,hx]; exact ih h
theorem relabel_cell {env:Env}:∀ {names:List (Str×NameKind)} {x:Str},
  ((names.map fun (n,k)=>if (k == NameKind.free && env.scope.kind == .function && env.kindOf n == some .cell) then (n,NameKind.cell) else (n,k)).lookup x=some .cell∨
  (names.map fun (n,k)=>if (k == NameKind.free && env.scope.kind == .function && env.kindOf n == some .cell) then (n,NameKind.cell) else (n,k)).lookup x=some .free)→(x,NameKind.free)∈names∨(x,NameKind.cell)∈names
 | [],_,h=>by simp at h
 | (n,k)::r,x,h=>by
  have ih:=@relabel_cell env r x
  change List.lookup x ((if (k == NameKind.free && env.scope.kind == .function && env.kindOf n == some .cell)=true then (n,NameKind.cell) else (n,k))::_)=_∨List.lookup x ((if (k == NameKind.free && env.scope.kind == .function && env.kindOf n == some .cell)=true then (n,NameKind.cell) else (n,k))::_)=_ at h
  cases hx:x == n with
  | true=>
   have e:x=n:=by simpa using hx
   by_cases hc:(k == NameKind.free && env.scope.kind == .function && env.kindOf n == some .cell)=true
   ·have hk:k=.free:=by
     simp only [Bool.and_eq_true,beq_iff_eq] at hc
     exact hc.1.1
    rw [e,hk]; exact .inl (List.mem_cons_self ..)
   ·rw [if_neg hc] at h
    simp only [List.lookup_cons,hx,Option.some.injEq] at h
    rcases h with h | h
    ·rw [e,h]; exact .inr (List.mem_cons_self ..)
    ·rw [e,h]; exact .inl (List.mem_cons_self ..)
  | false=>
   by_cases hc:(k == NameKind.free && env.scope.kind == .function && env.kindOf n == some .cell)=true
   ·rw [if_pos hc] at h; simp only [List.lookup_cons,hx] at h; exact (ih h).imp (List.mem_cons_of_mem _) (List.mem_cons_of_mem _)
   ·rw [if_neg hc] at h; simp only [List.lookup_cons,hx] at h; exact (ih h).imp (List.mem_cons_of_mem _) (List.mem_cons_of_mem _)
def Weak (σ σ2:St):Prop:=σ2.length=σ.length∧∀ (i:Nat) (v:V),σ[i]?=some (some v)→σ2[i]?=some (some v)
theorem Weak.refl (σ:St):Weak σ σ:=⟨rfl,fun _ _ h=>h⟩
theorem Weak.set {σ:St} {i:Nat} {o:Option V} (h:∀ v,σ[i]?≠some (some v)):Weak σ (σ.set i o):=⟨by simp,fun j v e=>by
 have:i≠j:=fun z=>h v (z▸e)
 rw [List.getElem?_set_ne this]
 exact e⟩
theorem Weak.trans {a b c:St} (h:Weak a b) (h':Weak b c):Weak a c:=⟨h'.1.trans h.1,fun i v e=>h'.2 i v (h.2 i v e)⟩
def PIf (X:Cx) (ifs:List Expr) (t:TT):Prop:=∀ (pins:List (Addr×Obj)) (s:Shared) (σ:St) (H:Hp) (Q:Bool→Hp→Prop),Inv X pins σ H s→t σ H Q→
 wpAny (model X.prog X.w) X.A (forIn ifs true fun c r=>if r=true then do let ok ← isTrue c X.env (eval c X.env); pure (ForInStep.yield ok) else pure (ForInStep.yield r)) (TP X pins σ Q) X.xe s
def tYes:TT:=fun _ H Q=>Q true H
theorem pif_nil {X:Cx}:PIf X [] tYes:=fun _ _ _ H _ I h=>wpAny_tests_nil ⟨H,I,h⟩
theorem pif_one {X:Cx} {c:Expr} {t:TT} (h:PT X c t):PIf X [c] t:=fun pins s σ H Q I q=>wpAny_tests_one (h pins s σ H Q I q)
def tComp (src:List (Option Nat)) (wi:TI) (g:TG) (tc:TT) (te:TE):TE:=fun σ H Q=>wi σ H fun J H1=>∃ W:Nat→Nat→List V→Hp→Prop,(∃ m,W 0 m [] H1)∧∀ i m ys H2,W i m ys H2→
 (J.stop i H2∧ys.length≤sizeLine∧∀ p,H2 p=none→Q (.ref p) (upd H2 p (.lst ys)))∨
 (J.go i H2∧∀ x H3,J.yld i H2 x H3→g x (seen σ src) H3 fun σ2 H4=>Weak (seen σ src) σ2∧tc σ2 H4 fun b H5=>
  if b=true then te σ2 H5 fun y H6=>ys.length < sizeLine∧∃ m',m' < m∧W (i + 1) m' (ys++[y]) H6 else ∃ m',m' < m∧W (i + 1) m' ys H5)
theorem cellsFrom_app:∀ (names:List (Str×NameKind)) (n:Nat) (acc:List (Str×Addr)),cellsFrom n names acc=cellsFrom n names []++acc
 | [],_,acc=>rfl
 | (x,k)::r,n,acc=>by
  unfold cellsFrom
  split
  ·rw [cellsFrom_app r (n + 1) ((x,n)::acc),cellsFrom_app r (n + 1) [(x,n)],List.append_assoc]
   rfl
  ·exact cellsFrom_app r n acc
theorem cellsFrom_mem:∀ (names:List (Str×NameKind)) (n:Nat) (acc:List (Str×Addr)) (x:Str) (c:Addr),(x,c)∈cellsFrom n names acc→(x,c)∈acc∨(x,NameKind.cell)∈names
 | [],_,_,_,_,h=>.inl h
 | (y,k)::r,n,acc,x,c,h=>by
  unfold cellsFrom at h
  split at h
  ·rename_i hk
   have hk':k=.cell:=by simpa using hk
   rcases cellsFrom_mem r _ _ x c h with z | z
   ·rcases List.mem_cons.mp z with z | z
    ·cases z
     exact .inr (hk'▸List.mem_cons_self ..)
    ·exact .inl z
   ·exact .inr (List.mem_cons_of_mem _ z)
  ·rcases cellsFrom_mem r _ _ x c h with z | z
   ·exact .inl z
   ·exact .inr (List.mem_cons_of_mem _ z)
theorem new_around {M:Model} {A:Around} {E:Value→Shared→Prop} {s:Shared} {scope:Scope} {globals:Addr} {cl:List (Str×Addr)} {qual:Str} {env:Env} {Q:Env→Shared→Prop}
  (h:∀ h',h'.Ns s.heap.objs.size (fun _=>none)→(∀ b o,s.heap.get? b=some o→h'.get? b=some o)→CellsOk h' (s.heap.objs.size + 1) (cellsFrom (s.heap.objs.size + 1) scope.names [])→
   Q { scope,locals:=s.heap.objs.size,globals,cells:=cellsFrom (s.heap.objs.size + 1) scope.names []++cl,qual,func:=none,code:=env.code,frame:=env.frame,builtins:=env.builtins } { s with heap:=h' }) :
  wpAny M A (newFunctionEnv scope globals cl [] qual none .none (some env)) Q E s:=by
 simp only [newFunctionEnv,Option.isSome_some,if_true]
 refine wpAny_bind (wpAny_alloc ?_)
 refine wpAny_bind (wpAny_layCells _ (fun name kind cells=>by cases hkc:kind == NameKind.cell <;> simp [hkc]) _ _ _ _ ?_)
 have ok:=cellsFrom_ok scope.names (s.heap.push { cls:=.type "dict",data:=.dict #[] }) (s.heap.objs.size + 1) [] ⟨fun _ _ hm=>(nomatch hm),List.Pairwise.nil⟩ (by rw [Heap.size_push]; exact Nat.le_refl _)
 rw [Heap.size_push] at ok
 rw [show ({ s with heap:=s.heap.push { cls:=.type "dict",data:=.dict #[] } }:Shared).heap.objs.size=s.heap.objs.size + 1 from Heap.size_push ..,cellsFrom_app]
 rw [List.forIn_nil]
 exact wpAny_bind (wpAny_pure (wpAny_pure (h _ ((Heap.Ns.new s.heap (.type "dict")).keeps (pushCells_keeps _ _)) (fun b o e=>pushCells_keeps _ _ b o (Heap.get?_push_of_some _ e)) ok)))
theorem comp_coreX {X:Cx} {elt tg iter:Expr} {ifs:List Expr} {scope:Scope} {pos pos2:Pos} {N:List Str} {src:List (Option Nat)} {wi:TI} {g:TG} {tc:TT} {te:TE} {use:Option (Value→Sem Unit)} {Post:Value→Shared→Prop} {pins:List (Addr×Obj)} {s:Shared} {σ:St} {H:Hp} {Q:VK}
  (hc:X.calm=true) (S:CompScope X scope N src) (hi:PI X tg iter wi)
  (hg:∀ s H cl C fp,PG (cxC X s H scope cl C N fp) tg g) (hf:∀ s H cl C fp,PIf (cxC X s H scope cl C N fp) ifs tc) (xc:Cx→Value→Shared→Prop) (he:∀ s H cl C fp,(X.ex=[]→∀ b o,X.s₀.heap.get? b=some o→b∉fp∧∃ o',s.heap.get? b=some o')→PE ((cxC X s H scope cl C N fp).wish (xc (cxC X s H scope cl C N fp))) elt te)
  (hs:∀ x,foldedSetIterable iter X.env x=pure x) (I:Inv X pins σ H s) (h:tComp src wi g tc te σ H Q)
  (fin:∀ (C a:Addr) (H1:Hp) (s':Shared),(∀ h',Heap.SameBut C s'.heap h'→Inv X pins σ H1 { s' with heap:=h' })→FpOk X pins H1 C→(∃ m,s'.heap.Ns C m)→Q (.ref a) H1→compPost (model X.prog X.w) X.A X.xe use Post (.ref a) C (.ok .next) s')
  (bad:∀ (s2:Shared) (H2:Hp) (cl:List (Str×Addr)) (C:Addr) (fp:List Addr) (acc e:Value) (s':Shared),(∀ σ' H' s',Inv (cxC X s2 H2 scope cl C N fp) [] σ' H' s'→∀ h',Heap.SameBut C s'.heap h'→Inv X pins σ H' { s' with heap:=h' })→(X.ex=[]→∀ b o,X.s₀.heap.get? b=some o→b∉fp∧∃ o',s2.heap.get? b=some o')→xc (cxC X s2 H2 scope cl C N fp) e s'→
   notedBy (model X.prog X.w) X.A (compEnvC scope cl C X.env) (fun x s''=>compPost (model X.prog X.w) X.A X.xe use Post acc C (.error x) s'') e s') :
  wpAny (model X.prog X.w) X.A (comprehension (.ListComp elt [⟨tg,iter,ifs,0⟩] scope pos) scope X.env pos2 (newList []) false (eval iter X.env) use) Post X.xe s:=by
 obtain ⟨cl,hcl,cl1,cl2⟩:=closure_of (scope:=scope) (env:=X.env) (fun x hx=>I.ok.has x (S.has x hx))
 refine wpAny_comprehension_free (use:=use) rfl hs hcl S.kind S.own (thn (hi pins s σ H _ I h) fun v s1 h1=>thn h1 fun itv s2 h2=>?_)
 obtain ⟨it,fp,tn,J,H2,rfl,I2,T,st2,f2,W,⟨m0,w0⟩,turn⟩:=h2
 refine wpAny_newObj_type (new_around fun h3 hns hsb cok=>?_)
 dsimp only at hns hsb cok ⊢
 generalize hHd:s2.heap.push { cls:=.type "list",dict:=none,data:=.seq ([]:List Value).toArray }=Hd at hns hsb cok ⊢
 have hCs:Hd.objs.size=s2.heap.objs.size + 1:=by rw [← hHd,Heap.size_push]
 have hDC:s2.heap.objs.size≠Hd.objs.size:=by rw [hCs]; exact Nat.ne_of_lt (Nat.lt_succ_self _)
 have below:∀ b,b < s2.heap.objs.size→b≠Hd.objs.size∧b≠s2.heap.objs.size:=fun b hb=>⟨by rw [hCs]; exact Nat.ne_of_lt (Nat.lt_succ_of_lt hb),Nat.ne_of_lt hb⟩
 have old:∀ b o,s2.heap.get? b=some o→h3.get? b=some o:=fun b o e=>hsb b o (hHd▸Heap.get?_push_of_some _ e)
 have hacc:h3.get? s2.heap.objs.size=some { cls:=.type "list",dict:=none,data:=.seq ([]:List Value).toArray }:=hsb _ _ (hHd▸Heap.get?_push_size _ rfl)
 have fpObj:=T.obj 0 _ st2
 have fpLt:∀ b∈fp,b < s2.heap.objs.size:=fun b hb=>by
  obtain ⟨o,e,_⟩:=fpObj b hb
  exact Heap.lt_size e
 generalize hown:cellsFrom (Hd.objs.size + 1) scope.names []=own at cok ⊢
 have ownC:∀ x c,(x,c)∈own→scope.names.lookup x=some .cell:=fun x c hm=>by
  rw [← hown] at hm
  rcases cellsFrom_mem _ _ _ _ _ hm with z | z
  ·exact nomatch z
  ·exact S.cells _ z rfl
 have two:∀ x c,(own++cl).lookup x=some c→(cl.lookup x=some c∧c < s2.heap.objs.size)∨((x,c)∈own∧h3.IsCell c none∧Hd.objs.size < c):=fun x c e=>by
  rw [List.lookup_append] at e
  cases ho:own.lookup x with
  | none=>
   rw [ho,Option.none_or] at e
   obtain ⟨v,q⟩:=I2.cell x c (cl1 x c e)
   exact .inl ⟨e,q.lt⟩
  | some c'=>
   rw [ho,Option.some_or] at e
   cases e
   have hm:=mem_of_lookup ho
   exact .inr ⟨hm,(cok.empty x c hm).1,(cok.empty x c hm).2⟩
 have cellNe:∀ x c,(own++cl).lookup x=some c→c≠s2.heap.objs.size∧∀ b∈fp,c≠b:=fun x c e=>by
  rcases two x c e with ⟨e,lt⟩ | ⟨_,_,lt⟩
  ·exact ⟨Nat.ne_of_lt lt,fun b hb=>(f2 b hb).2.2.2.2.1 x c (cl1 x c e)⟩
  ·rw [hCs] at lt
   exact ⟨Nat.ne_of_gt (Nat.lt_trans (Nat.lt_succ_self _) lt),fun b hb=>Nat.ne_of_gt (Nat.lt_trans (fpLt b hb) (Nat.lt_trans (Nat.lt_succ_self _) lt))⟩
 have fresh:∀ a,s2.heap.objs.size≤a→s2.heap.get? a=none:=fun a ha=>by
  cases e:s2.heap.get? a with
  | none=>rfl
  | some o'=>exact absurd (Heap.lt_size e) (Nat.not_lt.mpr ha)
 have okY:(cxC X s2 H2 scope (own++cl) Hd.objs.size N fp).Ok:=by
  refine ⟨I2.ok.mod,S.kind,I2.ok.glob,I2.ok.blt,?_,?_,?_,?_,fun hcc=>I2.ok.hd hcc,I2.ok.frames,.inl rfl,fun b hb=>⟨(below b (fpLt b hb)).1,fun x c e=>(cellNe x c e).2 b hb⟩,
   I2.bs,Nat.le_trans I2.ok.bsz I2.sz,fun b o e hb=>?_,fun b hb z=>(List.mem_cons.mp (I2.stkSub b z)).elim (f2 b hb).2.1 (f2 b hb).2.2.1,I2.stack,I2.stkFree⟩
  ·show s2.heap.objs.size≤Hd.objs.size
   rw [hCs]; exact Nat.le_succ _
  ·intro x y c e1 e2
   rcases two x c e1 with ⟨e1,l1⟩ | ⟨m1,_,l1⟩ <;> rcases two y c e2 with ⟨e2,l2⟩ | ⟨m2,_,l2⟩
   ·exact I2.ok.inj x y c (cl1 x c e1) (cl1 y c e2)
   ·rw [hCs] at l2; exact absurd (Nat.lt_trans l1 (Nat.lt_trans (Nat.lt_succ_self _) l2)) (Nat.lt_irrefl _)
   ·rw [hCs] at l1; exact absurd (Nat.lt_trans l2 (Nat.lt_trans (Nat.lt_succ_self _) l1)) (Nat.lt_irrefl _)
   ·exact name_of_addr cok.apart m1 m2
  ·intro x hx
   show ∃ c,(own++cl).lookup x=some c
   rw [List.lookup_append]
   cases ho:own.lookup x with
   | some c=>exact ⟨c,rfl⟩
   | none=>
    rw [Option.none_or]
    rcases relabel_cell hx with z | z
    ·exact cl2 x z
    ·have:=PySem.W.cellsFrom_some scope.names (Hd.objs.size + 1) [] (.inl (S.cells _ z rfl))
     rw [hown,ho] at this
     cases this
  ·intro x c hf e
   have hf':scope.names.lookup x=some .cell:=by simpa [cxC] using hf
   have:=PySem.W.cellsFrom_some scope.names (Hd.objs.size + 1) [] (.inl hf')
   rw [hown] at this
   obtain ⟨c',ho⟩:=Option.isSome_iff_exists.mp this
   have e':(own++cl).lookup x=some c:=e
   rw [List.lookup_append,ho,Option.some_or] at e'
   cases e'
   have:=(cok.empty x c (mem_of_lookup ho)).2
   show s2.heap.objs.size≤c
   rw [hCs] at this
   omega
  ·rcases (f2 b hb).2.2.2.1 with z | z
   ·exact I2.ok.noex b o e z
   ·exact absurd (Nat.lt_of_lt_of_le (Heap.lt_size e) (Nat.le_trans I2.ok.bsz z)) (Nat.lt_irrefl _)
 have IY:Inv (cxC X s2 H2 scope (own++cl) Hd.objs.size N fp) [] (seen σ src) H2 { s2 with heap:=h3 }:=by
  refine ⟨okY,rfl,I2.bare,Un.kept old,⟨_,hns,fun i x v e1 e2 _=>?_⟩,fun x c e=>?_,I2.hok.fresh (by show s2.heap.objs.size≤Hd.objs.size; rw [hCs]; exact Nat.le_succ _),?_,fun p hp=>(nomatch hp),I2.hok.kept old,?_⟩
  ·unfold seen at e2
   rw [List.getElem?_map] at e2
   cases hsr:src[i]? with
   | none=>rw [hsr] at e2; cases e2
   | some oj=>
    rw [hsr] at e2
    cases oj with
    | none=>cases e2
    | some j=>
     obtain ⟨hN,hfr,hlk⟩:=S.src i j x hsr e1
     have e3:σ[j]?=some (some v):=by
      have:(σ[j]?).join=some v:=Option.some.inj e2
      cases hj:σ[j]? with
      | none=>rw [hj] at this; cases this
      | some o=>rw [hj] at this; cases this; rfl
     have hk:=S.has x hfr
     have vis:Vis X.env.scope x:=by
      rcases hk with z | z
      ·exact .inr (.inl z)
      ·exact .inr (.inr z)
     obtain ⟨m,hnm,hl⟩:=I2.loc
     obtain ⟨u,r,l⟩:=hl j x v hN e3 vis
     refine ⟨u,r,.inr ⟨lookup_relabel_free hlk,?_⟩⟩
     rcases l with ⟨l1,_⟩ | ⟨_,c,ec,ic⟩
     ·rcases hk with z | z <;> (rw [l1] at z; cases z)
     ·obtain ⟨c',ec'⟩:=cl2 x hfr
      have:=cl1 x c' ec'
      rw [ec] at this
      cases this
      obtain ⟨o,ho,hd⟩:=ic
      have hno:own.lookup x=none:=by
       cases ho:own.lookup x with
       | none=>rfl
       | some c2=>
        have:=ownC x c2 (mem_of_lookup ho)
        rw [hlk] at this
        cases this
      exact ⟨c,by show (own++cl).lookup x=some c; rw [List.lookup_append,hno,Option.none_or]; exact ec',o,old _ _ ho,hd⟩
  ·rcases two x c e with ⟨e,_⟩ | ⟨_,q,_⟩
   ·obtain ⟨v,o,ho,hd⟩:=I2.cell x c (cl1 x c e)
    exact ⟨v,o,old _ _ ho,hd⟩
   ·exact ⟨none,q⟩
  ·intro x c e
   rcases two x c e with ⟨e,_⟩ | ⟨_,_,lt⟩
   ·exact I2.freeC x c (cl1 x c e)
   ·exact I2.hok.fresh (by rw [hCs] at lt; omega)
  ·show (seen σ src).length=N.length
   unfold seen
   rw [List.length_map,S.len]
 have dFs:s2.heap.objs.size∉frs X.stack:=fun z=>by
  obtain ⟨_,o,ho,_⟩:=I2.stack.mem z
  exact absurd (Heap.lt_size ho) (Nat.lt_irrefl _)
 have cFs:Hd.objs.size∉frs X.stack:=fun z=>by
  obtain ⟨_,o,ho,_⟩:=I2.stack.mem z
  have z2:=Heap.lt_size ho
  rw [hCs] at z2
  exact absurd z2 (Nat.not_lt.mpr (Nat.le_succ _))
 have stat:∀ {H':Hp} {pn:List (Addr×Obj)},(∀ b∈fp,H' b=none)→(∀ p∈pn,p.1=s2.heap.objs.size)→∀ b∈fp,FpOk (cxC X s2 H2 scope (own++cl) Hd.objs.size N fp) pn H' b:=fun hn hp b hb=>
  ⟨hn b hb,(below b (fpLt b hb)).1,okY.exfs b hb,.inl hb,fun x c e=>(cellNe x c e).2 b hb,fun p q z=>(below b (fpLt b hb)).2 (z▸hp p q)⟩
 have neC:∀ b o,s2.heap.get? b=some o→b≠Hd.objs.size:=fun b o e=>(below b (Heap.lt_size e)).1
 have key:∀ σ' H' s',Inv (cxC X s2 H2 scope (own++cl) Hd.objs.size N fp) [] σ' H' s'→∀ h',Heap.SameBut Hd.objs.size s'.heap h'→Inv X pins σ H' { s' with heap:=h' }:=fun σ' H' s4 I6 h' hsb'=>by
  have kp:∀ b o,b≠Hd.objs.size→s4.heap.get? b=some o→h'.get? b=some o:=fun b o hb e=>(hsb'.2 b hb).trans e
  have un:Un (frs X.stack) fp H2 H' s2.heap h':=by
   have u0:Un (frs X.stack) fp H2 H' s2.heap s4.heap:=I6.base
   refine ⟨fun b o e n' hb hx=>kp b o (neC b o e) (u0.keep b o e n' hb hx),fun b o e n' hb hx=>?_,u0.free,fun b o e hx=>?_,u0.tups,u0.frzs,u0.tbls⟩
   ·obtain ⟨sl,e1⟩:=u0.slot b o e n' hb hx
    exact ⟨sl,kp b _ (neC b o e) e1⟩
   ·obtain ⟨o',e1⟩:=u0.there b o e hx
    exact ⟨o',kp b o' (neC b o e) e1⟩
  have nC:H' Hd.objs.size=none:=I6.free
  have hok:HOk X.prog X.w H' h':=fun a o e=>(I6.hok a o e).stay (fun b u hb q'=>kp b u (fun z=>by
   rcases hb with rfl | hb
   ·rw [z,nC] at e; cases e
   ·rw [z,nC] at hb; cases hb) q') (fun _ q'=>q') fun _ _ q'=>q'
  exact I2.call' (s':={ s4 with heap:=h' }) I6.os un hok I6.bare (fun b hb=>⟨(f2 b hb).2.2.2.1,(f2 b hb).2.1,(f2 b hb).2.2.2.2.1,(f2 b hb).2.2.2.2.2⟩)
 have olds:X.ex=[]→∀ b o,X.s₀.heap.get? b=some o→b∉fp∧∃ o',s2.heap.get? b=some o':=fun hex b o e=>by
  refine ⟨fun hb=>?_,I2.base.there b o e (by rw [hex]; simp)⟩
  rcases (f2 b hb).2.2.2.1 with z | z
  ·rw [hex] at z
   cases z
  ·exact absurd (Heap.lt_size e) (Nat.not_lt.mpr z)
 have loop:∀ sA:Shared,sA={ s2 with heap:=h3 }→
   codeAny (model X.prog X.w) X.A (.compLoop (.ListComp elt [⟨tg,iter,ifs,0⟩] scope pos) 0 (.ref it) (.ref s2.heap.objs.size) (compEnvC scope (own++cl) Hd.objs.size X.env))
    (compPost (model X.prog X.w) X.A X.xe use Post (.ref s2.heap.objs.size) Hd.objs.size) sA:=by
  rintro sA rfl
  refine compLoop_anyX (fun n s'=>∃ (i:Nat) (ys:List V) (its:List Value) (k:Nat) (σ3:St) (H3:Hp),Inv (cxC X s2 H2 scope (own++cl) Hd.objs.size N fp) [] σ3 H3 s'∧Weak (seen σ src) σ3∧tn i s'.heap∧(∀ b∈fp,H3 b=none)∧W i n ys H3∧
    s'.heap.get? s2.heap.objs.size=some { cls:=.type "list",data:=.seq its.toArray k }∧Vals ys its∧H3 s2.heap.objs.size=none) ?_ m0
   ⟨0,[],[],0,_,H2,IY,Weak.refl _,T.keep 0 _ _ st2 (fun b hb o e=>old b o e),fun b hb=>(f2 b hb).1,w0,hacc,.nil,I2.fresh⟩
  rintro n s3 ⟨i,ys,its,k,σ3,H3,I3,wk,st3,fr3,w3,hD,rv,nD⟩
  have I4:Inv (cxC X s2 H2 scope (own++cl) Hd.objs.size N fp) [] (seen σ src) H3 s3:=I3.weak wk.1.symm wk.2
  have I5:Inv (cxC X s2 H2 scope (own++cl) Hd.objs.size N fp) [(s2.heap.objs.size,{ cls:=.type "list",data:=.seq its.toArray k })] (seen σ src) H3 s3:=I4.pins_of fun p hp=>by
   cases List.mem_singleton.mp hp
   exact ⟨hD,nD,hDC,dFs,fun v z=>nomatch z⟩
  have one:∀ p∈[((s2.heap.objs.size,{ cls:=.type "list",data:=.seq its.toArray k }):Addr×Obj)],p.1=s2.heap.objs.size:=fun p hp=>by
   cases List.mem_singleton.mp hp
   rfl
  rcases turn i n ys H3 w3 with ⟨stop,hlen,q⟩ | ⟨go,step⟩
  ·refine thn (T.done (cxC X s2 H2 scope (own++cl) Hd.objs.size N fp) rfl rfl rfl hc i _ s3 _ H3 _ I5 (stat fr3 one) st3 stop) fun r s4 ⟨hr,I6⟩=>?_
   subst hr
   have hD4:=(I6.pin _ (List.mem_append_right _ (List.mem_singleton.mpr rfl))).1
   obtain ⟨m,hn4,_⟩:=I6.loc
   refine fin Hd.objs.size s2.heap.objs.size (upd H3 s2.heap.objs.size (.lst ys)) s4 (fun h' hsb'=>?_) (I2.fpOk (by rw [hCs]; exact Nat.le_succ _) (by rw [upd_ne (Ne.symm hDC)]; exact I6.free)) ⟨m,hn4⟩ (q _ nD)
   have kp:∀ b o,b≠Hd.objs.size→s4.heap.get? b=some o→h'.get? b=some o:=fun b o hb e=>(hsb'.2 b hb).trans e
   have I7:Inv X pins σ H3 { s4 with heap:=h' }:=key _ _ s4 I6.nopins h' hsb'
   have e0:X.s₀.heap.get? s2.heap.objs.size=none:=by
    cases e:X.s₀.heap.get? s2.heap.objs.size with
    | none=>rfl
    | some o=>exact absurd (Nat.lt_of_lt_of_le (Heap.lt_size e) I2.sz) (Nat.lt_irrefl _)
   have I8:Inv X pins σ (upd H3 s2.heap.objs.size (.lst ys)) { s4 with heap:=h' }:=I7.track nD e0 (fun z=>Nat.lt_irrefl _ (z▸I2.lt)) (fun x c e z=>by
    obtain ⟨v,q'⟩:=I2.cell x c e
    exact Nat.lt_irrefl _ (z▸q'.lt)) (fun p hp z=>Nat.lt_irrefl _ (z▸Heap.lt_size (I2.pin p hp).1)) ⟨hlen,its,k,rv,kp _ _ hDC hD4⟩
   exact I8
  ·refine thn (T.item (cxC X s2 H2 scope (own++cl) Hd.objs.size N fp) rfl rfl rfl hc i _ s3 _ H3 _ I5 (stat fr3 one) st3 go) fun r s4 ⟨u,hr,h4⟩=>?_
   subst hr
   refine thn h4 fun _ s5 ⟨x,H5,I6,r5,y5,st5,fr5⟩=>?_
   have I6':=I6.pinned (stat fr5 one) (T.obj _ _ st5)
   refine thn (hg _ _ _ _ _ _ s5 _ H5 x u _ I6' r5 (step x H5 y5)) fun _ s6 ⟨σ6,H6,I7,wk6,q6⟩=>?_
   refine thn (hf _ _ _ _ _ _ s6 σ6 H6 _ I7 q6) fun ok s7 ⟨H7,I8,q7⟩=>?_
   have back:∀ {σ':St} {H':Hp} {s':Shared},Inv (cxC X s2 H2 scope (own++cl) Hd.objs.size N fp) ([(s2.heap.objs.size,{ cls:=.type "list",data:=.seq its.toArray k })]++pinsAt fp s5.heap) σ' H' s'→
     tn (i + 1) s'.heap∧(∀ b∈fp,H' b=none)∧s'.heap.get? s2.heap.objs.size=some { cls:=.type "list",data:=.seq its.toArray k }∧H' s2.heap.objs.size=none:=fun {σ' H' s'} J=>by
    have jD:=J.pin (s2.heap.objs.size,{ cls:=.type "list",data:=.seq its.toArray k }) (by simp)
    refine ⟨T.keep _ _ _ st5 fun b hb o e=>(J.pin (b,o) (List.mem_append_right _ (List.mem_append_right _ (mem_pinsAt hb e)))).1,fun b hb=>?_,jD.1,jD.2.1⟩
    obtain ⟨o,e,d⟩:=T.obj _ _ st5 b hb
    exact (J.pin (b,o) (List.mem_append_right _ (List.mem_append_right _ (mem_pinsAt hb e)))).2.1
   cases ok with
   | false=>
    rw [if_neg Bool.false_ne_true] at q7
    rw [if_neg Bool.false_ne_true]
    obtain ⟨m',hm,w'⟩:=q7
    obtain ⟨b1,b2,b3,b4⟩:=back I8
    exact ⟨m',hm,i + 1,ys,its,k,σ6,H7,I8.nopins,wk6,b1,b2,w',b3,rv,b4⟩
   | true=>
    rw [if_pos rfl] at q7
    rw [if_pos rfl]
    refine wpAny_mono (he _ _ _ _ _ olds _ s7 σ6 H7 _ (I8.wish _) q7) (fun u2 s8 ⟨y,H8,I9',r9,hlt,m',hm,w'⟩=>?_) fun e s8 z=>bad _ _ _ _ _ _ e s8 key olds z
    have I9:=I9'.unwish
    obtain ⟨b1,b2,b3,b4⟩:=back I9
    have hl:=rv.length
    refine call_meets F.slot_list_append ⟨_,b3,rfl⟩ F.entry_list_append (F.args_list_append_2 _ _) (PySem.list_append s2.heap.objs.size its.toArray k u2 (by rw [List.size_toArray]; omega)) ⟨b3,?_⟩
    have qu:=PySem.IsL.update b3 (·.push u2)
    rw [show its.toArray.push u2=(its++[u2]).toArray by simp] at qu
    refine ⟨m',hm,i + 1,ys++[y],its++[u2],_,σ6,H8,?_,wk6,?_,b2,w',qu,rv.append (.cons r9 .nil),b4⟩
    ·exact I9.nopins.turned (it:=s2.heap.objs.size) (fun b o hb e=>(Heap.get?_update_other s8.heap (Obj.mapSeq _) (Ne.symm hb)).trans e) b4 hDC (.inr (Nat.le_refl _)) (fun x c e z=>(cellNe x c e).1 z) (fun p hp=>nomatch hp)
    ·exact T.keep _ _ _ b1 fun b hb o e=>(Heap.get?_update_other s8.heap (Obj.mapSeq _) ((below b (fpLt b hb)).2.symm)).trans e
 exact codeAny_compStart_list (loop _ rfl) (T.self _ 0 _ _ _ (T.keep 0 _ _ st2 (fun b hb o e=>old b o e)) (loop _ rfl))
theorem comp_core {X:Cx} {elt tg iter:Expr} {ifs:List Expr} {scope:Scope} {pos pos2:Pos} {N:List Str} {src:List (Option Nat)} {wi:TI} {g:TG} {tc:TT} {te:TE} {use:Option (Value→Sem Unit)} {Post:Value→Shared→Prop} {pins:List (Addr×Obj)} {s:Shared} {σ:St} {H:Hp} {Q:VK}
  (hc:X.calm=true) (S:CompScope X scope N src) (hi:PI X tg iter wi)
  (hg:∀ s H cl C fp,PG (cxC X s H scope cl C N fp) tg g) (hf:∀ s H cl C fp,PIf (cxC X s H scope cl C N fp) ifs tc) (he:∀ s H cl C fp,PE (cxC X s H scope cl C N fp) elt te)
  (hs:∀ x,foldedSetIterable iter X.env x=pure x) (I:Inv X pins σ H s) (h:tComp src wi g tc te σ H Q)
  (fin:∀ (C a:Addr) (H1:Hp) (s':Shared),(∀ h',Heap.SameBut C s'.heap h'→Inv X pins σ H1 { s' with heap:=h' })→FpOk X pins H1 C→(∃ m,s'.heap.Ns C m)→Q (.ref a) H1→compPost (model X.prog X.w) X.A X.xe use Post (.ref a) C (.ok .next) s') :
  wpAny (model X.prog X.w) X.A (comprehension (.ListComp elt [⟨tg,iter,ifs,0⟩] scope pos) scope X.env pos2 (newList []) false (eval iter X.env) use) Post X.xe s:=
 comp_coreX hc S hi hg hf (fun _ _ _=>False) (fun s H cl C fp _=>he s H cl C fp) hs I h fin fun _ _ _ _ _ _ _ _ _ _ z=>z.elim
theorem pe_comp {X:Cx} {elt tg iter:Expr} {ifs:List Expr} {scope:Scope} {pos:Pos} {N:List Str} {src:List (Option Nat)} {wi:TI} {g:TG} {tc:TT} {te:TE} (hc:X.calm=true) (S:CompScope X scope N src) (hi:PI X tg iter wi)
  (hg:∀ s H cl C fp,PG (cxC X s H scope cl C N fp) tg g) (hf:∀ s H cl C fp,PIf (cxC X s H scope cl C N fp) ifs tc) (he:∀ s H cl C fp,PE (cxC X s H scope cl C N fp) elt te)
  (hs:∀ x,foldedSetIterable iter X.env x=pure x:=by intro _; rfl):PE X (.ListComp elt [⟨tg,iter,ifs,0⟩] scope pos) (tComp src wi g tc te):=by
 intro pins s σ H Q I h
 rw [eval_ListComp]
 refine comp_core (use:=none) hc S hi hg hf he hs I h fun C a H1 s' key _ ⟨m,hn⟩ q=>⟨m,hn,fun h' sb=>⟨.ref a,H1,key h' sb,rfl,q⟩⟩
theorem ps_setComp {X:Cx} {elt tg iter:Expr} {ifs:List Expr} {scope:Scope} {pos spos pos':Pos} {x:Str} {i:Nat} {N:List Str} {src:List (Option Nat)} {wi:TI} {g:TG} {tc:TT} {te:TE} (hc:X.calm=true) (S:CompScope X scope N src) (hi:PI X tg iter wi)
  (hg:∀ s H cl C fp,PG (cxC X s H scope cl C N fp) tg g) (hf:∀ s H cl C fp,PIf (cxC X s H scope cl C N fp) ifs tc) (he:∀ s H cl C fp,PE (cxC X s H scope cl C N fp) elt te) (ht:PG X (.Name x pos') (gName i))
  (hsw:swapsWith (.ListComp elt [⟨tg,iter,ifs,0⟩] scope pos) (some (.Name x pos')) spos.line X.env=pure true:=by rfl)
  (hs:∀ x,foldedSetIterable iter X.env x=pure x:=by intro _; rfl):PS X (.Assign [.Name x pos'] (.ListComp elt [⟨tg,iter,ifs,0⟩] scope pos) spos) (tAsg (tComp src wi g tc te) (gName i)):=by
 intro pins s σ H D I h
 rw [exec_Assign_Name_used _ _ _ _ hsw]
 refine wpAny_bind (wpAny_standAt (wpAny_bind ?_))
 rw [arm_evalThenUse_ListComp]
 refine wpAny_bind ?_
 refine comp_core (use:=some (assign (.Name x pos') X.env)) hc S hi hg hf he hs I h fun C a H1 s' key fp ⟨m,o,es,ep,ho,hd,hk⟩ q=>?_
 have I1:Inv X pins σ H1 s':=key s'.heap (Heap.SameBut.refl _ _)
 have I2:=I1.pinned (fp:=[C]) (fun b hb=>by rw [List.mem_singleton.mp hb]; exact fp) (fun b hb=>by rw [List.mem_singleton.mp hb]; exact ⟨o,ho,fun v z=>by rw [hd] at z; cases z⟩)
 refine thn (ht _ s' σ H1 (.ref a) (.ref a) _ I2 rfl q) fun _ s5 ⟨σ5,H5,I5,q5⟩=>?_
 have pC:=I5.pin (C,o) (List.mem_append_right _ (List.mem_append_right _ (mem_pinsAt (List.mem_singleton.mpr rfl) ho)))
 obtain ⟨f0,f1,f2,f3,f4,f5⟩:=fp
 refine ⟨m,⟨o,es,ep,pC.1,hd,hk⟩,fun h' sb=>?_⟩
 exact wpAny_pure (wpAny_pure ⟨σ5,H5,I5.unpinned.turned (it:=C) (t':=s5.toks) (fun b o' hb e=>(sb.2 b hb).trans e) pC.2.1 f1 f3 f4 f5,q5⟩)
def compOkB (osc sc:Scope) (oN N:List Str) (src:List (Option Nat)):Bool:=
 sc.names.all (fun y=>decide (y.2≠.cell) || decide (sc.names.lookup y.1=some .cell)) && sc.names.all (fun y=>decide (y.2≠.local) || decide (sc.names.lookup y.1=some .local)) &&
 sc.names.all (fun y=>decide (y.2≠.free) || decide (osc.names.lookup y.1=some .cell) || decide (osc.names.lookup y.1=some .free)) && decide (src.length=N.length) &&
 (List.range src.length).all (fun i=>match src[i]?,N[i]? with | some (some j),some x=>decide (oN[j]?=some x) && decide ((x,NameKind.free)∈sc.names) && decide (sc.names.lookup x=some .free) | _,_=>true)
theorem comp_scope {X:Cx} {scope:Scope} {N:List Str} {src:List (Option Nat)} (osc:Scope) (oN:List Str) (e1:X.env.scope=osc) (e2:X.N=oN) (c:compOkB osc scope oN N src=true) (k:scope.kind=.function):CompScope X scope N src:=by
 unfold compOkB at c
 simp only [Bool.and_eq_true,List.all_eq_true,decide_eq_true_eq,Bool.or_eq_true] at c
 obtain ⟨⟨⟨⟨c1,c2⟩,c3⟩,c4⟩,c5⟩:=c
 refine ⟨k,fun y hy e=>(c1 y hy).resolve_left fun z=>z e,fun y hy e=>?_,fun x hx=>?_,c4,fun i j x h1 h2=>?_⟩
 ·rcases c2 y hy with z | z
  ·exact absurd e z
  ·exact z
 ·show X.env.scope.names.lookup x=_∨X.env.scope.names.lookup x=_
  rw [e1]
  rcases c3 (x,.free) hx with (z | z) | z
  ·exact absurd rfl z
  ·exact .inl z
  ·exact .inr z
 ·have hi:i < src.length:=(List.getElem?_eq_some_iff.mp h1).1
  have z:=c5 i (List.mem_range.mpr hi)
  rw [h1,h2] at z
  simp only [Bool.and_eq_true,decide_eq_true_eq] at z
  rw [e2]
  exact ⟨z.1.1,z.1.2,z.2⟩
theorem comp_scopeX {X:Cx} {scope:Scope} {N:List Str} {src:List (Option Nat)} (oN:List Str) (e2:X.N=oN) (c:compOkB X.env.scope scope oN N src=true) (k:scope.kind=.function):CompScope X scope N src:=comp_scope X.env.scope oN rfl e2 c k
end L2
namespace L2
open PySem PySem.Spec PyProof.Rows
mutual
def IsD (K:PySem.W.Frag) (H:Hp):PyData→V→Prop
 | .none,v=>v=.non
 | .bool b,v=>v=.bl b
 | .int i,v=>v=.int i
 | .str x,v=>v=.str x
 | .list ds,v=>∃ a xs,v=.ref a∧SqL K H a xs∧IsDs K H ds xs
 | .tuple ds,v=>∃ a xs,v=.ref a∧SqT K H a xs∧IsDs K H ds xs
 | .dict _,_=>False
def IsDs (K:PySem.W.Frag) (H:Hp):List PyData→List V→Prop
 | [],xs=>xs=[]
 | d::ds,xs=>∃ x r,xs=x::r∧IsD K H d x∧IsDs K H ds r
end
theorem isTup_reads {h:Heap} {a:Addr} {its:Array Value} (t:IsTup h a its):∃ o n,h.get? a=some o∧o.cls=.type "tuple"∧o.data=.seq its n:=by
 obtain ⟨o,ho,hc,n,hd⟩:=t
 exact ⟨o,n,ho,hc,hd⟩
section
variable {X:Cx} {pins:List (Addr×Obj)} {σ:St} {H:Hp} {s:Shared}
mutual
theorem IsD.reads (I:Inv X pins σ H s):∀ (d:PyData) {v:V} {u:Value},IsD X.K H d v→RelV v u→∃ as,Reads s.heap u d as
 | .none,v,u,h,r=>by
  simp only [IsD] at h; subst h
  cases (show u=.none from r); exact ⟨_,.none⟩
 | .bool b,v,u,h,r=>by
  simp only [IsD] at h; subst h
  cases (show u=.bool b from r); exact ⟨_,.bool b⟩
 | .int i,v,u,h,r=>by
  simp only [IsD] at h; subst h
  obtain ⟨t,rfl⟩:=r; exact ⟨_,.int i t⟩
 | .str x,v,u,h,r=>by
  simp only [IsD] at h; subst h
  obtain ⟨t,rfl⟩:=r; exact ⟨_,.str x t⟩
 | .list ds,v,u,h,r=>by
  simp only [IsD] at h
  obtain ⟨a,xs,rfl,hs,hd⟩:=h
  cases (show u=.ref a from r)
  obtain ⟨its,rv,p,_⟩:=I.list hs
  obtain ⟨o,ho,hc,n,hdd⟩:=p.isList
  obtain ⟨as,ra⟩:=IsDs.reads I ds hd rv
  exact ⟨_,.list ho hc hdd (by simpa using ra)⟩
 | .tuple ds,v,u,h,r=>by
  simp only [IsD] at h
  obtain ⟨a,xs,rfl,hs,hd⟩:=h
  cases (show u=.ref a from r)
  obtain ⟨its,rv,p,_⟩:=I.tuple hs
  obtain ⟨o,n,ho,hc,hdd⟩:=isTup_reads p
  obtain ⟨as,ra⟩:=IsDs.reads I ds hd rv
  exact ⟨_,.tuple ho hc hdd (by simpa using ra)⟩
 | .dict _,v,u,h,r=>by
  simp only [IsD] at h
theorem IsDs.reads (I:Inv X pins σ H s):∀ (ds:List PyData) {vs:List V} {us:List Value},IsDs X.K H ds vs→Vals vs us→∃ as,ReadsAll s.heap us ds as
 | [],vs,us,h,r=>by
  simp only [IsDs] at h; subst h
  cases r; exact ⟨_,.nil⟩
 | d::ds,vs,us,h,r=>by
  simp only [IsDs] at h
  obtain ⟨x,rr,rfl,hx,hr⟩:=h
  cases r with
  | cons r1 r2=>
   obtain ⟨as,ra⟩:=IsD.reads I d hx r1
   obtain ⟨bs,rb⟩:=IsDs.reads I ds hr r2
   exact ⟨_,.cons ra rb⟩
end
end
mutual
theorem IsD.imp {K:PySem.W.Frag} {H H':Hp} (sl:∀ a xs,SqL K H a xs→SqL K H' a xs) (st:∀ a xs,SqT K H a xs→SqT K H' a xs):∀ (d:PyData) {v:V},IsD K H d v→IsD K H' d v
 | .none,v,h=>by simp only [IsD] at h ⊢; exact h
 | .bool b,v,h=>by simp only [IsD] at h ⊢; exact h
 | .int i,v,h=>by simp only [IsD] at h ⊢; exact h
 | .str x,v,h=>by simp only [IsD] at h ⊢; exact h
 | .list ds,v,h=>by
  simp only [IsD] at h ⊢
  obtain ⟨a,xs,e,hs,hd⟩:=h
  exact ⟨a,xs,e,sl a xs hs,IsDs.imp sl st ds hd⟩
 | .tuple ds,v,h=>by
  simp only [IsD] at h ⊢
  obtain ⟨a,xs,e,hs,hd⟩:=h
  exact ⟨a,xs,e,st a xs hs,IsDs.imp sl st ds hd⟩
 | .dict _,v,h=>by simp only [IsD] at h
theorem IsDs.imp {K:PySem.W.Frag} {H H':Hp} (sl:∀ a xs,SqL K H a xs→SqL K H' a xs) (st:∀ a xs,SqT K H a xs→SqT K H' a xs):∀ (ds:List PyData) {vs:List V},IsDs K H ds vs→IsDs K H' ds vs
 | [],vs,h=>by simp only [IsDs] at h ⊢; exact h
 | d::ds,vs,h=>by
  simp only [IsDs] at h ⊢
  obtain ⟨x,r,e,hx,hr⟩:=h
  exact ⟨x,r,e,IsD.imp sl st d hx,IsDs.imp sl st ds hr⟩
end
def rEqD (K:PySem.W.Frag) (neg:Bool):R2:=fun x y H Q=>∃ da db,IsD K H da x∧IsD K H db y∧PySem.SeqAt.shaped da=true∧PySem.SeqAt.shaped db=true∧Q (.bl (if neg then !PyData.eqv da db else PyData.eqv da db)) H
theorem op_eqD {X:Cx} (hu:X.A.units + 64 < cLine):OpR X (compareOp .Eq) (rEqD X.K false):=by
 intro pins s σ H x y v u Q I rx ry h
 obtain ⟨da,db,ha,hb,sa,sb,q⟩:=h
 obtain ⟨as,ra⟩:=IsD.reads I da ha rx
 obtain ⟨bs,rb⟩:=IsD.reads I db hb ry
 exact PySem.SeqAt.compareEq_shaped ra rb sa sb hu ⟨.bl _,H,I,rfl,q⟩
theorem op_neD {X:Cx} (hu:X.A.units + 64 < cLine):OpR X (compareOp .NotEq) (rEqD X.K true):=by
 intro pins s σ H x y v u Q I rx ry h
 obtain ⟨da,db,ha,hb,sa,sb,q⟩:=h
 obtain ⟨as,ra⟩:=IsD.reads I da ha rx
 obtain ⟨bs,rb⟩:=IsD.reads I db hb ry
 exact PySem.SeqAt.compareNe_shaped ra rb sa sb hu ⟨.bl _,H,I,rfl,q⟩
theorem bools_of:∀ {bs:List Bool} {us:List Value},Vals (bs.map V.bl) us→LSm.BoolsAre us bs
 | [],_,.nil=>.nil
 | b::bs,_,.cons h t=>by
  cases (show _=Value.bool b from h)
  exact .cons b (bools_of t)
theorem call_any {X:Cx} (hc:X.calm=true):CallR X (.builtin "any") (fun xs H Q=>∃ (a:Addr) (bs:List Bool),xs=[.ref a]∧SqL X.K H a (bs.map V.bl)∧Q (.bl (bs.any id)) H):=by
 intro pins s σ H xs us Q I r h
 obtain ⟨a,bs,rfl,hS,q⟩:=h
 obtain ⟨u,rfl,ru⟩:=r.one
 cases (show u=Value.ref a from ru)
 obtain ⟨its,rv,p,_⟩:=I.list hS
 have hl:=p.isList
 have hb:=bools_of rv
 have hlt:a < s.heap.objs.size:=by obtain ⟨_,e,_⟩:=hl; exact Heap.lt_size e
 refine call_any_walk (wpAny_pyIter_list hl ?_)
 refine ⟨s.heap.objs.size,[s.heap.objs.size,a],[s.heap.objs.size],its.toArray.size,_,_,fun i=>(bs[i]?).getD false,rfl,Walks.list (A:=X.A.in1) (I.ok.hd hc) _ a (Nat.ne_of_lt hlt) its.toArray,
  ⟨⟨_,Heap.get?_push_size _ rfl,rfl,rfl⟩,hl.push _⟩,fun i v s' Q' E' hP hQ=>?_,fun h' tk hk=>?_⟩
 ·obtain ⟨b,e,rfl⟩:=hb.get i v (by simpa using hP)
  simp only [e,Option.getD_some] at hQ
  exact wpAny_truthy_bool hQ
 ·have e:((List.range its.toArray.size).any fun i=>(bs[i]?).getD false)=bs.any id:=by
   rw [List.size_toArray,hb.length]; exact LSm.range_any bs
  rw [e]
  exact ⟨.bl _,H,I.kept (LSm.kept_iter hk),rfl,q⟩
def Pm (P:Program) (w:World) (K:PySem.W.Frag) (mg:Str→Option Value) (base:Heap) (CX:CXT) (k:Nat) (x:Str) (ps:List Str) (sp:Sp):Prop:=
 ∃ (f:Addr) (fd:FuncData),mg x=some (.ref f)∧PySem.W.keepIn K (.ref f)=true∧Binds K fd ps []∧FnOk P w K mg base CX k f fd ps sp
theorem pe_callP {X:Cx} {CX:CXT} {k:Nat} {x:Str} {ps:List Str} {sp:Sp} {E:XK} {p pos:Pos} {e:Expr} {es:List Expr} {t:TA} (h:Pm X.prog X.w X.K X.mg X.base CX k x ps sp) (hr:Room k X.A) (hg:Gl X x) (hx:Passes CX X E) (ha:PA X (e::es) t)
  (hdb:(x == ("__debug__":Str))=false:=by decide) (he:starEach (e::es) X.env=(false,eval e X.env)::starEach es X.env:=by rfl) (hpl:(backTo pos (starEach es X.env)).any (·.1)=false:=by rfl) :
  PE X (.Call (.Name x p) (e::es) [] pos) (tCall sp [] E t):=by
 obtain ⟨f,fd,hm,hk,hb,F⟩:=h
 exact pe_call F hr hg hm hk hb .nil hx ha hdb he hpl
end L2
namespace L2
open PySem PySem.Spec PyProof.Rows
set_option autoImplicit true
set_option relaxedAutoImplicit true
structure QE (X:Cx) (e:Expr) (t:TE):Prop where
 h:PE X e t
structure QT (X:Cx) (e:Expr) (t:TT):Prop where
 h:PT X e t
structure QW (X:Cx) (e:Expr) (t:TT):Prop where
 h:PW X e t
structure QA (X:Cx) (e:List Expr) (t:TA):Prop where
 h:PA X e t
structure QS (X:Cx) (e:Stmt) (t:TS):Prop where
 h:PS X e t
structure QSs (X:Cx) (e:List Stmt) (t:TS):Prop where
 h:PSs X e t
structure QGs (X:Cx) (e:List Expr) (t:TGs):Prop where
 h:PGs X e t
structure QG (X:Cx) (e:Expr) (t:TG):Prop where
 h:PG X e t
structure QIf (X:Cx) (e:List Expr) (t:TT):Prop where
 h:PIf X e t
structure QO (X:Cx) (e:Option Expr) (t:TO):Prop where
 h:PO X e t
structure QI (X:Cx) (tg iter:Expr) (t:TI):Prop where
 h:PI X tg iter t
theorem QW.pt {X:Cx} {e:Expr} {t:TT} (k:QW X e t):QT X e t:=⟨k.h.pt⟩
theorem QE.nox {X:Cx} {e:Expr} {t:TE} (k:QE X.nox e t):QE X e t:=⟨k.h.nox⟩
theorem qe_int {i j pos}:QE X (.Constant (.int i) j pos) (tC (.int i)):=⟨pe_int ⟩
theorem qe_bl {b j pos}:QE X (.Constant (.bool b) j pos) (tC (.bl b)):=⟨pe_bl ⟩
theorem qe_non {j pos}:QE X (.Constant .none j pos) (tC .non):=⟨pe_non ⟩
theorem qe_str {x j pos}:QE X (.Constant (.str x) j pos) (tC (.str x)):=⟨pe_str ⟩
theorem qe_glob {x:Str} {v:V} {u:Value} {pos:Pos} (hg:Gl X x) (hm:X.mg x=some u) (r:RelV v u) (hd:(x == ("__debug__":Str))=false:=by decide):QE X (.Name x pos) (tC v):=⟨pe_glob (hg) (hm) (r) (hd)⟩
theorem qe_bltn {x:Str} {v:V} {u:Value} {pos:Pos} (hg:Gl X x) (hm:X.mg x=none) (hv:bootBuiltins x=some u) (r:RelV v u) (hn:x≠"__name__":=by decide) (hd:(x == ("__debug__":Str))=false:=by decide):QE X (.Name x pos) (tC v):=⟨pe_bltn (hg) (hm) (hv) (r) (hn) (hd)⟩
theorem qt_val {e:Expr} {t:TE} (h:QE X e t) (he:∀ whole,isTrue e X.env whole=(do let v ← whole; standAt e.pos; holding [v] (truthy v)):=by intro _; rfl):QT X e (tB t):=⟨pt_val h.h (he)⟩
theorem qw_and1 (ha:QT X a tA):QW X (.BoolOp .And [a] pos) tA:=⟨pw_and1 ha.h⟩
theorem qw_or1 (ha:QT X a tA):QW X (.BoolOp .Or [a] pos) tA:=⟨pw_or1 ha.h⟩
theorem qw_and (ha:QT X a tA) (hb:QW X (.BoolOp .And (b::restq) pos) tB'):QW X (.BoolOp .And (a::b::restq) pos) (tAnd tA tB'):=⟨pw_and ha.h hb.h⟩
theorem qw_or (ha:QT X a tA) (hb:QW X (.BoolOp .Or (b::restq) pos) tB'):QW X (.BoolOp .Or (a::b::restq) pos) (tOr tA tB'):=⟨pw_or ha.h hb.h⟩
theorem qt_not (ha:QT X a tA):QT X (.UnaryOp .Not a pos) (tNot tA):=⟨pt_not ha.h⟩
theorem qe_one {op} {t:TE} (h:QE X a t):QE X (.BoolOp op [a] pos) t:=⟨pe_one h.h⟩
theorem qe_and (ha:QE X a ta) (hb:QE X (.BoolOp .And (b::restq) pos) tb):QE X (.BoolOp .And (a::b::restq) pos) (tAndV ta tb):=⟨pe_and ha.h hb.h⟩
theorem qe_not (ha:QE X a ta):QE X (.UnaryOp .Not a pos) (tNotV ta):=⟨pe_not ha.h⟩
theorem qss_nil :QSs X [] tNext:=⟨pss_nil ⟩
theorem qss_cons (h1:QS X stq t) (h2:QSs X restq u):QSs X (stq::restq) (tSeq t u):=⟨pss_cons h1.h h2.h⟩
theorem qss_one (h1:QS X stq t):QSs X [stq] t:=⟨pss_one h1.h⟩
theorem qs_expr (he:QE X e te) (hs:swapsWith e none pos.line X.env=pure false:=by rfl):QS X (.Expr e pos) (tDrop te):=⟨ps_expr he.h (hs)⟩
theorem qs_ret (he:QE X e te):QS X (.Return (some e) pos) (tRet te):=⟨ps_ret he.h⟩
theorem qs_if {c:Expr} {a b:List Stmt} {tc:TT} (hc:QT X c tc) (ha:QSs X a t) (hb:QSs X b u):QS X (.If c a b pos) (tIfS tc t u):=⟨ps_if hc.h ha.h hb.h⟩
theorem qg_name {i:Nat} {x:Str} (hN:X.N.Nodup) (hiq:X.N[i]?=some x) (hx:Loc X.env.scope x) (hf:X.fn x=true∨X.env.scope.names.lookup x=some .local:=by first | exact .inl rfl | exact .inr rfl | assumption):QG X (.Name x pos) (gName i):=⟨pg_name (hN) (hiq) (hx) (hf)⟩
theorem qgs_nil :QGs X [] gNil:=⟨pgs_nil ⟩
theorem qgs_cons {e:Expr} {es:List Expr} {t:TG} {u:TGs} (h1:QG X e t) (h2:QGs X es u) (hs:(assignEach (e::es) X.env).map (·.2)=assign e X.env::(assignEach es X.env).map (·.2):=by rfl):QGs X (e::es) (gCons t u):=⟨pgs_cons h1.h h2.h (hs)⟩
theorem qg_tup {es:List Expr} {k:Nat} {t:TGs} {n:Nat} (hc:X.calm=true) (h:QGs X es t) (hn:(assignEach es X.env).length=n:=by rfl) (hst:(assignEach es X.env).findIdx? (·.1)=none:=by rfl):QG X (.Tuple es k pos) (gTup X.K n t):=⟨pg_tup (hc) h.h (hn) (hst)⟩
theorem qg_sub {o i:Expr} {to ti:TE} {t:TSet} (ho:QE X o to) (hiq:QE X i ti) (hs:PSet X t) (ha:∀ v,assign (.Subscript o i pos) X.env v=(do
   let ov ← holding [v] (eval o X.env)
   let iv ← holding [v,ov] (eval i X.env)
   standAt pos
   holding [v,ov,iv] (setItem ov iv v)
   release [v,ov,iv] []):=by intro _; rfl):QG X (.Subscript o i pos) (gSub to ti t):=⟨pg_sub ho.h hiq.h (hs) (ha)⟩
theorem qs_asg {tg e:Expr} {te:TE} {g:TG} (he:QE X e te) (hg:QG X tg g) (hs:swapsWithSole [tg] e pos.line X.env=pure false:=by rfl) (hw:swappedStores [tg] e X.env=pure none:=by rfl) (h1:(assignEach [tg] X.env).map (·.2)=[assign tg X.env]:=by rfl):QS X (.Assign [tg] e pos) (tAsg te g):=⟨ps_asg he.h hg.h (hs) (hw) (h1)⟩
theorem qs_set {i:Nat} {x:Str} {e:Expr} {te:TE} {pos':Pos} (hN:X.N.Nodup) (hiq:X.N[i]?=some x) (hx:Loc X.env.scope x) (he:QE X e te) (hs:swapsWith e (some (.Name x pos')) pos.line X.env=pure false:=by rfl) (hf:X.fn x=true∨X.env.scope.names.lookup x=some .local:=by first | exact .inl rfl | exact .inr rfl | assumption):QS X (.Assign [.Name x pos'] e pos) (tAsg te (gName i)):=⟨ps_set (hN) (hiq) (hx) he.h (hs) (hf)⟩
theorem qs_while {c:Expr} {body:List Stmt} {tc:TT} {tb:TS} (hp:PassesOwn (model X.prog X.w) X.A X.env X.xe) (hc:QT X c tc) (hb:QSs X body tb):QS X (.While c body [] pos) (tWhile tc tb):=⟨ps_while (hp) hc.h hb.h⟩
theorem qi_list {l:Expr} {tl:TE} (hl:QE X l tl):QI X tg l (iList X.K tl):=⟨pi_list hl.h⟩
theorem qi_tup {l:Expr} {tl:TE} (hl:QE X l tl):QI X tg l (iTup X.K tl):=⟨pi_tup hl.h⟩
theorem qi_range1 {a:Expr} {ta:TA} {p pos:Pos} (hg:Gl X "range") (hm:X.mg "range"=none) (ha:QA X [a] ta) (hs:starEach [a] X.env=[(false,eval a X.env)]:=by rfl):QI X tg (.Call (.Name "range" p) [a] [] pos) (iRng1 ta):=⟨pi_range1 (hg) (hm) ha.h (hs)⟩
theorem qs_for {iter:Expr} {body:List Stmt} {wi:TI} {g:TG} {tb:TS} {pos:Pos} (hp:PassesOwn (model X.prog X.w) X.A X.env X.xe) (hc:X.calm=true) (hiq:QI X tg iter wi) (hg:QG X tg g) (hb:QSs X body tb) (hs:∀ x,foldedSetIterable iter X.env x=pure x:=by intro _; rfl):QS X (.For tg iter body [] pos) (tFor wi g tb):=⟨ps_for (hp) (hc) hiq.h hg.h hb.h (hs)⟩
theorem qe_op {op:Operator} {r:R2} (ho:OpR X (binaryOp op) r) (ha:QE X a ta) (hb:QE X b tb):QE X (.BinOp a op b pos) (tOp r ta tb):=⟨pe_op (ho) ha.h hb.h⟩
theorem qe_cmpR {op:CmpOp} {r:R2} (ho:OpR X (compareOp op) r) (ha:QE X a ta) (hb:QE X b tb) (hm:behindInMarks op b=false):QE X (.Compare a [op] [b] pos) (tOp r ta tb):=⟨pe_cmpR (ho) ha.h hb.h (hm)⟩
theorem qt_cmpR {op:CmpOp} {r:R2} (ho:OpR X (compareOp op) r) (ha:QE X a ta) (hb:QE X b tb) (hm:behindInMarks op b=false):QT X (.Compare a [op] [b] pos) (tTest (tOp r ta tb)):=⟨pt_cmpR (ho) ha.h hb.h (hm)⟩
theorem qa_nil :QA X [] tNil:=⟨pa_nil ⟩
theorem qe_tup {x1} (h:QA X es t):QE X (.Tuple es x1 pos) (tTup t):=⟨pe_tup h.h⟩
theorem qe_lst (h:QA X es t):QE X (.List es pos) (tLst t):=⟨pe_lst h.h⟩
theorem qe_callB (hc:CallR X (.builtin idq) r) (hg:Gl X x) (hm:X.mg x=none) (hv:bootBuiltins x=some (.builtin idq)) (ha:QA X (e::es) t) (hn:x≠"__name__":=by decide) (hdb:(x == ("__debug__":Str))=false:=by decide) (he:starEach (e::es) X.env=(false,eval e X.env)::starEach es X.env:=by rfl) (hpl:(backTo pos (starEach es X.env)).any (·.1)=false:=by rfl):QE X (.Call (.Name x p) (e::es) [] pos) (tCB r t):=⟨pe_callB (hc) (hg) (hm) (hv) ha.h (hn) (hdb) (he) (hpl)⟩
theorem qe_callTy (hc:CallR X (.type T) r) (hg:Gl X x) (hm:X.mg x=none) (hv:bootBuiltins x=some (.type T)) (ha:QA X (e::es) t) (hn:x≠"__name__":=by decide) (hdb:(x == ("__debug__":Str))=false:=by decide) (he:starEach (e::es) X.env=(false,eval e X.env)::starEach es X.env:=by rfl) (hpl:(backTo pos (starEach es X.env)).any (·.1)=false:=by rfl):QE X (.Call (.Name x p) (e::es) [] pos) (tCB r t):=⟨pe_callTy (hc) (hg) (hm) (hv) ha.h (hn) (hdb) (he) (hpl)⟩
theorem qo_none :QO X none tNoPart:=⟨po_none ⟩
theorem qo_some (h:QE X e te):QO X (some e) (tPart te):=⟨po_some h.h⟩
theorem qe_slice {r:V→Option Int→Option Int→Hp→VK→Prop} (hr:SlR X r) (he:QE X e te) (hl:QO X loq tl) (hu:QO X hiq th):QE X (.Subscript e (.Slice loq hiq none p2) pos) (tSl r te tl th):=⟨pe_slice (hr) he.h hl.h hu.h⟩
theorem qe_ix {r:R2} (hr:IxR X r) (ha:QE X a ta) (hb:QE X b tb) (hs:PlainIx b):QE X (.Subscript a b pos) (tOp r ta tb):=⟨pe_ix (hr) ha.h hb.h (hs)⟩
theorem qe_bm0 (pa:PlainAttrs T) (slot:Slot T nameq idq) (hty:typeOf (.builtin idq)=pure (.type "method_descriptor")) (hm:MtR X idq r) (ho:QE X o to) (hbase:attributeBase o nameq X.env (eval o X.env)=eval o X.env:=by rfl) (hline:(apos.endLine == cpos.line)=true:=by rfl):QE X (.Call (.Attribute o nameq apos) [] [] cpos) (tBM0 X.K T r to):=⟨pe_bm0 (pa) (slot) (hty) (hm) ho.h (hbase) (hline)⟩
theorem qe_bm (pa:PlainAttrs T) (slot:Slot T nameq idq) (hty:typeOf (.builtin idq)=pure (.type "method_descriptor")) (hm:MtR X idq r) (ho:QE X o to) (ha:QA X (e::es) t) (hbase:attributeBase o nameq X.env (eval o X.env)=eval o X.env:=by rfl) (hfew:((backTo cpos (starEach (e::es) X.env)).all (fun x=>!x.1) && (backToKw cpos (keywordEach [] X.env)).all (fun x=>x.1.isSome)
   && decide ((e::es).length + ([]:List Keyword).length + (if ([]:List Keyword).isEmpty then 0 else 1) < 30))=true:=by rfl) (hline:(apos.endLine == cpos.line)=true:=by rfl) (hs:starEach (e::es) X.env=(false,eval e X.env)::starEach es X.env:=by rfl) (hplain:(backTo cpos (starEach es X.env)).any (·.1)=false:=by rfl):QE X (.Call (.Attribute o nameq apos) (e::es) [] cpos) (tBM X.K T r to t):=⟨pe_bm (pa) (slot) (hty) (hm) ho.h ha.h (hbase) (hfew) (hline) (hs) (hplain)⟩
theorem qv (i:Nat) {x:Str} {pos:Pos} (hN:X.N[i]?=some x:=by rfl) (hv:Vis X.env.scope x:=by first | exact Or.inl rfl | exact Or.inr (Or.inl rfl) | exact Or.inr (Or.inr rfl)) (hd:(x == ("__debug__":Str))=false:=by decide) (hcd:(x == ("__classdict__":Str))=false:=by decide):QE X (.Name x pos) (tVar i):=⟨pv (i) (hN) (hv) (hd) (hcd)⟩
theorem qif_nil {X:Cx}:QIf X [] tYes:=⟨pif_nil ⟩
theorem qif_one {X:Cx} {c:Expr} {t:TT} (h:QT X c t):QIf X [c] t:=⟨pif_one h.h⟩
theorem qe_callP {X:Cx} {CX:CXT} {k:Nat} {x:Str} {ps:List Str} {sp:Sp} {E:XK} {p pos:Pos} {e:Expr} {es:List Expr} {t:TA} (h:Pm X.prog X.w X.K X.mg X.base CX k x ps sp) (hr:Room k X.A) (hg:Gl X x) (hx:Passes CX X E) (ha:QA X (e::es) t) (hdb:(x == ("__debug__":Str))=false:=by decide) (he:starEach (e::es) X.env=(false,eval e X.env)::starEach es X.env:=by rfl) (hpl:(backTo pos (starEach es X.env)).any (·.1)=false:=by rfl):QE X (.Call (.Name x p) (e::es) [] pos) (tCall sp [] E t):=⟨pe_callP (h) (hr) (hg) (hx) ha.h (hdb) (he) (hpl)⟩
def notStar:Expr→Bool
 | .Starred ..=>false
 | _=>true
theorem starEach_cons {e:Expr} {es:List Expr} {env:Env} (h:notStar e=true):starEach (e::es) env=(false,eval e env)::starEach es env:=by
 cases e <;> first | rfl | cases h
theorem qac {X:Cx} {e:Expr} {es:List Expr} {te:TE} {t:TA} (ha:QE X e te) (hr:QA X es t) (hs:notStar e=true:=by rfl):QA X (e::es) (tCons te t):=⟨pa_cons ha.h hr.h (starEach_cons hs)⟩
theorem qe_comp {X:Cx} {elt tg iter:Expr} {ifs:List Expr} {scope:Scope} {pos:Pos} {N:List Str} {src:List (Option Nat)} {wi:TI} {g:TG} {tc:TT} {te:TE} (hc:X.calm=true) (S:CompScope X scope N src) (hi:QI X tg iter wi)
  (hg:∀ s H cl C fp,QG (cxC X s H scope cl C N fp) tg g) (hf:∀ s H cl C fp,QIf (cxC X s H scope cl C N fp) ifs tc) (he:∀ s H cl C fp,QE (cxC X s H scope cl C N fp) elt te)
  (hs:∀ x,foldedSetIterable iter X.env x=pure x:=by intro _; rfl):QE X (.ListComp elt [⟨tg,iter,ifs,0⟩] scope pos) (tComp src wi g tc te):=
 ⟨pe_comp hc S hi.h (fun s H cl C fp=>(hg s H cl C fp).h) (fun s H cl C fp=>(hf s H cl C fp).h) (fun s H cl C fp=>(he s H cl C fp).h) hs⟩
theorem qs_setComp {X:Cx} {elt tg iter:Expr} {ifs:List Expr} {scope:Scope} {pos spos pos':Pos} {x:Str} {i:Nat} {N:List Str} {src:List (Option Nat)} {wi:TI} {g:TG} {tc:TT} {te:TE} (hc:X.calm=true) (S:CompScope X scope N src) (hi:QI X tg iter wi)
  (hg:∀ s H cl C fp,QG (cxC X s H scope cl C N fp) tg g) (hf:∀ s H cl C fp,QIf (cxC X s H scope cl C N fp) ifs tc) (he:∀ s H cl C fp,QE (cxC X s H scope cl C N fp) elt te) (ht:QG X (.Name x pos') (gName i))
  (hsw:swapsWith (.ListComp elt [⟨tg,iter,ifs,0⟩] scope pos) (some (.Name x pos')) spos.line X.env=pure true:=by rfl)
  (hs:∀ x,foldedSetIterable iter X.env x=pure x:=by intro _; rfl):QS X (.Assign [.Name x pos'] (.ListComp elt [⟨tg,iter,ifs,0⟩] scope pos) spos) (tAsg (tComp src wi g tc te) (gName i)):=
 ⟨ps_setComp hc S hi.h (fun s H cl C fp=>(hg s H cl C fp).h) (fun s H cl C fp=>(hf s H cl C fp).h) (fun s H cl C fp=>(he s H cl C fp).h) ht.h hsw hs⟩
theorem qss_never {X:Cx} {sts:List Stmt}:QSs X sts tNever:=⟨pss_never⟩
section
variable {P:Program} {w:World} {K:PySem.W.Frag} {mg:Str→Option Value} {base:Heap} {x qual:Str} {st:Stmt} {f:Addr} {fd:FuncData} {N ps:List Str} {k:Nat} {sp:Sp}
theorem Fun.okQ (F:Fun K x qual st f fd) (S:FnScope N ps (defScope st)) (len:∀ vs H Q E,sp vs H Q E→vs.length=ps.length)
  (hbody:∀ (cdv:Value) (A:Around) (outer:List Env) (s:Shared) (H:Hp) (vs:List V) (Q:VK) (E:XK),Room k (A.deeper (envOfC qual (defScope st) s.heap.objs.size f cdv))→sp vs H Q E→
   ∃ t,QSs (cxOf CX0 P w K mg base N qual (defScope st) f cdv A outer s H E).nox (defBody st) t∧t { nx:=fun _ H'=>Q .non H',rt:=Q } (start N vs) H):FnOk P w K mg base CX0 (k + 1) f fd ps sp:=
 F.ok S len fun cdv A outer s H vs Q E hr h=>let ⟨t,a,b⟩:=hbody cdv A outer s H vs Q E hr h; ⟨t,a.h,b⟩
end
end L2
namespace L2
open PySem PySem.Spec PyProof.Rows
def Its (lo c:Int) (n:Nat):It:=⟨fun i _=>i < n,fun i H x H'=>H'=H∧x=.int (lo + (i:Nat) * c),fun i _=>n≤i⟩
theorem turn_rangeS {P:Program} {w:World} {K:PySem.W.Frag} {tg:Expr} (it:Addr) (lo c:Int) (n:Nat):Turn P w K tg (Its lo c n) [it] it (fun i h=>IsRangeIter h it (lo + (i:Nat) * c) ((n:Int) - (i:Nat)) c) where
 mem:=by simp
 obj:=fun i h st b hb=>by
  have e:b=it:=by simpa using hb
  subst e
  exact ⟨_,st,fun v z=>by
   have z':Data.fields _=Data.cell v:=z
   cases z'⟩
 keep:=fun i h h' st k=>k it (by simp) _ st
 item:=by
  intro X hP hw hK hc i pins s σ H E I hf st hg
  subst hP hw hK
  obtain ⟨f0,f1,f2,f3,f4,f5⟩:=hf it (by simp)
  have W:=Walks.range (prog:=X.prog) (w:=X.w) (I.ok.hd hc) it lo c n
  refine W.item i s _ _ hg st fun v h' tk hv st' kk=>?_
  obtain ⟨t,rfl⟩:=hv
  have I1:Inv X pins σ H { s with heap:=h',toks:=tk }:=I.turned (fun b o hb e=>kk b o (by simpa using hb) e) f0 f1 f3 f4 f5
  exact ⟨_,rfl,go_of (s:={ s with heap:=h',toks:=tk }) (n:="range_iterator") st' rfl rfl (by decide) ⟨.int (lo + (i:Nat) * c),H,I1,⟨t,rfl⟩,⟨rfl,rfl⟩,st',fun b hb=>(hf b hb).1⟩⟩
 done:=by
  intro X hP hw hK hc i pins s σ H E I hf st hg
  subst hP hw hK
  obtain ⟨f0,f1,f2,f3,f4,f5⟩:=hf it (by simp)
  exact wpAny_pyNext_range_end (I.ok.hd hc) st (by have:n≤i:=hg; omega) fun h' eb=>⟨rfl,I.turned (t':=s.toks) (fun b o hb e=>eb b o hb e) f0 f1 f3 f4 f5⟩
 self:=fun _ _ _ _ _ st h=>wpAny_pyIter_rangeiter st h
section
variable {X:Cx} {tg:Expr}
theorem range_itS {pins:List (Addr×Obj)} {σ:St} {H:Hp} {s:Shared} {R:It→Hp→Prop} {E:Value→Shared→Prop} {lo hi c:Int} {n:Nat} {t u v:Tok} {tk:Nat} (I:Inv X pins σ H s) (hsm:Builtin.Range.small lo hi c=true) (hn:Builtin.Range.rangeSize lo hi c=(n:Int))
  (q:R (Its lo c n) H):wpAny (model X.prog X.w) X.A (pyIter (.ref s.heap.objs.size)) (PIE X pins σ tg R) E { s with heap:=s.heap.push { cls:=.type "range",data:=.fields #[.int lo t,.int hi u,.int c v] },toks:=tk }:=by
 refine wpAny_pyIter_range (IsRange.new ..) hsm ?_
 have I1:Inv X pins σ H { s with heap:=s.heap.push { cls:=.type "range",data:=.fields #[.int lo t,.int hi u,.int c v] },toks:=tk }:=I.kept fun b o e=>Heap.get?_push_of_some _ e
 refine ⟨(s.heap.push { cls:=.type "range",data:=.fields #[.int lo t,.int hi u,.int c v] }).objs.size,[(s.heap.push { cls:=.type "range",data:=.fields #[.int lo t,.int hi u,.int c v] }).objs.size],_,_,H,rfl,
  I1.kept (t':=tk) fun b o e=>Heap.get?_push_of_some _ e,turn_rangeS _ lo c n,?_,fun b hb=>?_,q⟩
 ·have e1:lo + ((0:Nat):Int) * c=lo:=by simp
  have e2:((n:Nat):Int) - ((0:Nat):Int)=Builtin.Range.rangeSize lo hi c:=by rw [hn]; simp
  show IsRangeIter _ _ (lo + ((0:Nat):Int) * c) (((n:Nat):Int) - ((0:Nat):Int)) c
  rw [e1,e2]
  exact Heap.get?_push_size _ rfl
 ·have e:b=(s.heap.push { cls:=.type "range",data:=.fields #[.int lo t,.int hi u,.int c v] }).objs.size:=by simpa using hb
  subst e
  exact I1.fpOk (Nat.le_refl _) (I1.hok.fresh (Nat.le_refl _))
def iRng3 (ta:TA):TI:=fun σ H R=>ta σ H fun vs H1=>∃ (i j k:Int) (n:Nat),vs=[.int i,.int j,.int k]∧k≠0∧k.natAbs < 1073741824∧Builtin.Range.small i j k=true∧Builtin.Range.rangeSize i j k=(n:Int)∧R (Its i k n) H1
theorem pi_range3 {a b c:Expr} {ta:TA} {p pos:Pos} (hg:Gl X "range") (hm:X.mg "range"=none) (ha:PA X [a,b,c] ta) (hs:starEach [a,b,c] X.env=[(false,eval a X.env),(false,eval b X.env),(false,eval c X.env)]:=by rfl) (hs2:starEach [b,c] X.env=[(false,eval b X.env),(false,eval c X.env)]:=by rfl) :
  PI X tg (.Call (.Name "range" p) [a,b,c] [] pos) (iRng3 ta):=by
 intro pins s σ H R I h
 refine Call_ (ld_blt I hg hm boot_range (PyProof.Rows.callWith_type1 (thn (ha pos pins s σ H _ I h) fun us s1 ⟨vs,H1,I1,r1,q1⟩=>?_) (by rw [hs,hs2]) (by rw [hs2]; rfl)))
 obtain ⟨i,j,k,n,e,k0,kb,q1,q2,q⟩:=q1
 subst e
 cases r1 with
 | cons r rr=>
  cases rr with
  | cons r' rr=>
   cases rr with
   | cons r'' rr=>
    cases rr
    obtain ⟨t,rfl⟩:=r
    obtain ⟨t',rfl⟩:=r'
    obtain ⟨t'',rfl⟩:=r''
    exact call_range_3 k0 (range_itS I1 q1 q2 q) (.inl (PyProof.noPylong_small kb))
theorem qi_range3 {a b c:Expr} {ta:TA} {p pos:Pos} (hg:Gl X "range") (hm:X.mg "range"=none) (ha:QA X [a,b,c] ta) (hs:starEach [a,b,c] X.env=[(false,eval a X.env),(false,eval b X.env),(false,eval c X.env)]:=by rfl) (hs2:starEach [b,c] X.env=[(false,eval b X.env),(false,eval c X.env)]:=by rfl) :
  QI X tg (.Call (.Name "range" p) [a,b,c] [] pos) (iRng3 ta):=⟨pi_range3 hg hm ha.h hs hs2⟩
end
theorem comp_rng {lo:Int} {n:Nat} {g:TG} {tc:TT} {te:TE} {σ':St} {H:Hp} {G:Addr→Hp→List V→Prop} (Pv:Nat→List V→Hp→Prop) (h0:Pv 0 [] H)
  (hs:∀ i ys H (N:List V→Hp→Prop),i < n→Pv i ys H→(∀ ys' H',Pv (i + 1) ys' H'→N ys' H')→g (.int (lo + i)) σ' H fun σ2 H4=>Weak σ' σ2∧tc σ2 H4 fun b H5=>if b=true then te σ2 H5 fun y H6=>ys.length < sizeLine∧N (ys++[y]) H6 else N ys H5)
  (hd:∀ ys H,Pv n ys H→ys.length≤sizeLine∧∀ p,H p=none→G p H ys) :
  ∃ W:Nat→Nat→List V→Hp→Prop,(∃ m,W 0 m [] H)∧∀ i m ys H2,W i m ys H2→
   ((Itr lo n).stop i H2∧ys.length≤sizeLine∧∀ p,H2 p=none→G p H2 ys)∨
   ((Itr lo n).go i H2∧∀ x H3,(Itr lo n).yld i H2 x H3→g x σ' H3 fun σ2 H4=>Weak σ' σ2∧tc σ2 H4 fun b H5=>
    if b=true then te σ2 H5 fun y H6=>ys.length < sizeLine∧∃ m',m' < m∧W (i + 1) m' (ys++[y]) H6 else ∃ m',m' < m∧W (i + 1) m' ys H5):=by
 refine ⟨fun i m ys H=>m=n - i∧i≤n∧Pv i ys H,⟨n,rfl,Nat.zero_le _,h0⟩,?_⟩
 rintro i m ys H2 ⟨rfl,hi,p⟩
 by_cases hlt:i < n
 ·refine .inr ⟨hlt,fun x H' y=>?_⟩
  obtain ⟨e,rfl⟩:=y
  subst e
  exact hs i ys _ (fun ys' H''=>∃ m',m' < n - i∧m'=n - (i + 1)∧i + 1≤n∧Pv (i + 1) ys' H'') hlt p (fun ys' H'' p'=>⟨_,by omega,rfl,hlt,p'⟩)
 ·have e:i=n:=by omega
  subst e
  exact .inl ⟨Nat.le_refl _,hd ys H2 p⟩
end L2
namespace EM
theorem newton {n r:Nat} (hr:1≤r):n < ((r + n / r) / 2 + 1) * ((r + n / r) / 2 + 1):=by
 generalize hq:n / r=q
 have h1:n < r * (q + 1):=by
  have:=Nat.lt_mul_div_succ n (show 0 < r by omega)
  rw [hq] at this
  exact this
 generalize hm:(r + q) / 2=m
 have h2:r + q + 1≤2 * (m + 1):=by omega
 have h3:4 * (r * (q + 1))≤(r + q + 1) * (r + q + 1):=by
  rcases Nat.le_total r (q + 1) with h | h
  ·obtain ⟨d,hd⟩:=Nat.exists_eq_add_of_le h
   rw [show r + q + 1=r + (q + 1) by omega,hd]
   have:(r + (r + d)) * (r + (r + d))=4 * (r * (r + d)) + d * d:=by
    simp only [Nat.mul_add,Nat.add_mul]
    have:d * r=r * d:=Nat.mul_comm d r
    omega
   omega
  ·obtain ⟨d,hd⟩:=Nat.exists_eq_add_of_le h
   rw [show r + q + 1=r + (q + 1) by omega,hd]
   generalize q + 1=u
   have:(u + d + u) * (u + d + u)=4 * ((u + d) * u) + d * d:=by
    simp only [Nat.mul_add,Nat.add_mul]
    have:d * u=u * d:=Nat.mul_comm d u
    omega
   omega
 have h4:=Nat.mul_le_mul h2 h2
 have h5:2 * (m + 1) * (2 * (m + 1))=4 * ((m + 1) * (m + 1)):=Nat.mul_mul_mul_comm 2 (m + 1) 2 (m + 1)
 omega
theorem newton_less {n r:Nat} (h:n < r * r):(r + n / r) / 2 < r:=by
 have h1:n / r < r:=by
  rcases Nat.eq_zero_or_pos r with z | z
  ·subst z; simp at h
  ·exact (Nat.div_lt_iff_lt_mul z).mpr h
 omega
end EM
namespace EM
end EM
namespace E1
open PySem L2
inductive WholeIs (K:PySem.W.Frag) (H:Hp):V→Bool→Prop where
 | int (i:Int):WholeIs K H (.int i) true
 | bl (x:Bool):WholeIs K H (.bl x) false
 | odd {v:V} {T:String} (ty:TyOf K H v (.type T)) (k:PySem.W.kitOne K (.type T) (.type "int")=some false):WholeIs K H v false
section
variable (K:PySem.W.Frag)
theorem kit_int_int:PySem.W.kitOne K (.type "int") (.type "int")=some true:=by kernel_rfl
theorem kit_int_bool:PySem.W.kitOne K (.type "int") (.type "bool")=some false:=by kernel_rfl
theorem kit_bool_int:PySem.W.kitOne K (.type "bool") (.type "int")=some true:=by kernel_rfl
theorem kit_bool_bool:PySem.W.kitOne K (.type "bool") (.type "bool")=some true:=by kernel_rfl
end
theorem rel_ty {n:String} {K:PySem.W.Frag} {t:Value} {b:Bool} (h:PySem.W.kitOne K t (.type n)=some b):∀ u,RelV (.ty n) u→PySem.W.kitOne K t u=some b:=fun u r=>by
 cases (show u=Value.type n from r)
 exact h
def spWhole (K:PySem.W.Frag):Sp:=fun vs H Q _=>∃ v b,vs=[v]∧WholeIs K H v b∧Q (.bl b) H
theorem same_new {q:Addr} {H:Hp} {o:HO} (n:H q=none):Same H (upd H q o):=fun b u h=>by rw [upd_ne (ne_of_none h n)]; exact h
theorem abs_nn (i:Int):0≤(if i < 0 then -i else i):=by split <;> omega
theorem cut_ints {ns:List Int} {lo hi:Option Int}:∀ x∈cutV (ns.map V.int) lo hi,∃ z,x=V.int z:=fun x hx=>by
 unfold cutV at hx
 obtain ⟨z,_,e⟩:=List.mem_map.mp (List.mem_of_mem_drop (List.mem_of_mem_take hx))
 exact ⟨z,e.symm⟩
theorem same_upd {H H':Hp} {l:Addr} {o:HO} (s:Same H H') (hl:H l=none):Same H (upd H' l o):=fun b u e=>by
 rw [upd_ne (ne_of_none e hl)]
 exact s _ _ e
theorem kit_lst_lst (K:PySem.W.Frag):PySem.W.kitOne K (.type "list") (.type "list")=some true:=by kernel_rfl
theorem kit_tup_tup (K:PySem.W.Frag):PySem.W.kitOne K (.type "tuple") (.type "tuple")=some true:=by kernel_rfl
theorem fn_mk {K:PySem.W.Frag} {x:Str} {st:Stmt} {f:Addr} {oc:Value} {od an:Option Addr} {osl:Array (Option Value)} {kV doc pm cdv ct:Value}
  (a:PySem.W.nsIn K mainGlobals x=some (some (.ref f)))
  (l:K.lookup f=some ⟨oc,od,.func (PySem.W.fnOf x x (defArgs st) (defBody st) (defScope st) .none kV doc pm an cdv ct),osl⟩)
  (c:PySem.W.codeIn K cdv x=true) (k:PySem.W.keepIn K (.ref f)=true) :
  ∃ (f:Addr) (fd:FuncData),PySem.W.nsIn K mainGlobals x=some (some (.ref f))∧Fun K x x st f fd:=⟨f,_,a,fun_mk l c k⟩
def spLaw (K:PySem.W.Frag):Sp:=fun vs H Q _=>∃ (a:Addr) (ns:List Int),vs=[.ref a]∧SqL K H a (ns.map V.int)∧ns.length≤63∧∀ H',Q (.bl true) H'
theorem walk {l:PySem.W.OpenLaw} {q:Program} {loose:List Str} {XP:(Str→Option Value)→Heap→Prop} {YP:World→Heap→Prop} {d:DefRec} {K:Params→PySem.W.Frag} {k:Nat} (hr:Room k PySem.callerA) (hn:l.most=some 63) (hdf:d.params.defaults=[])
  (hY:∀ (w:World) (h:Heap),YP w h→(K w.params).In h)
  (F:∀ (w:World) (mg:Str→Option Value) (fa:Addr) (h:Heap),(K w.params).In h→h.Ns mainGlobals mg→mg d.name=some (.ref fa)→
   ∃ fd:FuncData,(∀ (s:Shared) (u:Value),BindsTo s fd ⟨[u],[]⟩ [("_law_script",u)])∧∀ base:Heap,(K w.params).In base→base.Ns mainGlobals mg→FnOk l.prog w (K w.params) mg base CX0 k fa fd ["_law_script"] (spLaw (K w.params))) :
  PySem.W.WalkO q loose XP YP l.row.toRowW d [] (fun f vs=>PySem.call f vs):=
 L2.walk_of (n:=63) (k:=k) (x:="_law_script") (CX:=fun _=>CX0) (sp:=fun w=>spLaw (K w.params)) hn (by decide) hdf hr hY F (fun _ _ a ns hl _ hS=>⟨a,ns,rfl,hS,hl,fun _=>rfl⟩) fun _ _ _ _ _ z=>z
abbrev At (K:PySem.W.Frag) (x:Str) (st:Stmt):Prop:=∃ (f:Addr) (fd:FuncData),PySem.W.nsIn K mainGlobals x=some (some (.ref f))∧Fun K x x st f fd
end E1
namespace L2
open PySem PySem.Spec PyProof.Rows
theorem ints_of_vals {ns:List Int} {us:List Value} (r:Vals (ns.map V.int) us):IntsAre us ns:=intsAre_of r
theorem vals_of_ints:∀ {ns:List Int} {us:List Value},IntsAre us ns→Vals (ns.map V.int) us
 | _,_,.nil=>.nil
 | _,_,.cons n tk t=>.cons ⟨tk,rfl⟩ (vals_of_ints t)
def rSortI (K:PySem.W.Frag):List V→Hp→VK→Prop:=fun xs H Q=>∃ (a:Addr) (ns:List Int),xs=[.ref a]∧SqL K H a (ns.map V.int)∧ns.length < 64∧∀ (l:Addr) (ns':List Int),H l=none→ns'.Perm ns→ns'.Pairwise (·≤·)→Q (.ref l) (upd H l (.lst (ns'.map V.int)))
theorem call_sortI {X:Cx}:CallR X (.builtin "sorted") (rSortI X.K):=by
 intro pins s σ H xs us Q I r h
 obtain ⟨a,ns,rfl,hq,h64,q⟩:=h
 obtain ⟨u,rfl,rx⟩:=vals1 r
 cases rx
 obtain ⟨its,r',pl,hz⟩:=I.list hq
 have hlen:=r'.length
 rw [List.length_map] at hlen
 refine sorted_ints pl.isList (ints_of_vals r') (by omega) fun out ns' a1 a2 a3=>?_
 obtain ⟨e,he⟩:=sortedAll_at s.heap its out
 have hl2:=a2.length_eq
 refine ⟨.ref (s.heap.objs.size + 1),_,I.laid (t':=s.toks) (o:=.lst (ns'.map V.int)) (fun b o=>sortedAll_old) (Nat.le_succ _) ?_,rfl,q _ _ (I.hok.fresh (Nat.le_succ _)) a2 a3⟩
 refine ⟨by rw [List.length_map,hl2]; exact Nat.le_trans (Nat.le_of_lt h64) (by decide),out.toList,e,vals_of_ints a1,?_⟩
 rw [Array.toArray_toList]
 exact he
theorem firstMet_nodup {ns:List Int} (h:ns.Nodup):∀ i,i≤ns.length→firstMet (fun i=>ns.getD i 0) i=ns.take i
 | 0,_=>by rw [firstMet_zero,List.take_zero]
 | i + 1,hi=>by
  have hlt:i < ns.length:=hi
  have ev:ns.getD i 0=ns[i]:=by simp [hlt]
  rw [firstMet_succ,firstMet_nodup h i (Nat.le_of_lt hlt)]
  show step_dedup (ns.take i) (ns.getD i 0)=_
  rw [ev]
  unfold step_dedup
  rw [if_neg]
  ·rw [List.take_add_one,List.getElem?_eq_getElem hlt]
   rfl
  ·intro z
   obtain ⟨x,hx,e⟩:=List.any_eq_true.mp z
   have e':x=ns[i]:=by simpa using e
   subst e'
   obtain ⟨j,hj,ej⟩:=List.mem_iff_getElem.mp hx
   rw [List.length_take] at hj
   rw [List.getElem_take] at ej
   have:=(List.getElem_inj h).mp ej
   omega
theorem firstMet_len_iff {ns:List Int}:(firstMet (fun i=>ns.getD i 0) ns.length).length=ns.length↔ns.Nodup:=by
 constructor
 ·intro h
  have key:∀ i,i≤ns.length→((firstMet (fun i=>ns.getD i 0) i).length=i→(ns.take i).Nodup∧firstMet (fun i=>ns.getD i 0) i=ns.take i):=by
   intro i
   induction i with
   | zero=>intro _ _; exact ⟨by simp,by rw [firstMet_zero,List.take_zero]⟩
   | succ i ih=>
    intro hi hl
    have hlt:i < ns.length:=hi
    have ev:ns.getD i 0=ns[i]:=by simp [hlt]
    rw [firstMet_succ] at hl ⊢
    have hle:=firstMet_length_le (fun i=>ns.getD i 0) i
    unfold step_dedup at hl ⊢
    by_cases z:(firstMet (fun i=>ns.getD i 0) i).any (· == (fun i=>ns.getD i 0) i)=true
    ·rw [if_pos z] at hl
     omega
    ·rw [if_neg z] at hl ⊢
     rw [List.length_append,List.length_singleton] at hl
     obtain ⟨h1,h2⟩:=ih (Nat.le_of_lt hlt) (by omega)
     have et:ns.take (i + 1)=ns.take i++[ns[i]]:=by rw [List.take_add_one,List.getElem?_eq_getElem hlt]; rfl
     rw [et]
     refine ⟨?_,by rw [h2]; show _++[ns.getD i 0]=_; rw [ev]⟩
     rw [List.nodup_append]
     refine ⟨h1,by simp,fun a ha b hb e=>z ?_⟩
     rw [List.mem_singleton.mp hb] at e
     rw [List.any_eq_true]
     exact ⟨a,h2▸ha,by show (a == ns.getD i 0)=true; rw [ev,e]; simp⟩
  have:=(key ns.length (Nat.le_refl _) h).1
  rwa [List.take_length] at this
 ·intro h
  rw [firstMet_nodup h _ (Nat.le_refl _),List.take_length]
def rSetI (K:PySem.W.Frag):List V→Hp→VK→Prop:=fun xs H Q=>∃ (a:Addr) (ns:List Int),xs=[.ref a]∧SqL K H a (ns.map V.int)∧ns.length≤1000∧∀ (l:Addr) (S:Int→Bool) (n:Nat),H l=none→(n=ns.length↔ns.Nodup)→Q (.ref l) (upd H l (.set S n))
theorem call_setI {X:Cx} (hc:X.calm=true):CallR X (.type "set") (rSetI X.K):=by
 intro pins s σ H xs us Q I r h
 obtain ⟨a,ns,rfl,hq,h64,q⟩:=h
 obtain ⟨u,rfl,rx⟩:=vals1 r
 cases rx
 obtain ⟨its,r',pl,hz⟩:=I.list hq
 have hlen:=r'.length
 rw [List.length_map] at hlen
 refine call_set_list (ns:=ns) (I.ok.hd hc) pl.isList (by simpa using ints_of_vals r') (by rw [List.size_toArray,← hlen]; exact Nat.lt_of_le_of_lt (Nat.succ_le_succ h64) (by decide)) fun h' tk hS kp=>?_
 refine ⟨.ref s.heap.objs.size,_,I.laid (t':=tk) (fun b o e=>kp b o (Heap.lt_size e) e) (Nat.le_refl _) (show ObjOk X.prog X.w _ h' _ (.set _ _) from hS),rfl,q _ _ _ (I.hok.fresh (Nat.le_refl _)) ?_⟩
 rw [List.size_toArray,← hlen]
 exact firstMet_len_iff
theorem call_len_setI {X:Cx}:CallR X (.builtin "len") (fun xs H Q=>∃ (p:Addr) (S:Int→Bool) (n:Nat),xs=[.ref p]∧H p=some (.set S n)∧Q (.int n) H):=by
 intro pins s σ H xs us Q I r h
 obtain ⟨p,S,n,rfl,hp,q⟩:=h
 obtain ⟨u,rfl,rx⟩:=vals1 r
 cases rx
 obtain ⟨o,es,ep,t,ho,hex,hd,_,_,hb,hf,rfl⟩:=(show s.heap.SetOf (intKind X.prog X.w) p S n from I.hok p _ hp)
 refine call_len_set ho hex hd hf ?_ ⟨.int es.size,H,I.tok _,⟨_,rfl⟩,q⟩
 have:es.size < 4096:=hb
 omega
def rMulL (K:PySem.W.Frag):R2:=fun x y H Q=>∃ (a:Addr) (xs:List V) (n:Int),x=.ref a∧y=.int n∧SqL K H a xs∧n < 2 ^ 63∧0≤n∧xs.length * n.toNat≤65536∧∀ l,H l=none→Q (.ref l) (upd H l (.lst (List.replicate n.toNat xs).flatten))
theorem vals_flat {xs:List V} {us:List Value} (r:Vals xs us):∀ n,Vals (List.replicate n xs).flatten (List.replicate n us).flatten
 | 0=>.nil
 | n + 1=>by
  rw [List.replicate_succ,List.replicate_succ,List.flatten_cons,List.flatten_cons]
  exact r.append (vals_flat r n)
theorem op_mulL {X:Cx}:OpR X (binaryOp .Mult) (rMulL X.K):=by
 intro pins s σ H x y v u Q I rx ry h
 obtain ⟨a,xs,n,rfl,rfl,hx,hn,h0,hsz,q⟩:=h
 cases rx
 obtain ⟨tk,rfl⟩:=ry
 obtain ⟨its,r,pl,hz⟩:=I.list hx
 have hlen:=r.length
 obtain ⟨⟨oc,od,odt,osl⟩,k,hl,e1,e2,e3⟩:=pl
 dsimp only at e1 e2 e3
 subst e1 e2 e3
 refine wpAny_binaryOp_repeat_ref (T:="list") (U:="int") (by decide) ⟨_,hl,rfl⟩ (fun s'=>typeIs_int s' n tk) noFill_list_mul F.fills_int_mul F.slot_int_rmul repeat_list F.slot_int_index.lookup
  (call_meets F.slot_int_rmul (typeIs_int s n tk) F.entry_int_rmul (F.args_int_rmul_2 _ _) (lm_int_rmul_list_any n tk a its.toArray k _ _)
   ⟨hl,rfl,⟨_,hl,rfl⟩,call_meets F.slot_list_mul ⟨_,hl,rfl⟩ F.entry_list_mul (F.args_list_mul_2 _ _)
    (lm_list_mul_any a its.toArray k _ _ n tk (by simp [Builtin.List.listFitsIndex]; omega) (by rw [List.size_toArray,← hlen]; omega) (by rw [List.size_toArray,← hlen]; simp [Builtin.List.listTooLong,sizeLine]; omega))
    ⟨hl,?_⟩⟩)
 rw [listMul_foldl_if,List.toList_toArray]
 refine ⟨.ref s.heap.objs.size,_,I.laid (t':=s.toks) (o:=.lst (List.replicate n.toNat xs).flatten) (fun b ob q=>Heap.get?_push_of_some _ q) (Nat.le_refl _) ?_,rfl,q _ (I.hok.fresh (Nat.le_refl _))⟩
 refine ⟨?_,(List.replicate n.toNat its).flatten,0,vals_flat r _,Heap.get?_push_size _ rfl⟩
 rw [List.length_flatten,List.map_replicate,List.sum_replicate_nat,Nat.mul_comm]
 exact Nat.le_trans hsz (by decide)
theorem Inv.turnedL {X:Cx} {pins:List (Addr×Obj)} {σ:St} {H:Hp} {s:Shared} {h':Heap} {t':Nat} {wr:List Addr} (I:Inv X pins σ H s) (k:∀ b o,b∉wr→s.heap.get? b=some o→h'.get? b=some o) (hf:∀ b∈wr,FpOk X pins H b):Inv X pins σ H { s with heap:=h',toks:=t' }:=by
 have nit:∀ b u,H b=some u→b∉wr:=fun b u e z=>by rw [(hf b z).1] at e; cases e
 refine I.step (g':=s.gens) (d':=s.drawn) (ch:=wr) (fun b hb=>?_) (fun b o _ _ hc e _=>k b o hc e) (fun b o _ _ hc e _=>⟨o.slots,k b o hc e⟩) (fun _ _ _ _ n=>n) (fun b o hc e=>⟨o,k b o hc e⟩) (fun _ _ e=>e) (fun _ _ _ e=>e) (fun b ps e=>⟨#[],by rw [e]; simp⟩) (fun m hm=>?_) (fun b u e=>?_) I.bare
 ·obtain ⟨_,f1,_,f3,f4,f5⟩:=hf b hb
  exact ⟨f3,f1,f4,f5⟩
 ·obtain ⟨o,es,ep,ho,r⟩:=hm
  exact ⟨o,es,ep,k _ o (fun z=>(hf _ z).2.1 rfl) ho,r⟩
 ·refine (I.hok b u e).stay (fun c v hc q=>k c v ?_ q) (fun _ q=>q) fun _ _ q=>q
  rcases hc with z | z
  ·exact z▸nit b u e
  ·exact nit c _ z
def Ite (K:PySem.W.Frag) (a:Addr):It:=
 ⟨fun i H=>∃ xs x,SqL K H a xs∧xs[i]?=some x,fun i H v H'=>∃ T x,(∀ xs,SqL K H a xs→xs[i]?=some x)∧H T=none∧v=.ref T∧H'=upd H T (.tup [.int (i:Nat),x]),fun i H=>∃ xs,SqL K H a xs∧xs.length≤i⟩
theorem Inv.tracked {X:Cx} {pins:List (Addr×Obj)} {σ:St} {H:Hp} {s s':Shared} {T:Addr} {o:HO} (I0:Inv X pins σ H s) (I:Inv X pins σ H s') (hT:s.heap.objs.size≤T) (new:ObjOk X.prog X.w (upd H T o) s'.heap T o):Inv X pins σ (upd H T o) s':=by
 obtain ⟨f0,f1,f2,f3,f4,f5⟩:=I0.fpOk (H':=H) hT (I0.hok.fresh hT)
 refine I.track f0 ?_ f1 f4 f5 new
 cases e:X.s₀.heap.get? T with
 | none=>rfl
 | some ob=>exact absurd (Nat.lt_of_lt_of_le (Heap.lt_size e) (Nat.le_trans I0.sz hT)) (Nat.lt_irrefl _)
theorem turn_enum {P:Program} {w:World} {K:PySem.W.Frag} {elts:List Expr} {k:Nat} {tp:Pos} (l e it:Addr) (hei:e≠it):Turn P w K (.Tuple elts k tp) (Ite K l) [e,it] e (fun i h=>(∃ old,IsEnum h e it ((i:Nat):Int) old)∧h.IsListIter it l i) where
 mem:=by simp
 obj:=fun i h st b hb=>by
  obtain ⟨⟨old,he⟩,o,ho,hc,hd⟩:=st
  simp only [List.mem_cons,List.not_mem_nil,or_false] at hb
  rcases hb with rfl | rfl
  ·exact ⟨_,he,fun v z=>by cases z⟩
  ·exact ⟨o,ho,fun v z=>by rw [hd] at z; cases z⟩
 keep:=fun i h h' st kp=>⟨⟨_,kp e (by simp) _ st.1.choose_spec⟩,st.2.at fun o q=>kp it (by simp) o q⟩
 item:=by
  intro X hP hw hK hc i pins s σ H E I hf st hg
  subst hP hw hK
  obtain ⟨xs,x,hq,hx⟩:=hg
  obtain ⟨its,rv,p,hz⟩:=I.list hq
  obtain ⟨u,hu,ru⟩:=rv.get hx
  obtain ⟨⟨old,he⟩,hit⟩:=st
  have hlt:∀ b∈[e,it],b≠s.heap.objs.size:=fun b hb z=>by
   simp only [List.mem_cons,List.not_mem_nil,or_false] at hb
   rcases hb with rfl | rfl
   ·exact absurd (z▸Heap.lt_size he) (Nat.lt_irrefl _)
   ·obtain ⟨_,ho,_⟩:=hit
    exact absurd (z▸Heap.lt_size ho) (Nat.lt_irrefl _)
  have fr:H s.heap.objs.size=none:=I.hok.fresh (Nat.le_refl _)
  refine wpAny_pyNext_enum_item he hit p.isList (x:=u) (by simpa using hu) hei fun h' ho hit' hT hsz hk=>?_
  have I1:Inv X pins σ H { s with heap:=h',toks:=s.toks + 1 }:=I.turnedL (wr:=[e,it]) (fun b o hb q=>hk b o (fun z=>hb (by simp [z])) (fun z=>hb (by simp [z])) q) hf
  have I2:Inv X pins σ (upd H s.heap.objs.size (.tup [.int (i:Nat),x])) { s with heap:=h',toks:=s.toks + 1 }:=I.tracked I1 (Nat.le_refl _) ⟨by show 2≤sizeLine; decide,[.int i s.toks,u],.cons ⟨_,rfl⟩ (.cons ru .nil),⟨_,hT,rfl,_,rfl⟩⟩
  have hf2:∀ b∈[e,it],FpOk X pins (upd H s.heap.objs.size (.tup [.int (i:Nat),x])) b:=fun b hb=>by
   obtain ⟨f0,f1,f2,f3,f4,f5⟩:=hf b hb
   exact ⟨by rw [upd_ne (hlt b hb)]; exact f0,f1,f2,f3,f4,f5⟩
  refine ⟨_,rfl,wpAny_letOwnedTupleGo_enum ho fun h'' he' hs'=>?_⟩
  refine ⟨.ref s.heap.objs.size,_,I2.turnedL (wr:=[e]) (t':=s.toks + 1) (fun b o hb q=>(hs'.2 b (fun z=>hb (by simp [z]))).trans q) (fun b hb=>hf2 b (by rw [List.mem_singleton.mp hb]; simp)),rfl,⟨_,x,fun ys hy=>by rw [I.list_inj hy hq]; exact hx,fr,rfl,rfl⟩,⟨⟨_,by simpa using he'⟩,hit'.at fun o q=>(hs'.2 it hei.symm).trans q⟩,fun b hb=>(hf2 b hb).1⟩
 done:=by
  intro X hP hw hK hc i pins s σ H E I hf st hg
  subst hP hw hK
  obtain ⟨xs,hq,hx⟩:=hg
  obtain ⟨its,rv,p,hz⟩:=I.list hq
  have hl:=rv.length
  obtain ⟨⟨old,he⟩,hit⟩:=st
  exact wpAny_pyNext_enum_end (I.ok.hd hc) he hit p.isList (by simp; omega) fun h' eb=>⟨rfl,I.turnedL (wr:=[it]) (t':=s.toks) (fun b o hb q=>eb b o (fun z=>hb (by simp [z])) q) (fun b hb=>hf b (by rw [List.mem_singleton.mp hb]; simp))⟩
 self:=fun _ _ _ _ _ st h=>wpAny_pyIter_enum st.1.choose_spec h
section
variable {X:Cx} {elts:List Expr} {k:Nat} {tp:Pos}
def iEnum (K:PySem.W.Frag) (ta:TA):TI:=fun σ H R=>ta σ H fun vs H1=>∃ a,vs=[.ref a]∧(∃ xs,SqL K H1 a xs)∧R (Ite K a) H1
theorem pi_enum {a:Expr} {ta:TA} {p pos:Pos} (hg:Gl X "enumerate") (hm:X.mg "enumerate"=none) (ha:PA X [a] ta) (hs:starEach [a] X.env=[(false,eval a X.env)]:=by rfl):PI X (.Tuple elts k tp) (.Call (.Name "enumerate" p) [a] [] pos) (iEnum X.K ta):=by
 intro pins s σ H R I h
 refine Call_ (ld_blt I hg hm (show bootBuiltins "enumerate"=some (.type "enumerate") by decide +kernel) (PyProof.Rows.callWith_type1 (thn (ha pos pins s σ H _ I h) fun us s1 ⟨vs,H1,I1,r1,q1⟩=>?_) (by rw [hs]; rfl) (by rfl)))
 obtain ⟨a,e,⟨xs,hq⟩,q⟩:=q1
 subst e
 obtain ⟨u,rfl,rx⟩:=vals1 r1
 cases rx
 obtain ⟨its,rv,pl,hz⟩:=I1.list hq
 refine call_enumerate_list pl.isList fun h' he hit hsz kp=>?_
 have I2:Inv X pins σ H1 { s1 with heap:=h' }:=I1.kept (t':=s1.toks) kp
 refine wpAny_pyIter_enum he ?_
 refine ⟨s1.heap.objs.size + 1,[s1.heap.objs.size + 1,s1.heap.objs.size],_,_,H1,rfl,I2,turn_enum a _ _ (Nat.succ_ne_self _),⟨⟨_,he⟩,hit⟩,fun b hb=>?_,q⟩
 simp only [List.mem_cons,List.not_mem_nil,or_false] at hb
 rcases hb with rfl | rfl
 ·exact I1.fpOk (Nat.le_succ _) (I1.hok.fresh (Nat.le_succ _))
 ·exact I1.fpOk (Nat.le_refl _) (I1.hok.fresh (Nat.le_refl _))
theorem qi_enum {a:Expr} {ta:TA} {p pos:Pos} (hg:Gl X "enumerate") (hm:X.mg "enumerate"=none) (ha:QA X [a] ta) (hs:starEach [a] X.env=[(false,eval a X.env)]:=by rfl):QI X (.Tuple elts k tp) (.Call (.Name "enumerate" p) [a] [] pos) (iEnum X.K ta):=⟨pi_enum hg hm ha.h hs⟩
end
theorem for_enum {K:PySem.W.Frag} {a:Addr} {xs:List V} {g:TG} {tb:TS} {D:Ends} {σ:St} {H:Hp} (Pv:Nat→St→Hp→Prop) (h0:Pv 0 σ H) (hl:∀ i σ H,i≤xs.length→Pv i σ H→SqL K H a xs)
  (hs:∀ i x T σ H,xs[i]?=some x→Pv i σ H→H T=none→g (.ref T) σ (upd H T (.tup [.int (i:Nat),x])) fun σ2 H2=>tb { D with nx:=Pv (i + 1),ct:=Pv (i + 1),bk:=D.nx } σ2 H2) (hd:∀ σ H,Pv xs.length σ H→D.nx σ H) :
  ∃ W:Nat→Nat→St→Hp→Prop,(∃ m,W 0 m σ H)∧∀ i m σ H,W i m σ H→
   ((Ite K a).stop i H∧D.nx σ H)∨((Ite K a).go i H∧∃ N:St→Hp→Prop,(∀ σ' H',N σ' H'→∃ m',m' < m∧W (i + 1) m' σ' H')∧∀ x H',(Ite K a).yld i H x H'→g x σ H' fun σ2 H2=>tb { D with nx:=N,ct:=N,bk:=D.nx } σ2 H2):=by
 refine ⟨fun i m σ H=>m=xs.length - i∧i≤xs.length∧Pv i σ H,⟨xs.length,by simp,Nat.zero_le _,h0⟩,?_⟩
 rintro i m σ H ⟨rfl,hi,p⟩
 have q:=hl i σ H hi p
 by_cases hlt:i < xs.length
 ·refine .inr ⟨⟨xs,xs[i],q,by simp [hlt]⟩,Pv (i + 1),fun σ' H' p'=>⟨xs.length - (i + 1),by omega,rfl,hlt,p'⟩,fun v H' y=>?_⟩
  obtain ⟨T,x,hx,hT,rfl,rfl⟩:=y
  exact hs i x T σ _ (hx xs q) p hT
 ·have e:i=xs.length:=by omega
  subst e
  exact .inl ⟨⟨xs,q,Nat.le_refl _⟩,hd σ H p⟩
theorem call_rng1 {X:Cx}:CallR X (.type "range") (fun xs H Q=>∃ n:Int,xs=[.int n]∧∀ r,H r=none→Q (.ref r) (upd H r (.rng 0 n))):=by
 intro pins s σ H xs us Q I r h
 obtain ⟨n,rfl,q⟩:=h
 obtain ⟨u,rfl,rx⟩:=vals1 r
 obtain ⟨t,rfl⟩:=rx
 exact call_range_1 ⟨.ref s.heap.objs.size,_,I.laid (t':=s.toks + 1 + 1) (o:=.rng 0 n) (fun b o e=>Heap.get?_push_of_some _ e) (Nat.le_refl _) ⟨_,_,_,Heap.get?_push_size _ rfl⟩,rfl,q _ (I.hok.fresh (Nat.le_refl _))⟩
theorem items_nats {acc:Array Value} {n:Nat} (h:ItemsOf (fun i v=>∃ t,v=.int (0 + (i:Nat) * 1) t) acc n):Vals ((List.range n).map fun p=>V.int ((p:Nat):Int)) acc.toList:=by
 obtain ⟨hs,hv⟩:=h
 have key:∀ (k:Nat) (l:List Value),(∀ (j:Nat) (v:Value),l[j]?=some v→∃ t,v=Value.int ((k:Int) + (j:Int)) t)→Vals ((List.range' k l.length).map fun p=>V.int ((p:Nat):Int)) l:=by
  intro k l
  induction l generalizing k with
  | nil=>intro _; exact .nil
  | cons x l ih=>
   intro h
   rw [List.length_cons,List.range'_succ,List.map_cons]
   refine .cons ?_ (ih (k + 1) fun j v e=>?_)
   ·obtain ⟨t,e⟩:=h 0 x rfl
    exact ⟨t,by rw [e]; simp⟩
   ·obtain ⟨t,e'⟩:=h (j + 1) v e
    exact ⟨t,by rw [e']; congr 1; omega⟩
 have:=key 0 acc.toList fun j v e=>by
  obtain ⟨t,e'⟩:=hv j v (by simpa using e)
  exact ⟨t,by rw [e']; congr 1; omega⟩
 rw [Array.length_toList,hs] at this
 rw [List.range_eq_range']
 exact this
theorem call_list_rng {X:Cx} (hc:X.calm=true):CallR X (.type "list") (fun xs H Q=>∃ (r:Addr) (n:Nat),xs=[.ref r]∧H r=some (.rng 0 (n:Nat))∧n≤100000∧∀ l,H l=none→Q (.ref l) (upd H l (.lst ((List.range n).map fun p=>V.int ((p:Nat):Int))))):=by
 intro pins s σ H xs us Q I r h
 obtain ⟨a,n,rfl,ha,hn,q⟩:=h
 obtain ⟨u,rfl,rx⟩:=vals1 r
 cases rx
 obtain ⟨t,u,v,ho⟩:=(show ∃ t u v,s.heap.get? a=some { cls:=.type "range",data:=.fields #[.int 0 t,.int (n:Nat) u,.int 1 v] } from I.hok a _ ha)
 refine call_list_range (n:=n) (I.ok.hd hc) ho (small_one (by decide) (by decide) (by omega) (by omega)) (by rw [rangeSize_one]; split <;> omega) (Nat.le_trans hn (by decide)) fun h' tk acc c kp hg hit=>?_
 refine ⟨.ref s.heap.objs.size,_,I.laid (t':=tk) kp (Nat.le_refl _) (show ObjOk X.prog X.w _ h' _ (.lst _) from ⟨by rw [List.length_map,List.length_range]; exact Nat.le_trans hn (by decide),acc.toList,c,items_nats hit,by rw [Array.toArray_toList]; exact hg⟩),rfl,q _ (I.hok.fresh (Nat.le_refl _))⟩
structure TxtB (mg:Str→Option Value):Prop where
 isi:mg "isinstance"=none
 int:mg "int"=none
 bool:mg "bool"=none
 abs:mg "abs"=none
 len:mg "len"=none
 range:mg "range"=none
 tup:mg "tuple"=none
 lst:mg "list"=none
 sor:mg "sorted"=none
 all:mg "all"=none
 set:mg "set"=none
 zip:mg "zip"=none
 enu:mg "enumerate"=none
 any:mg "any"=none
 max:mg "max"=none
 min:mg "min"=none
 str:mg "str"=none
 sum:mg "sum"=none
def nats (L:List Nat):List V:=L.map fun p=>V.int ((p:Nat):Int)
theorem nats_ints (L:List Nat):nats L=(L.map fun p=>((p:Nat):Int)).map V.int:=by simp [nats]
theorem nats_snoc (L:List Nat) (j:Nat):nats (L++[j])=nats L++[V.int (j:Int)]:=by unfold nats; rw [List.map_append]; rfl
theorem nats_len (L:List Nat):(nats L).length=L.length:=by unfold nats; rw [List.length_map]
def BlAt (H:Hp):List V→List (List Nat)→Prop
 | [],[]=>True
 | v::vs,b::bs=>(∃ a,v=.ref a∧H a=some (.lst (nats b)))∧BlAt H vs bs
 | _,_=>False
theorem BlAt.len {H:Hp}:∀ {vs:List V} {bs:List (List Nat)},BlAt H vs bs→vs.length=bs.length
 | [],[],_=>rfl
 | _::_,_::_,h=>by rw [List.length_cons,List.length_cons,BlAt.len h.2]
theorem BlAt.imp {H H':Hp}:∀ {vs:List V} {bs:List (List Nat)},BlAt H vs bs→(∀ a xs,V.ref a∈vs→H a=some (.lst xs)→H' a=some (.lst xs))→BlAt H' vs bs
 | [],[],_,_=>trivial
 | v::vs,b::bs,⟨⟨a,e,q⟩,r⟩,k=>⟨⟨a,e,k a _ (e▸List.mem_cons_self ..) q⟩,r.imp fun a xs h1 h2=>k a xs (List.mem_cons_of_mem _ h1) h2⟩
theorem BlAt.same {H H':Hp} (s:Same H H') {vs:List V} {bs:List (List Nat)} (h:BlAt H vs bs):BlAt H' vs bs:=h.imp fun a xs _ q=>s _ _ q
theorem BlAt.snoc {H:Hp} {a:Addr} {b:List Nat} (e:H a=some (.lst (nats b))):∀ {vs:List V} {bs:List (List Nat)},BlAt H vs bs→BlAt H (vs++[.ref a]) (bs++[b])
 | [],[],_=>⟨⟨a,rfl,e⟩,trivial⟩
 | _::_,_::_,h=>⟨h.1,h.2.snoc e⟩
theorem BlAt.get {H:Hp}:∀ {vs:List V} {bs:List (List Nat)} {i:Nat} {v:V},BlAt H vs bs→vs[i]?=some v→∃ a b,v=.ref a∧bs[i]?=some b∧H a=some (.lst (nats b))
 | v::vs,b::bs,0,_,h,e=>by
  cases e
  obtain ⟨a,e,q⟩:=h.1
  exact ⟨a,b,e,rfl,q⟩
 | _::vs,_::bs,i + 1,v,h,e=>BlAt.get (i:=i) h.2 e
def TpAt (H:Hp):List V→List (List Nat)→Prop
 | [],[]=>True
 | v::vs,b::bs=>(∃ a,v=.ref a∧H a=some (.tup (nats b)))∧TpAt H vs bs
 | _,_=>False
theorem TpAt.len {H:Hp}:∀ {vs:List V} {bs:List (List Nat)},TpAt H vs bs→vs.length=bs.length
 | [],[],_=>rfl
 | _::_,_::_,h=>by rw [List.length_cons,List.length_cons,TpAt.len h.2]
theorem TpAt.same {H H':Hp} (s:∀ a xs,H a=some (.tup xs)→H' a=some (.tup xs)):∀ {vs:List V} {bs:List (List Nat)},TpAt H vs bs→TpAt H' vs bs
 | [],[],_=>trivial
 | v::vs,b::bs,⟨⟨a,e,q⟩,r⟩=>⟨⟨a,e,s _ _ q⟩,r.same s⟩
theorem TpAt.snoc {H:Hp} {a:Addr} {b:List Nat} (e:H a=some (.tup (nats b))):∀ {vs:List V} {bs:List (List Nat)},TpAt H vs bs→TpAt H (vs++[.ref a]) (bs++[b])
 | [],[],_=>⟨⟨a,rfl,e⟩,trivial⟩
 | _::_,_::_,h=>⟨h.1,h.2.snoc e⟩
theorem TpAt.get {H:Hp}:∀ {vs:List V} {bs:List (List Nat)} {i:Nat} {v:V},TpAt H vs bs→vs[i]?=some v→∃ a b,v=.ref a∧bs[i]?=some b∧H a=some (.tup (nats b))
 | v::vs,b::bs,0,_,h,e=>by
  cases e
  obtain ⟨a,e,q⟩:=h.1
  exact ⟨a,b,e,rfl,q⟩
 | _::vs,_::bs,i + 1,v,h,e=>TpAt.get (i:=i) h.2 e
def rTupQ (K:PySem.W.Frag):List V→Hp→VK→Prop:=fun xs H Q=>∃ p ys,xs=[.ref p]∧((SqL K H p ys∧∀ l,H l=none→Q (.ref l) (upd H l (.tup ys)))∨(SqT K H p ys∧Q (.ref p) H))
theorem call_tupQ {X:Cx}:CallR X (.type "tuple") (rTupQ X.K):=call_tuple_of
theorem TpAt.sm {H H':Hp} (s:Same H H') {vs:List V} {bs:List (List Nat)} (h:TpAt H vs bs):TpAt H' vs bs:=h.same fun a xs q=>s _ _ q
theorem back_nats {b:List Nat} {ns:List Int} (hp:ns.Perm (b.map fun p=>((p:Nat):Int))) (hs:ns.Pairwise (·≤·)):∃ b':List Nat,ns.map V.int=nats b'∧b'.Perm b∧b'.Pairwise (·≤·):=by
 have hnn:∀ x∈ns,0≤x:=fun x hx=>by
  obtain ⟨p,_,rfl⟩:=List.mem_map.mp (hp.mem_iff.mp hx)
  omega
 have e:ns=(ns.map Int.toNat).map fun p=>((p:Nat):Int):=by
  rw [List.map_map]
  conv=>lhs; rw [← List.map_id ns]
  exact List.map_congr_left fun x hx=>by
   have:=hnn x hx
   show x=((x.toNat:Nat):Int)
   omega
 refine ⟨ns.map Int.toNat,?_,?_,?_⟩
 ·rw [nats_ints,← e]
 ·have:=hp.map Int.toNat
  rw [List.map_map] at this
  have e2:(b.map (Int.toNat ∘ fun p=>((p:Nat):Int)))=b:=by
   conv=>rhs; rw [← List.map_id b]
   exact List.map_congr_left fun x _=>by simp
  rwa [e2] at this
 ·rw [List.pairwise_map]
  exact hs.imp fun h=>by omega
theorem nats_get {b:List Nat} {j:Nat} {x:V} (h:(nats b)[j]?=some x):∃ p:Nat,b[j]?=some p∧x=V.int ((p:Nat):Int):=by
 unfold nats at h
 rw [List.getElem?_map] at h
 cases e:b[j]? with
 | none=>rw [e] at h; cases h
 | some p=>rw [e] at h; cases h; exact ⟨p,rfl,rfl⟩
theorem TpAt.app {H:Hp}:∀ {vs ws:List V} {bs cs:List (List Nat)},TpAt H vs bs→TpAt H ws cs→TpAt H (vs++ws) (bs++cs)
 | [],_,[],_,_,h=>h
 | _::_,_,_::_,_,h,h'=>⟨h.1,h.2.app h'⟩
theorem ints_isD' {K:PySem.W.Frag} {H:Hp}:∀ L:List Nat,IsDs K H (L.map fun p=>PyData.int ((p:Nat):Int)) (nats L)
 | []=>by simp [nats,IsDs]
 | p::L=>by
  simp only [nats,List.map_cons,IsDs]
  exact ⟨_,_,rfl,by simp [IsD],ints_isD' L⟩
theorem lay_ints':∀ L:List Nat,PyData.canLayAll0 (L.map fun p=>PyData.int ((p:Nat):Int))=true
 | []=>by simp [PyData.canLayAll0]
 | x::L=>by simp [PyData.canLayAll0,PyData.canLay0,lay_ints' L]
theorem depth_ints':∀ L:List Nat,PyData.depthAll (L.map fun p=>PyData.int ((p:Nat):Int))≤1
 | []=>by simp [PyData.depthAll]
 | x::L=>by
  have:=depth_ints' L
  simp [PyData.depthAll,PyData.depth]
  omega
def dBlk (L:List Nat):PyData:=.list (L.map fun p=>PyData.int ((p:Nat):Int))
theorem shaped_blk (L:List Nat):PySem.SeqAt.shaped (dBlk L)=true:=by
 unfold PySem.SeqAt.shaped dBlk
 rw [Bool.and_eq_true]
 refine ⟨by simp only [PyData.canLay0]; exact lay_ints' L,decide_eq_true ?_⟩
 have:=depth_ints' L
 simp only [PyData.depth]
 omega
theorem cut_from {xs:List V} {k:Nat} (hk:k≤xs.length):cutV xs (some (k:Int)) none=xs.drop k:=by
 unfold cutV
 have h1:HT.sIx xs.length 0 (some (k:Int))=k:=by rw [HT.sIx_nat]; omega
 have h2:HT.sIx xs.length xs.length none=xs.length:=by simp [HT.sIx]
 rw [h1,h2,List.take_of_length_le (by rw [List.length_drop]; exact Nat.le_refl _)]
theorem cut_to {xs:List V} {k:Nat} (hk:k≤xs.length):cutV xs none (some (k:Int))=xs.take k:=by
 unfold cutV
 have h1:HT.sIx xs.length 0 none=0:=by simp [HT.sIx]
 have h2:HT.sIx xs.length xs.length (some (k:Int))=k:=by rw [HT.sIx_nat]; omega
 rw [h1,h2,List.drop_zero,Nat.sub_zero]
theorem seqVia {t rest:TS} {D:Ends} {σ:St} {H:Hp} (J:St→Hp→Prop) (hJ:∀ σ' H',J σ' H'→rest D σ' H') (h:∀ D':Ends,(∀ σ' H',J σ' H'→D'.nx σ' H')→t D' σ H):tSeq t rest D σ H:=h { D with nx:=rest D } hJ
theorem eqv_ints':∀ L:List Nat,PyData.eqvAll (L.map fun p=>PyData.int ((p:Nat):Int)) (L.map fun p=>PyData.int ((p:Nat):Int))=true
 | []=>by simp [PyData.eqvAll]
 | x::L=>by simp [PyData.eqvAll,PyData.eqv,eqv_ints' L]
def dTup (L:List Nat):PyData:=.tuple (L.map fun p=>PyData.int ((p:Nat):Int))
theorem tps_isD {K:PySem.W.Frag} {H:Hp}:∀ {vs:List V} {bs:List (List Nat)},TpAt H vs bs→IsDs K H (bs.map dTup) vs
 | [],[],_=>by simp [IsDs]
 | v::vs,b::bs,⟨⟨a,e,q⟩,r⟩=>by
  simp only [List.map_cons,IsDs]
  refine ⟨v,vs,rfl,?_,tps_isD r⟩
  simp only [dTup,IsD]
  exact ⟨a,_,e,SqT.of q,ints_isD' b⟩
theorem lay_tps:∀ bs:List (List Nat),PyData.canLayAll0 (bs.map dTup)=true
 | []=>by simp [PyData.canLayAll0]
 | b::bs=>by
  have h1:=lay_ints' b
  simp only [List.map_cons,PyData.canLayAll0,dTup,PyData.canLay0,h1,lay_tps bs,Bool.and_self,Bool.true_and]
theorem depth_tps:∀ bs:List (List Nat),PyData.depthAll (bs.map dTup)≤2
 | []=>by simp [PyData.depthAll]
 | b::bs=>by
  have h1:=depth_ints' b
  have h2:=depth_tps bs
  simp only [List.map_cons,PyData.depthAll,dTup,PyData.depth]
  omega
theorem eqv_tup (L:List Nat):PyData.eqv (dTup L) (dTup L)=true:=by
 simp only [dTup,PyData.eqv]
 exact eqv_ints' L
theorem eqv_tpsA:∀ bs:List (List Nat),PyData.eqvAll (bs.map dTup) (bs.map dTup)=true
 | []=>by simp [PyData.eqvAll]
 | b::bs=>by simp only [List.map_cons,PyData.eqvAll,eqv_tup b,eqv_tpsA bs,Bool.and_self]
theorem TpAt.take {H:Hp}:∀ {vs:List V} {bs:List (List Nat)} (n:Nat),TpAt H vs bs→TpAt H (vs.take n) (bs.take n)
 | [],[],_,_=>by simp [TpAt]
 | _::_,_::_,0,_=>trivial
 | _::_,_::_,n + 1,h=>⟨h.1,h.2.take n⟩
theorem TpAt.set {H:Hp} {a:Addr} {b:List Nat} (e:H a=some (.tup (nats b))):∀ {vs:List V} {bs:List (List Nat)} (n:Nat),TpAt H vs bs→TpAt H (vs.set n (.ref a)) (bs.set n b)
 | [],[],_,_=>trivial
 | _::_,_::_,0,h=>⟨⟨a,rfl,e⟩,h.2⟩
 | _::_,_::_,n + 1,h=>⟨h.1,h.2.set e n⟩
end L2
namespace L2
open PySem PySem.Spec PyProof.Rows PySem.W
def KAll {α:Type} (n:Nat) (R:α→Prop):KasT α→Prop
 | .ret a=>R a
 | .ask i j k=>i < n∧j < n∧∀ b,KAll n R (k b)
theorem KAll.bind {α β:Type} {n:Nat} {R:α→Prop} {S:β→Prop} {f:α→KasT β}:∀ {t:KasT α},KAll n R t→(∀ a,R a→KAll n S (f a))→KAll n S (t.bind f)
 | .ret a,h,hf=>hf a h
 | .ask i j k,h,hf=>⟨h.1,h.2.1,fun b=>KAll.bind (h.2.2 b) hf⟩
theorem KAll.wp {α:Type} {n:Nat} {R:α→Prop} {cmp:Nat→Nat→(Bool→Shared→Prop)→Shared→Prop} {Q:α→Shared→Prop} {s:Shared} (hc:∀ i j C,i < n→j < n→(∀ b,C b s)→cmp i j C s) (hq:∀ a,R a→Q a s):∀ {t:KasT α},KAll n R t→t.kasWp cmp Q s
 | .ret a,h=>hq a h
 | .ask i j k,h=>hc i j _ h.1 h.2.1 fun b=>KAll.wp hc hq (h.2.2 b)
def Ord (n:Nat) (p:Array Nat):Prop:=p.toList.Perm (List.range n)
theorem Ord.lt {n:Nat} {p:Array Nat} (h:Ord n p) (hn:0 < n) (k:Nat):p.getD k 0 < n:=by
 by_cases hk:k < p.size
 ·have:p.getD k 0∈p.toList:=by
   have e:p.getD k 0=p[k]:=by simp [hk]
   rw [e]
   exact Array.mem_toList_iff.mpr (Array.getElem_mem hk)
  exact List.mem_range.mp (h.mem_iff.mp this)
 ·have:p.getD k 0=0:=by simp [hk]
  omega
theorem Ord.rev {n:Nat} {p:Array Nat} (h:Ord n p) (i j:Nat):Ord n (kas_rev p i j):=((mirror_perm p i j _).toList).trans h
theorem Ord.bub {n:Nat} {p:Array Nat} (h:Ord n p) (k d:Nat):Ord n (bubble p k d):=((bubble_perm p k d).toList).trans h
section
variable {n:Nat} (hn:0 < n)
include hn
theorem all_asc {p:Array Nat} (h:Ord n p):∀ f k,KAll n (fun _=>True) (kas_asc p f k)
 | 0,_=>trivial
 | f + 1,k=>⟨h.lt hn _,h.lt hn _,fun b=>by
  cases b
  ·exact all_asc h f (k + 1)
  ·exact trivial⟩
theorem all_desc:∀ f {p:Array Nat} (k q:Nat),Ord n p→KAll n (fun r=>Ord n r.1) (kas_desc f p k q)
 | 0,_,_,_,h=>h
 | f + 1,p,k,q,h=>⟨h.lt hn _,h.lt hn _,fun b=>by
  cases b
  ·exact ⟨h.lt hn _,h.lt hn _,fun c=>by
    cases c
    ·exact all_desc f _ _ h
    ·exact h⟩
  ·show KAll n _ (if q > 0 then kas_desc f (kas_rev p (k - (q + 1)) k) (k + 1) 0 else kas_desc f p (k + 1) 0)
   split
   ·exact all_desc f _ _ (h.rev _ _)
   ·exact all_desc f _ _ h⟩
theorem all_tail3 {p:Array Nat} (h:Ord n p) (k m:Nat):KAll n (fun r=>Ord n r.2) (kas_tail3 k m p):=(all_asc hn (h.rev 0 k) _ _).bind fun _ _=>h.rev 0 k
theorem all_descPart {p:Array Nat} (h:Ord n p) (k m:Nat):KAll n (fun r=>Ord n r.2) (kas_descPart k m p):=(all_desc hn _ _ _ h).bind fun r hr=>by
 split
 ·exact all_tail3 hn (hr.rev _ _) _ _
 ·exact all_tail3 hn hr _ _
theorem all_count {p:Array Nat} (h:Ord n p) (m:Nat):KAll n (fun r=>Ord n r.2) (kas_count m p):=(all_asc hn h _ _).bind fun k _=>by
 split
 ·exact h
 ·split
  ·exact ⟨h.lt hn _,h.lt hn _,fun b=>by
    cases b
    ·exact all_descPart hn (h.rev _ _) _ _
    ·exact h⟩
  ·exact all_descPart hn h _ _
theorem all_place {p:Array Nat} (h:Ord n p) (k:Nat):∀ f l r,KAll n (fun _=>True) (kas_place p k f l r)
 | 0,_,_=>trivial
 | f + 1,l,r=>by
  unfold kas_place
  split
  ·trivial
  ·exact ⟨h.lt hn _,h.lt hn _,fun b=>by
    cases b
    ·exact all_place h k f _ _
    ·exact all_place h k f _ _⟩
theorem all_bin:∀ f {p:Array Nat} (k:Nat),Ord n p→KAll n (Ord n) (kas_bin f p k)
 | 0,_,_,h=>h
 | f + 1,p,k,h=>(all_place hn h k _ _ _).bind fun l _=>all_bin f (k + 1) (h.bub _ _)
theorem all_sort:KAll n (Ord n) (kas_sort n):=(all_count hn (p:=List.toArray (List.range n)) (by unfold Ord; simp) n).bind fun r hr=>by
 split
 ·exact all_bin hn _ _ hr
 ·exact hr
end
def PrAt (h:Heap) (v:Value):Prop:=∃ (x:Addr) (o:Obj) (k:Nat) (a b:Int) (t u:Tok),v=.ref x∧h.get? x=some o∧o.cls=.type "tuple"∧o.data=.seq #[.int a t,.int b u] k
theorem prs_tups {h:Heap}:∀ {vs:List Value},(∀ v∈vs,PrAt h v)→∃ fs:List Value,KatTups h vs fs∧fs.length=vs.length∧∀ f∈fs,∃ (a:Int) (t:Tok),f=.int a t
 | [],_=>⟨[],trivial,rfl,by simp⟩
 | v::vs,hv=>by
  obtain ⟨fs,h1,h2,h3⟩:=prs_tups (vs:=vs) fun w hw=>hv w (List.mem_cons_of_mem _ hw)
  obtain ⟨x,o,k,a,b,t,u,e,ho,hc,hd⟩:=hv v (List.mem_cons_self ..)
  refine ⟨.int a t::fs,⟨⟨x,o,_,k,e,ho,hc,hd,rfl⟩,h1⟩,by simp [h2],fun f hf=>?_⟩
  rcases List.mem_cons.mp hf with e | e
  ·exact ⟨a,t,e⟩
  ·exact h3 f e
section
variable {prog:Program} {w:World} {A:Around} {E:Value→Shared→Prop} {s:Shared}
theorem pr_lt {v v':Value} {C:Bool→Shared→Prop} (hv:PrAt s.heap v) (hv':PrAt s.heap v') (hC:∀ b,C b s):wpAny (model prog w) A (keyLt' (tuples' true) v v') C (fun _ _=>False) s:=by
 obtain ⟨x,o,k,a,b,t,u,rfl,ho,hc,hd⟩:=hv
 obtain ⟨x',o',k',a',b',t',u',rfl,ho',hc',hd'⟩:=hv'
 refine kat_lt ho hd ho' hd' (kat_cons (wpAny_eqBool_int ?_))
 refine kat_go (fun _=>kat_yes ?_) (fun _=>kat_no ?_)
 ·refine kat_cons (wpAny_eqBool_int (kat_go (fun _=>kat_yes (kat_nil (hC _))) (fun _=>kat_no ?_)))
  exact kat_one _ _ (lt_int (hC _))
 ·exact kat_lt_int (hC _)
theorem map_getD (vs:List Value):((List.range vs.length).map fun i=>vs.getD i Value.none)=vs:=by
 apply List.ext_getElem
 ·simp
 ·intro i h1 h2
  simp [List.getElem_map,List.getElem_range,h2]
theorem list_sortP {a:Addr} {vs:List Value} {n:Nat} {Z:PySem.Fin→Shared→Prop} (ho:s.heap.get? a=some (seqObj "list" vs.toArray n)) (h64:vs.length < 64) (hv:∀ v∈vs,PrAt s.heap v)
  (h:∀ out:List Value,out.Perm vs→Z (.done (.ret .none)) { s with heap:=sortedHeap s.heap a vs out.toArray }):wpAny (model prog w) A (Builtin.«list.sort» ⟨[.ref a],[]⟩) Z E s:=by
 have hlt:a < s.heap.objs.size:=Heap.lt_size ho
 obtain ⟨c1,g1⟩:∃ c1,(s.heap.update a (Obj.mapSeq fun _=>#[])).get? a=some (seqObj "list" #[] c1):=⟨_,get?_update_seq ho (fun _=>#[])⟩
 have up:∀ b o,b≠a→s.heap.get? b=some o→(((s.heap.update a (Obj.mapSeq fun _=>#[])).push (seqObj "tuple" vs.toArray 0)).push (seqObj "list" #[] 0)).get? b=some o:=fun b o nb q=>by
  refine Heap.get?_push_of_some _ (Heap.get?_push_of_some _ ?_)
  rw [Heap.get?_update_ne _ _ _ _ nb]
  exact q
 have g6:(((s.heap.update a (Obj.mapSeq fun _=>#[])).push (seqObj "tuple" vs.toArray 0)).push (seqObj "list" #[] 0)).get? a=some (seqObj "list" #[] c1):=Heap.get?_push_of_some _ (Heap.get?_push_of_some _ g1)
 rw [list_sort_plain]
 refine wpAny_bind (listItems_at ho rfl (wpAny_bind (listUpdate_at ho rfl ?_ (by rw [List.size_toArray,sizeLine_eq]; omega) (Nat.zero_le _))))
 refine wpAny_bind (seqEpoch_at g1 rfl (wpAny_bind (wpAny_newTuple ?_ (show vs.length≤sizeLine by rw [sizeLine_eq]; omega))))
 refine wpAny_bind (wpAny_newList (wpAny_holding ?_) (Nat.zero_le _))
 show wpAny (model prog w) A _ Z E { s with heap:=((s.heap.update a (Obj.mapSeq fun _=>#[])).push (seqObj "tuple" vs.toArray 0)).push (seqObj "list" #[] 0) }
 dsimp only
 by_cases h2:vs.toArray.size < 2
 ·rw [if_pos h2,if_pos h2]
  refine wpAny_bind (wpAny_pure ?_)
  rw [StateT.run_pure]
  refine wpAny_bind (wpAny_pure ?_)
  dsimp only
  refine wpAny_bind (seqEpoch_at g6 rfl (wpAny_bind (listUpdate_at g6 rfl ?_ (Nat.zero_le _) (by rw [Array.size_map]; show (pairsOf vs).size≤_; rw [pairsOf_size,sizeLine_eq]; omega))))
  simp only [bne_self_eq_false,Bool.false_eq_true,if_false]
  have e:(arrOf (SortSt.mk' general' (vs.toArray.zip vs.toArray) #[] 7 none)).map (·.2)=vs.toArray:=by
   show (vs.toArray.zip vs.toArray).map (·.2)=vs.toArray
   apply Array.toList_inj.mp
   simp [List.map_snd_zip]
  have:=h vs (List.Perm.refl _)
  refine wpAny_pure ?_
  rw [e]
  exact this
 ·rw [if_neg h2,if_neg h2]
  rw [List.size_toArray] at h2
  obtain ⟨fs,hT,hfl,hfi⟩:=prs_tups (h:=((s.heap.update a (Obj.mapSeq fun _=>#[])).push (seqObj "tuple" vs.toArray 0)).push (seqObj "list" #[] 0)) (vs:=vs) fun v hv'=>by
   obtain ⟨x,o,k,p,q,t,u,e,hx,hc,hd⟩:=hv v hv'
   exact ⟨x,o,k,p,q,t,u,e,up _ _ (fun z=>by rw [z,ho] at hx; cases hx; injection (show Value.type "list"=Value.type "tuple" from hc) with e'; exact absurd e' (by decide)) hx,hc,hd⟩
  refine wpAny_bind (kat_kind (T:=.type "int") hT (by omega) (fun f hf=>?_) rfl ?_)
  ·obtain ⟨p,t,rfl⟩:=hfi f hf
   exact Looks.now
  show wpAny (model prog w) A _ Z E _
  have run:(kas_sort vs.length).kasWp (kas_ask prog w A (tuples' true) vs) (fun p s'=>Ord vs.length p∧s'={ s with heap:=((s.heap.update a (Obj.mapSeq fun _=>#[])).push (seqObj "tuple" vs.toArray 0)).push (seqObj "list" #[] 0) }) { s with heap:=((s.heap.update a (Obj.mapSeq fun _=>#[])).push (seqObj "tuple" vs.toArray 0)).push (seqObj "list" #[] 0) }:=
   KAll.wp (n:=vs.length) (fun i j C hi hj hC=>by
    have pr:∀ k,k < vs.length→PrAt (((s.heap.update a (Obj.mapSeq fun _=>#[])).push (seqObj "tuple" vs.toArray 0)).push (seqObj "list" #[] 0)) (vs.getD k Value.none):=fun k hk=>by
     have em:vs.getD k Value.none=vs[k]:=by simp [hk]
     rw [em]
     obtain ⟨x,o,k',p,q,t,u,e,hx,hc,hd⟩:=hv _ (List.getElem_mem hk)
     exact ⟨x,o,k',p,q,t,u,e,up _ _ (fun z=>by rw [z,ho] at hx; cases hx; injection (show Value.type "list"=Value.type "tuple" from hc) with e'; exact absurd e' (by decide)) hx,hc,hd⟩
    exact pr_lt (pr i hi) (pr j hj) hC) (fun p hp=>⟨hp,rfl⟩) (all_sort (by omega))
  refine wpAny_bind (wpAny_mono (kat_run (Q:=fun st' s'=>∃ p:Array Nat,arrOf st'=p.map (kas_item (vs.toArray.zip vs.toArray))∧failedOf st'=none∧Ord vs.length p∧s'={ s with heap:=((s.heap.update a (Obj.mapSeq fun _=>#[])).push (seqObj "tuple" vs.toArray 0)).push (seqObj "list" #[] 0) })
   rfl (by omega) h64 (fun p st' s' _ q2 q3 q4=>⟨p,q2,q3,q4.1,q4.2⟩) run) ?_ fun _ _ e=>e)
  rintro ⟨⟨⟩,st'⟩ s' ⟨p,har,hf,hp,rfl⟩
  dsimp only
  have eo:=kat_snds rfl har
  have hpm:(p.toList.map fun i=>vs.getD i Value.none).Perm vs:=by
   have:=hp.map fun i=>vs.getD i Value.none
   rwa [map_getD] at this
  have fin:=h _ hpm
  rw [eo]
  refine wpAny_bind (seqEpoch_at g6 rfl (wpAny_bind (listUpdate_at g6 rfl ?_ (Nat.zero_le _) (by rw [List.size_toArray,hpm.length_eq,sizeLine_eq]; omega))))
  rw [hf]
  simp only [bne_self_eq_false,Bool.false_eq_true,if_false]
  exact wpAny_pure fin
theorem sorted_prs {l:Addr} {vs:List Value} {Q:Value→Shared→Prop} (hl:s.heap.IsList l vs.toArray) (h64:vs.length < 64) (hv:∀ v∈vs,PrAt s.heap v)
  (h:∀ out:List Value,out.Perm vs→Q (.ref (s.heap.objs.size + 1)) { s with heap:=sortedAll s.heap vs out.toArray }):wpAny (model prog w) A (call (.builtin "sorted") [.ref l]) Q E s:=by
 refine Calls.call_function_entry kind_sorted plain_sorted entry_sorted (args_sorted1 _) ?_
 unfold Builtin.«sorted»
 refine wpAny_bind (m:=checkCount "sorted" 1 1 _) (wpAny_pure (wpAny_bind (collect_list hl (wpAny_bind (wpAny_newList ?_ (by rw [sizeLine_eq]; omega))) (by rw [sizeLine_eq]; omega))))
 have n1:((s.heap.push (seqObj "list" #[] 0)).update s.heap.objs.size (Obj.mapSeq (·++vs.toArray))).objs.size=s.heap.objs.size + 1:=by rw [Heap.size_update,size_push']
 have up:∀ b o,s.heap.get? b=some o→(((s.heap.push (seqObj "list" #[] 0)).update s.heap.objs.size (Obj.mapSeq (·++vs.toArray))).push (seqObj "list" vs.toArray 0)).get? b=some o:=fun b o q=>by
  refine Heap.get?_push_of_some _ ?_
  rw [Heap.get?_update_ne _ _ _ _ (Nat.ne_of_lt (Heap.lt_size q))]
  exact Heap.get?_push_of_some _ q
 have g2:(((s.heap.push (seqObj "list" #[] 0)).update s.heap.objs.size (Obj.mapSeq (·++vs.toArray))).push (seqObj "list" vs.toArray 0)).get? (s.heap.objs.size + 1)=some (seqObj "list" vs.toArray 0):=by
  rw [← n1]; exact Heap.get?_push_size _ rfl
 show wpAny _ _ _ _ _ { s with heap:=((s.heap.push (seqObj "list" #[] 0)).update s.heap.objs.size (Obj.mapSeq (·++vs.toArray))).push (seqObj "list" vs.toArray 0) }
 rw [n1]
 refine wpAny_bind (wpAny_holding (wpAny_call_entry slot_list_sort ⟨_,g2,rfl⟩ entry_list_sort (list_sortP g2 h64 (fun v hv'=>?_) fun out hp=>⟨_,rfl,wpAny_pure ⟨_,rfl,h out hp⟩⟩) (args_list_sort _)))
 obtain ⟨x,o,k,p,q,t,u,e,hx,hc,hd⟩:=hv v hv'
 exact ⟨x,o,k,p,q,t,u,e,up _ _ hx,hc,hd⟩
end
def PrsAt (H:Hp):List V→List (Int×Int)→Prop
 | [],[]=>True
 | v::vs,x::xs=>(∃ a,v=.ref a∧H a=some (.tup [.int x.1,.int x.2]))∧PrsAt H vs xs
 | _,_=>False
theorem PrsAt.val {X:Cx} {pins:List (Addr×Obj)} {σ:St} {H:Hp} {s:Shared} (I:Inv X pins σ H s):∀ {vs:List V} {xs:List (Int×Int)} {us:List Value},PrsAt H vs xs→Vals vs us→(∀ u∈us,PrAt s.heap u)∧vs=us.map fun u=>V.ref (match u with | .ref a=>a | _=>0)
 | [],[],_,_,r=>by cases r; exact ⟨by simp,rfl⟩
 | v::vs,x::xs,_,⟨⟨a,e,q⟩,hr⟩,r=>by
  cases r with
  | cons h t=>
   subst e
   cases h
   obtain ⟨h1,h2⟩:=PrsAt.val I hr t
   obtain ⟨its,rv,⟨o,ho,hc,n,hd⟩,_⟩:=I.tuple (SqT.of q)
   refine ⟨fun u hu=>?_,by rw [List.map_cons,← h2]⟩
   rcases List.mem_cons.mp hu with e | e
   ·cases rv with
    | cons r1 rr=>
     cases rr with
     | cons r2 rr=>
      cases rr
      obtain ⟨t1,rfl⟩:=r1
      obtain ⟨t2,rfl⟩:=r2
      exact ⟨a,o,n,_,_,_,_,e,ho,hc,hd⟩
   ·exact h1 u e
def rSortP (K:PySem.W.Frag):List V→Hp→VK→Prop:=fun xs H Q=>∃ (a:Addr) (vs:List V) (ps:List (Int×Int)),xs=[.ref a]∧SqL K H a vs∧PrsAt H vs ps∧vs.length < 64∧∀ (l:Addr) (vs':List V),H l=none→vs'.Perm vs→Q (.ref l) (upd H l (.lst vs'))
theorem call_sortP {X:Cx}:CallR X (.builtin "sorted") (rSortP X.K):=by
 intro pins s σ H xs us Q I r h
 obtain ⟨a,vs,ps,rfl,hq,hP,h64,q⟩:=h
 obtain ⟨u,rfl,rx⟩:=vals1 r
 cases rx
 obtain ⟨its,r',pl,hz⟩:=I.list hq
 have hlen:=r'.length
 obtain ⟨hpr,hvs⟩:=PrsAt.val I hP r'
 refine sorted_prs pl.isList (by omega) hpr fun out hp=>?_
 obtain ⟨e,he⟩:=sortedAll_at s.heap its out.toArray
 have hl2:=hp.length_eq
 have hpm:(out.map fun u=>V.ref (match u with | .ref a=>a | _=>0)).Perm vs:=by
  rw [hvs]
  exact hp.map _
 refine ⟨.ref (s.heap.objs.size + 1),_,I.laid (t':=s.toks) (o:=.lst (out.map fun u=>V.ref (match u with | .ref a=>a | _=>0))) (fun b o=>sortedAll_old) (Nat.le_succ _) ?_,rfl,q _ _ (I.hok.fresh (Nat.le_succ _)) hpm⟩
 refine ⟨by rw [List.length_map]; exact Nat.le_trans (show out.length≤64 by omega) (by decide),out,e,?_,he⟩
 have hall:∀ u∈out,∃ x,u=.ref x:=fun u hu=>by
  obtain ⟨x,_,_,_,_,_,_,e,_⟩:=hpr u (hp.mem_iff.mp hu)
  exact ⟨x,e⟩
 clear he hpm hp hl2
 induction out with
 | nil=>exact .nil
 | cons u out ih=>
  obtain ⟨x,rfl⟩:=hall u (List.mem_cons_self ..)
  exact .cons rfl (ih fun u hu=>hall u (List.mem_cons_of_mem _ hu))
theorem PrsAt.same {H H':Hp} (s:Same H H'):∀ {vs:List V} {ps:List (Int×Int)},PrsAt H vs ps→PrsAt H' vs ps
 | [],[],_=>trivial
 | _::_,_::_,⟨⟨a,e,q⟩,r⟩=>⟨⟨a,e,s _ _ q⟩,r.same s⟩
theorem PrsAt.snoc {H:Hp} {a:Addr} {p:Int×Int} (e:H a=some (.tup [.int p.1,.int p.2])):∀ {vs:List V} {ps:List (Int×Int)},PrsAt H vs ps→PrsAt H (vs++[.ref a]) (ps++[p])
 | [],[],_=>⟨⟨a,rfl,e⟩,trivial⟩
 | _::_,_::_,h=>⟨h.1,h.2.snoc e⟩
theorem PrsAt.len {H:Hp}:∀ {vs:List V} {ps:List (Int×Int)},PrsAt H vs ps→vs.length=ps.length
 | [],[],_=>rfl
 | _::_,_::_,h=>by rw [List.length_cons,List.length_cons,PrsAt.len h.2]
theorem PrsAt.get {H:Hp}:∀ {vs:List V} {ps:List (Int×Int)} {i:Nat} {v:V},PrsAt H vs ps→vs[i]?=some v→∃ a p,v=.ref a∧ps[i]?=some p∧H a=some (.tup [.int p.1,.int p.2])
 | v::vs,p::ps,0,_,h,e=>by
  cases e
  obtain ⟨a,e,q⟩:=h.1
  exact ⟨a,p,e,rfl,q⟩
 | _::vs,_::ps,i + 1,v,h,e=>PrsAt.get (i:=i) h.2 e
theorem PrsAt.perm {H:Hp} {vs vs':List V} (hp:vs'.Perm vs):∀ {ps:List (Int×Int)},PrsAt H vs ps→∃ ps',PrsAt H vs' ps'∧ps'.Perm ps:=by
 induction hp with
 | nil=>intro ps h; exact ⟨ps,h,.refl _⟩
 | cons x _ ih=>
  intro ps h
  cases ps with
  | nil=>exact h.elim
  | cons p ps=>
   obtain ⟨ps',h1,h2⟩:=ih h.2
   exact ⟨p::ps',⟨h.1,h1⟩,h2.cons p⟩
 | swap x y l=>
  intro ps h
  match ps,h with
  | [],h=>exact h.elim
  | [_],h=>exact h.2.elim
  | p::q::ps,h=>exact ⟨q::p::ps,⟨h.2.1,h.1,h.2.2⟩,.swap ..⟩
 | trans _ _ ih1 ih2=>
  intro ps h
  obtain ⟨ps1,a1,a2⟩:=ih2 h
  obtain ⟨ps2,b1,b2⟩:=ih1 a1
  exact ⟨ps2,b1,b2.trans a2⟩
end L2
namespace PySem
open Sem (wp)
open Builtin
end PySem
namespace L2
open PySem PySem.Spec PyProof.Rows
end L2
namespace HT2
open PySem PySem.Spec PyProof.Rows HT
variable {prog:Program} {w:World} {A:Around} {E:Value→Shared→Prop} {s:Shared}
theorem getItem_tuple_whole {t sl:Addr} {items:Array Value} {vl vu:Value} {lo hi:Option Int} {Q:Value→Shared→Prop} (ht:IsTup s.heap t items) (hs:s.heap.IsSliceOf sl vl vu .none) (pl:IsPart vl lo) (pu:IsPart vu hi)
  (hw:sIx items.size 0 lo=0∧sIx items.size items.size hi=items.size)
  (h:Q (.ref t) s):wpAny (model prog w) A (getItem (.ref t) (.ref sl)) Q E s:=by
 obtain ⟨os,hos,hcs,hds⟩:=id hs
 have hTs:s.TypeIs (.ref sl) "slice":=⟨os,hos,hcs⟩
 unfold getItem
 try with_reducible refine wpAny_holding ?_
 first | refine wpAny_bind (wpAny_pure ?_) | skip
 refine wpAny_bind (wpAny_sequenceKey ht.typeIs (by decide) ?_)
 refine wpAny_bind (wpAny_callSpecial?_slot (name:=Str.ofString "__getitem__") ht.typeIs PyProof.Rows.slot_tuple_getitem
  (wpAny_call_entry PyProof.Rows.slot_tuple_getitem ht.typeIs entry_tuple_getitem ?_ (args_tuple_getitem _ _)))
 show wpAny _ _ (Builtin.Tuple.tupleItemsOf (.ref t) >>= _) _ _ s
 refine wpAny_bind (tupleItemsOf_ ht ?_)
 refine wpAny_bind (wpAny_typeOf hTs ?_)
 rw [if_pos (by decide)]
 refine wpAny_bind (sliceApplied_gen hs pl pu ?_)
 have hyes:((((sIx items.size 0 lo:Nat):Int) == 0 && (1:Int) == 1 && (sIx items.size items.size hi - sIx items.size 0 lo) == items.size)=true):=by
  rw [hw.1,hw.2]
  simp
 show wpAny _ _ (if (((sIx items.size 0 lo:Nat):Int) == 0 && (1:Int) == 1 && (sIx items.size items.size hi - sIx items.size 0 lo) == items.size)=true then _ else _) _ _ s
 rw [if_pos hyes]
 refine wpAny_bind ?_
 unfold Builtin.Tuple.tupleIsExact
 refine wpAny_bind (wpAny_typeOf ht.typeIs (wpAny_pure ?_))
 rw [if_pos (by decide)]
 first
  | exact wpAny_bind (wpAny_rule (wpAny_pure ⟨_,rfl,wpAny_pure h⟩))
  | exact wpAny_rule (wpAny_pure ⟨_,rfl,wpAny_pure h⟩)
  | exact wpAny_bind (wpAny_rule (wpAny_bind (wpAny_pure (wpAny_pure ⟨_,rfl,wpAny_pure h⟩))))
end HT2
namespace L2
open PySem PySem.Spec PyProof.Rows
def rSlW (K:PySem.W.Frag):V→Option Int→Option Int→Hp→VK→Prop:=fun x lo hi H Q=>∃ a xs,x=.ref a∧SqT K H a xs∧
 ((HT.sIx xs.length 0 lo=0∧HT.sIx xs.length xs.length hi=xs.length)→Q (.ref a) H)∧
 (¬ (HT.sIx xs.length 0 lo=0∧HT.sIx xs.length xs.length hi=xs.length)→∀ p,H p=none→Q (.ref p) (upd H p (.tup (cutV xs lo hi))))
theorem sl_tupW {X:Cx}:SlR X (rSlW X.K):=by
 intro pins s σ H x v vl vu lo hi sl Q I rx hs pl pu h
 obtain ⟨a,xs,e,hx,qw,q⟩:=h
 by_cases hw:HT.sIx xs.length 0 lo=0∧HT.sIx xs.length xs.length hi=xs.length
 ·subst e
  cases rx
  obtain ⟨its,r,ht,hz⟩:=I.tuple hx
  have hlen:its.toArray.size=xs.length:=by rw [List.size_toArray]; exact r.length.symm
  refine ⟨"tuple",_,PyProof.Rows.slot_tuple_getitem.lookup,ht.typeIs,?_⟩
  exact HT2.getItem_tuple_whole ht hs pl pu (by rw [hlen]; exact hw) ⟨.ref a,H,I,rfl,qw hw⟩
 ·exact sl_tup pins s σ H x v vl vu lo hi sl Q I rx hs pl pu ⟨a,xs,e,hx,hw,q hw⟩
end L2
namespace L2
open PySem PySem.Spec PyProof.Rows
section
variable {prog:Program} {w:World} {A:Around} {E:Value→Shared→Prop} {s:Shared}
theorem nextT_item {it t:Addr} {i:Nat} {its:Array Value} {x:Value} {Q:Value→Shared→Prop} (hi:s.heap.IsTupleIter it t i) (ht:s.heap.IsTuple t its) (hx:its[i]?=some x)
  (hQ:∀ h',h'.IsTupleIter it t (i + 1)→Heap.SameBut it s.heap h'→Q x { s with heap:=h' }):wpAny (model prog w) A (Builtin.SmallTypes.nextOf (.ref it)) Q E s:=by
 obtain ⟨oi,gi,ci,di⟩:=id hi
 obtain ⟨ot,gt,_,nt,dt⟩:=ht
 unfold Builtin.SmallTypes.nextOf
 refine wpAny_bind (wpAny_callSpecial?_slot (name:=Str.ofString "__next__") hi.typeIs PySem.F.slot_tuple_iterator_next (wpAny_call_entry PySem.F.slot_tuple_iterator_next hi.typeIs PySem.F.entry_tuple_iterator_next ?_ (PySem.F.args_tuple_iterator_next_1 _)))
 show wpAny _ _ (field (.ref it) 0 >>= _) _ _ s; refine wpAny_bind (wpAny_field gi di (x:=.ref t) rfl ?_)
 show wpAny _ _ (if (Value.ref t == Value.none)=true then _ else _) _ _ s; rw [if_neg (show ¬ ((Value.ref t == Value.none)=true) from Bool.false_ne_true)]
 show wpAny _ _ (field (.ref it) 1 >>= _) _ _ s; refine wpAny_bind (wpAny_field gi di (x:=.int i 0) rfl ?_)
 show wpAny _ _ (seqItems? (.ref t) >>= _) _ _ s; refine wpAny_bind (wpAny_seqItems gt dt ?_)
 simp only [Int.toNat_natCast,hx]
 have hn:∀ f,(s.heap.update it (Obj.mapFields f)).get? it=some (Obj.mapFields f oi):=fun f=>Heap.get?_update_self _ gi (Obj.isFreed_of_fields (Obj.data_mapFields di _))
 refine wpAny_bind (wpAny_setField gi di (by simp) (wpAny_pure ⟨x,rfl,wpAny_pure (hQ _ ⟨_,hn _,(Obj.cls_mapFields ..).trans ci,?_⟩ (Heap.SameBut.update ..))⟩))
 rw [Obj.data_mapFields di]; simp [rawInt]
theorem nextT_end {it t:Addr} {i:Nat} {its:Array Value} {Q:Value→Shared→Prop} (hh:A.handled=none) (hi:s.heap.IsTupleIter it t i) (ht:s.heap.IsTuple t its) (hx:its[i]?=none)
  (hE:∀ h' e,Heap.ExtBut it s.heap h'→(∃ o,h'.get? e=some o∧o.cls=.type "StopIteration")→E (.ref e) { s with heap:=h' }):wpAny (model prog w) A (Builtin.SmallTypes.nextOf (.ref it)) Q E s:=by
 obtain ⟨oi,gi,ci,di⟩:=id hi
 obtain ⟨ot,gt,_,nt,dt⟩:=ht
 unfold Builtin.SmallTypes.nextOf
 refine wpAny_bind (wpAny_callSpecial?_slot (name:=Str.ofString "__next__") hi.typeIs PySem.F.slot_tuple_iterator_next (wpAny_call_entry PySem.F.slot_tuple_iterator_next hi.typeIs PySem.F.entry_tuple_iterator_next ?_ (PySem.F.args_tuple_iterator_next_1 _)))
 show wpAny _ _ (field (.ref it) 0 >>= _) _ _ s; refine wpAny_bind (wpAny_field gi di (x:=.ref t) rfl ?_)
 show wpAny _ _ (if (Value.ref t == Value.none)=true then _ else _) _ _ s; rw [if_neg (show ¬ ((Value.ref t == Value.none)=true) from Bool.false_ne_true)]
 show wpAny _ _ (field (.ref it) 1 >>= _) _ _ s; refine wpAny_bind (wpAny_field gi di (x:=.int i 0) rfl ?_)
 show wpAny _ _ (seqItems? (.ref t) >>= _) _ _ s; refine wpAny_bind (wpAny_seqItems gt dt ?_)
 simp only [Int.toNat_natCast,hx]
 refine wpAny_bind (wpAny_rule (wpAny_bind (wpAny_setField gi di (by simp) ?_)))
 show wpAny _ _ (newExc (.type "StopIteration") [] >>= _) _ _ _; refine wpAny_bind ?_
 simp only [newExc,newTuple]; refine wpAny_bind (wpAny_newObj_type ?_ (by size_fits))
 refine wpAny_bind (m:=firstArgMember _ _) (wpAny_of_eq (a:=Value.none) (by first | rfl | (simp only [firstArgMember]; rfl)) (wpAny_newObj_type ?_ (by size_fits)))
 simp only [raiseNew]; refine wpAny_bind (wpAny_handled ?_)
 first | rw [show A.in1.handled=none from hh] | rw [hh]
 exact wpAny_bind (wpAny_pure (wpAny_throw (hE _ _ (((Heap.SameBut.update ..).extBut.push _).push _) ⟨_,Heap.get?_push_size _ rfl,rfl⟩)))
end
section
variable {prog:Program} {w:World} {A:Around} {E:Value→Shared→Prop} {s:Shared}
end
section
variable {X:Cx} {elts:List Expr} {k:Nat} {tp:Pos}
end
end L2
namespace L2
open PySem PySem.Spec PyProof.Rows
section
variable {X:Cx} {elts:List Expr} {k:Nat} {tp:Pos}
end
end L2
namespace L2
open PySem PySem.Spec PyProof.Rows
section
variable {prog:Program} {w:World} {A:Around} {E:Value→Shared→Prop} {s:Shared}
theorem tup_ne_it {h:Heap} {t it:Addr} {its:Array Value} {i:Nat} (p:h.IsTuple t its) (q:h.IsTupleIter it t i):t≠it:=fun z=>by
 obtain ⟨o,ho,hc,_⟩:=q
 obtain ⟨o',ho',hc',_⟩:=p
 rw [z,ho] at ho'
 cases ho'
 rw [hc] at hc'
 exact absurd hc' (by decide)
theorem enum_ne_tup {h:Heap} {e it t:Addr} {its:Array Value} {i:Int} {old:Value} (q:IsEnum h e it i old) (p:h.IsTuple t its):e≠t:=fun z=>by
 obtain ⟨o',ho',hc',_⟩:=p
 rw [← z,q] at ho'
 cases ho'
 exact absurd (show Value.type "enumerate"=Value.type "tuple" from hc') (by decide)
theorem drawsT (hh:A.handled=none) {it t:Addr} (hne:t≠it) (its:Array Value):Draws prog w A it [it,t] its.size (fun i v=>its[i]?=some v) (fun i h=>h.IsTupleIter it t i∧h.IsTuple t its) where
 live:=fun _ _ st=>by
  obtain ⟨⟨o,ho,_⟩,_⟩:=st
  exact ⟨o,ho⟩
 frame:=fun _ _ _ st hk=>⟨st.1.at fun o e=>hk it (by simp) o e,st.2.at fun o e=>hk t (by simp) o e⟩
 item:=fun i s Q E hi st hQ=>nextT_item st.1 st.2 (x:=its[i]) (by simp [hi]) fun h' j sb=>hQ _ h' s.toks (by simp [hi]) ⟨j,st.2.extBut sb.extBut hne⟩ sb
 done:=fun s Q E st hE=>nextT_end hh st.1 st.2 (by simp) hE
abbrev et1 (h:Heap) (t:Addr):Heap:=h.push { cls:=.type "tuple_iterator",data:=.fields #[.ref t,.int 0 0] }
abbrev et2 (h:Heap) (t:Addr):Heap:=(et1 h t).push { cls:=.type "enumerate",data:=.fields #[.none,.bool false,.ref h.objs.size,rawInt 0,.none,.none] }
theorem enumT_new (t:Addr) (its:Array Value) :
  Meets (Builtin.«enumerate.__new__» ⟨[.type "enumerate",.ref t],[]⟩) (fun _ R s=>s.heap.IsTuple t its∧R (.ok (.ret (.ref (et1 s.heap t).objs.size))) { s with heap:=et2 s.heap t }):=
 .of_wp fun prog w A R s h=>by
  obtain ⟨hp,g,d,tk,os⟩:=s; obtain ⟨g1,h⟩:=h
  have hsub:=sub_enumerate
  have a1:Heap.IsTuple (Shared.heap ⟨hp,g,d,tk,os⟩) t its:=g1
  obtain ⟨⟨oc,od,odt,osl⟩,hl,hc,n,hd⟩:=id g1
  replace hc:oc=.type "tuple":=hc
  replace hd:odt=.seq its n:=hd
  subst hc hd
  wp_walk using AutoSeq1.wpAny_loadPart' hl
  refine wpAny_stack_any fun st=>wpAny_pure ?_
  split
  ·rename_i c _ _ _ _ _
   cases (c == Value.type "enumerate")
   ·wp_walk using AutoSeq1.wpAny_loadPart' hl,wpAny_pyIter_tuple a1
    exact ⟨_,rfl,h⟩
   ·wp_walk using AutoSeq1.wpAny_loadPart' hl,wpAny_pyIter_tuple a1
    exact ⟨_,rfl,h⟩
  ·wp_walk using AutoSeq1.wpAny_loadPart' hl,wpAny_pyIter_tuple a1
   exact ⟨_,rfl,h⟩
theorem call_enumT {t:Addr} {its:Array Value} {Q:Value→Shared→Prop} (g1:s.heap.IsTuple t its)
  (h:∀ h',IsEnum h' (s.heap.objs.size + 1) s.heap.objs.size 0 .none→h'.IsTupleIter s.heap.objs.size t 0→(∀ c o,s.heap.get? c=some o→h'.get? c=some o)→Q (.ref (s.heap.objs.size + 1)) { s with heap:=h' }) :
  wpAny (model prog w) A (call (.type "enumerate") [.ref t]) Q E s:=by
 refine callType_new PySem.F.called_enumerate (by decide) (PySem.F.typeCall_enumerate_1 _) (PySem.F.newCall_enumerate_1 _) (fun obj=>PySem.F.args_object_init_2 obj _) PySem.F.entry_enumerate_new (enumT_new t its) ⟨g1,?_⟩
 have n1:(et1 s.heap t).objs.size=s.heap.objs.size + 1:=Heap.size_push ..
 have q2:(et2 s.heap t).get? (et1 s.heap t).objs.size=some _:=Heap.get?_push_size _ rfl
 have q1:(et2 s.heap t).get? s.heap.objs.size=some _:=Heap.get?_push_of_some _ (Heap.get?_push_size _ rfl)
 show _∧_
 rw [n1] at q2
 rw [n1]
 exact ⟨⟨_,q2,rfl⟩,h _ q2 ⟨_,q1,rfl,rfl⟩ fun c o q=>Heap.get?_push_of_some _ (Heap.get?_push_of_some _ q)⟩
end
def Itet (K:PySem.W.Frag) (a:Addr):It:=
 ⟨fun i H=>∃ xs x,SqT K H a xs∧xs[i]?=some x,fun i H v H'=>∃ T x,(∀ xs,SqT K H a xs→xs[i]?=some x)∧H T=none∧v=.ref T∧H'=upd H T (.tup [.int (i:Nat),x]),fun i H=>∃ xs,SqT K H a xs∧xs.length=i⟩
theorem turn_enumT {P:Program} {w:World} {K:PySem.W.Frag} {elts:List Expr} {k:Nat} {tp:Pos} (l e it:Addr) (hei:e≠it):Turn P w K (.Tuple elts k tp) (Itet K l) [e,it] e (fun i h=>(∃ old,IsEnum h e it ((i:Nat):Int) old)∧h.IsTupleIter it l i) where
 mem:=by simp
 obj:=fun i h st b hb=>by
  obtain ⟨⟨old,he⟩,o,ho,hc,hd⟩:=st
  simp only [List.mem_cons,List.not_mem_nil,or_false] at hb
  rcases hb with rfl | rfl
  ·exact ⟨_,he,fun v z=>by cases z⟩
  ·exact ⟨o,ho,fun v z=>by rw [hd] at z; cases z⟩
 keep:=fun i h h' st kp=>⟨⟨_,kp e (by simp) _ st.1.choose_spec⟩,st.2.at fun o q=>kp it (by simp) o q⟩
 item:=by
  intro X hP hw hK hc i pins s σ H E I hf st hg
  subst hP hw hK
  obtain ⟨xs,x,hq,hx⟩:=hg
  obtain ⟨its,rv,p,hz⟩:=I.tuple hq
  obtain ⟨u,hu,ru⟩:=rv.get hx
  obtain ⟨⟨old,he⟩,hit⟩:=st
  have hlt:∀ b∈[e,it],b≠s.heap.objs.size:=fun b hb z=>by
   simp only [List.mem_cons,List.not_mem_nil,or_false] at hb
   rcases hb with rfl | rfl
   ·exact absurd (z▸Heap.lt_size he) (Nat.lt_irrefl _)
   ·obtain ⟨_,ho,_⟩:=hit
    exact absurd (z▸Heap.lt_size ho) (Nat.lt_irrefl _)
  have fr:H s.heap.objs.size=none:=I.hok.fresh (Nat.le_refl _)
  have p':s.heap.IsTuple l its.toArray:=p
  have hlen:=rv.length
  have hil:=(List.getElem?_eq_some_iff.mp hx).1
  refine wpAny_pyNext_enum_itemD (drawsT (show X.A.in1.handled=none from I.ok.hd hc) (tup_ne_it p' hit) its.toArray) he ⟨hit,p'⟩ (by rw [List.size_toArray]; omega) hei (by
   simp only [List.mem_cons,List.not_mem_nil,or_false,not_or]
   exact ⟨hei,enum_ne_tup he p'⟩) fun y h' tk hy ho hit2 hT hsz hk=>?_
  have hit':=hit2.1
  have ey:y=u:=by
   rw [List.getElem?_toArray,hu] at hy
   exact (Option.some.inj hy).symm
  subst ey
  have I1:Inv X pins σ H { s with heap:=h',toks:=tk + 1 }:=I.turnedL (wr:=[e,it]) (fun b o hb q=>hk b o (fun z=>hb (by simp [z])) (fun z=>hb (by simp [z])) q) hf
  have I2:Inv X pins σ (upd H s.heap.objs.size (.tup [.int (i:Nat),x])) { s with heap:=h',toks:=tk + 1 }:=I.tracked I1 (Nat.le_refl _) ⟨by show 2≤sizeLine; decide,[.int i tk,y],.cons ⟨_,rfl⟩ (.cons ru .nil),⟨_,hT,rfl,_,rfl⟩⟩
  have hf2:∀ b∈[e,it],FpOk X pins (upd H s.heap.objs.size (.tup [.int (i:Nat),x])) b:=fun b hb=>by
   obtain ⟨f0,f1,f2,f3,f4,f5⟩:=hf b hb
   exact ⟨by rw [upd_ne (hlt b hb)]; exact f0,f1,f2,f3,f4,f5⟩
  refine ⟨_,rfl,wpAny_letOwnedTupleGo_enum ho fun h'' he' hs'=>?_⟩
  refine ⟨.ref s.heap.objs.size,_,I2.turnedL (wr:=[e]) (t':=tk + 1) (fun b o hb q=>(hs'.2 b (fun z=>hb (by simp [z]))).trans q) (fun b hb=>hf2 b (by rw [List.mem_singleton.mp hb]; simp)),rfl,⟨_,x,fun ys hy=>by rw [I.tuple_inj hy hq]; exact hx,fr,rfl,rfl⟩,⟨⟨_,by simpa using he'⟩,hit'.at fun o q=>(hs'.2 it hei.symm).trans q⟩,fun b hb=>(hf2 b hb).1⟩
 done:=by
  intro X hP hw hK hc i pins s σ H E I hf st hg
  subst hP hw hK
  obtain ⟨xs,hq,hx⟩:=hg
  obtain ⟨its,rv,p,hz⟩:=I.tuple hq
  have hl:=rv.length
  obtain ⟨⟨old,he⟩,hit⟩:=st
  have p':s.heap.IsTuple l its.toArray:=p
  have hsz:its.toArray.size=i:=by rw [List.size_toArray]; omega
  have D:=drawsT (prog:=X.prog) (w:=X.w) (show X.A.in1.handled=none from I.ok.hd hc) (tup_ne_it p' hit) its.toArray
  rw [hsz] at D
  exact wpAny_pyNext_enum_endD D he ⟨hit,p'⟩ fun h' eb=>⟨rfl,I.turnedL (wr:=[it]) (t':=s.toks) (fun b o hb q=>eb b o (fun z=>hb (by simp [z])) q) (fun b hb=>hf b (by rw [List.mem_singleton.mp hb]; simp))⟩
 self:=fun _ _ _ _ _ st h=>wpAny_pyIter_enum st.1.choose_spec h
section
variable {X:Cx} {elts:List Expr} {k:Nat} {tp:Pos}
def iEnumT (K:PySem.W.Frag) (ta:TA):TI:=fun σ H R=>ta σ H fun vs H1=>∃ a,vs=[.ref a]∧(∃ xs,SqT K H1 a xs)∧R (Itet K a) H1
theorem pi_enumT {a:Expr} {ta:TA} {p pos:Pos} (hg:Gl X "enumerate") (hm:X.mg "enumerate"=none) (ha:PA X [a] ta) (hs:starEach [a] X.env=[(false,eval a X.env)]:=by rfl):PI X (.Tuple elts k tp) (.Call (.Name "enumerate" p) [a] [] pos) (iEnumT X.K ta):=by
 intro pins s σ H R I h
 refine Call_ (ld_blt I hg hm (show bootBuiltins "enumerate"=some (.type "enumerate") by decide +kernel) (PyProof.Rows.callWith_type1 (thn (ha pos pins s σ H _ I h) fun us s1 ⟨vs,H1,I1,r1,q1⟩=>?_) (by rw [hs]; rfl) (by rfl)))
 obtain ⟨a,e,⟨xs,hq⟩,q⟩:=q1
 subst e
 obtain ⟨u,rfl,rx⟩:=vals1 r1
 cases rx
 obtain ⟨its,rv,pl,hz⟩:=I1.tuple hq
 refine call_enumT pl fun h' he hit kp=>?_
 have I2:Inv X pins σ H1 { s1 with heap:=h' }:=I1.kept (t':=s1.toks) kp
 refine wpAny_pyIter_enum he ?_
 refine ⟨s1.heap.objs.size + 1,[s1.heap.objs.size + 1,s1.heap.objs.size],_,_,H1,rfl,I2,turn_enumT a _ _ (Nat.succ_ne_self _),⟨⟨_,he⟩,hit⟩,fun b hb=>?_,q⟩
 simp only [List.mem_cons,List.not_mem_nil,or_false] at hb
 rcases hb with rfl | rfl
 ·exact I1.fpOk (Nat.le_succ _) (I1.hok.fresh (Nat.le_succ _))
 ·exact I1.fpOk (Nat.le_refl _) (I1.hok.fresh (Nat.le_refl _))
theorem qi_enumT {a:Expr} {ta:TA} {p pos:Pos} (hg:Gl X "enumerate") (hm:X.mg "enumerate"=none) (ha:QA X [a] ta) (hs:starEach [a] X.env=[(false,eval a X.env)]:=by rfl):QI X (.Tuple elts k tp) (.Call (.Name "enumerate" p) [a] [] pos) (iEnumT X.K ta):=⟨pi_enumT hg hm ha.h hs⟩
end
theorem for_enumT {K:PySem.W.Frag} {a:Addr} {xs:List V} {g:TG} {tb:TS} {D:Ends} {σ:St} {H:Hp} (Pv:Nat→St→Hp→Prop) (h0:Pv 0 σ H) (hl:∀ i σ H,i≤xs.length→Pv i σ H→SqT K H a xs)
  (hs:∀ i x T σ H,xs[i]?=some x→Pv i σ H→H T=none→g (.ref T) σ (upd H T (.tup [.int (i:Nat),x])) fun σ2 H2=>tb { D with nx:=Pv (i + 1),ct:=Pv (i + 1),bk:=D.nx } σ2 H2) (hd:∀ σ H,Pv xs.length σ H→D.nx σ H) :
  ∃ W:Nat→Nat→St→Hp→Prop,(∃ m,W 0 m σ H)∧∀ i m σ H,W i m σ H→
   ((Itet K a).stop i H∧D.nx σ H)∨((Itet K a).go i H∧∃ N:St→Hp→Prop,(∀ σ' H',N σ' H'→∃ m',m' < m∧W (i + 1) m' σ' H')∧∀ x H',(Itet K a).yld i H x H'→g x σ H' fun σ2 H2=>tb { D with nx:=N,ct:=N,bk:=D.nx } σ2 H2):=by
 refine ⟨fun i m σ H=>m=xs.length - i∧i≤xs.length∧Pv i σ H,⟨xs.length,by simp,Nat.zero_le _,h0⟩,?_⟩
 rintro i m σ H ⟨rfl,hi,p⟩
 have q:=hl i σ H hi p
 by_cases hlt:i < xs.length
 ·refine .inr ⟨⟨xs,xs[i],q,by simp [hlt]⟩,Pv (i + 1),fun σ' H' p'=>⟨xs.length - (i + 1),by omega,rfl,hlt,p'⟩,fun v H' y=>?_⟩
  obtain ⟨T,x,hx,hT,rfl,rfl⟩:=y
  exact hs i x T σ _ (hx xs q) p hT
 ·have e:i=xs.length:=by omega
  subst e
  exact .inl ⟨⟨xs,q,rfl⟩,hd σ H p⟩
end L2
namespace L2
open PySem PySem.Spec PyProof.Rows
section
variable {prog:Program} {w:World} {A:Around} {E:Value→Shared→Prop} {s:Shared}
end
end L2
namespace L2
open PySem PySem.Spec PyProof.Rows
section
variable {prog:Program} {w:World} {A:Around} {E:Value→Shared→Prop} {s:Shared}
end
section
variable {prog:Program} {w:World} {A:Around} {E:Value→Shared→Prop} {s:Shared}
end
section
variable {M:Model} {A:Around} {E:Value→Shared→Prop} {s:Shared} {env:Env}
end
section
variable {X:Cx} {elts:List Expr} {k:Nat} {tp:Pos}
end
end L2
namespace L2
open PySem PySem.Spec PyProof.Rows PySem.W
section
variable (key:Nat→Int)
variable {key}
end
section
variable {prog:Program} {w:World} {A:Around} {E:Value→Shared→Prop} {s:Shared}
end
end L2
namespace L2
open PySem PySem.Spec PyProof.Rows PySem.W
section
variable {key:Nat→Int}
end
section
variable {prog:Program} {w:World} {A:Around} {E:Value→Shared→Prop} {s:Shared}
end
end L2
namespace L2
open PySem PySem.Spec PyProof.Rows
section
variable {prog:Program} {w:World} {A:Around} {R:Result→Shared→Prop} {I:Addr} {fp wr:List Addr} {n:Nat} {P:Nat→Value→Prop} {St:Nat→Heap→Prop} {kw:List (Str×Value)}
end
section
variable {prog:Program} {w:World} {A:Around} {E:Value→Shared→Prop} {s:Shared}
end
end L2
namespace L2
open PySem PySem.Spec PyProof.Rows
section
variable {κ:Type} [DecidableEq κ]
end
theorem kV_is {P:Program} {w:World} {k:Key} {u:Value} (r:RelV (kV k) u):(mixKind P w).is k u=true:=by
 cases k with
 | inl i=>obtain ⟨t,e⟩:=(show ∃ t,u=Value.int i t from r); subst e; exact mixKind_int P w i t
 | inr x=>obtain ⟨t,e⟩:=(show ∃ t,u=Value.str x t from r); subst e; exact mixKind_str P w x t
theorem items_are {P:Program} {w:World}:∀ {ks:List Key} {us:List Value},Vals (ks.map kV) us→ItemsAre (mixKind P w) ks us
 | [],_,r=>by rw [List.map_nil] at r; cases r; exact .nil
 | k::ks,_,r=>by
  rw [List.map_cons] at r
  cases r with
  | cons h t=>exact .cons (kV_is h) (items_are t)
section
variable {P:Program} {w:World} {H:Hp} {h:Heap} {a:Addr}
end
section
variable {X:Cx} {pins:List (Addr×Obj)} {σ:St} {H:Hp} {s:Shared} {a:Addr} {y v:V} {u r:Value} {o:Option V} {A:Around} {E:Value→Shared→Prop}
end
section
variable {X:Cx} {pins:List (Addr×Obj)} {σ:St} {H:Hp} {s:Shared} {a:Addr} {kvs:List (Key×V)} {k:Key} {u:Value} {A:Around} {E:Value→Shared→Prop}
end
section
variable {X:Cx} {o i e value:Expr} {pos pos' tpos:Pos} {td ty tv:TE}
end
section
variable {X:Cx} {pos:Pos}
end
end L2
namespace L2
open PySem PySem.Spec PyProof.Rows
section
variable {X:Cx} {o i value:Expr} {pos pos':Pos} {td ty tv:TE}
end
def rIndexD (K:PySem.W.Frag):V→List V→Hp→VK→Prop:=fun x vs H Q=>∃ (l:Addr) (xs:List V) (y:V) (d:PyData) (ds:List PyData) (j:Nat),x=.ref l∧vs=[y]∧H l=some (.lst xs)∧IsDs K H ds xs∧IsD K H d y∧PySem.SeqAt.shaped d=true∧PyData.canLayAll0 ds=true∧
 (∃ e,ds[j]?=some e∧PyData.eqv e d=true)∧(∀ m e,m < j→ds[m]?=some e→PyData.eqv e d=false)∧Q (.int (j:Nat)) H
theorem mt_indexD {X:Cx} (hu:X.A.units + 80 < cLine):MtM X "list.index" (rIndexD X.K):=by
 intro pins s σ H x vs v us Q I rx rv h
 obtain ⟨l,xs,y,d,ds,j,rfl,rfl,hH,hds,hd,sd,hc,⟨e0,hj,he0⟩,hno,q⟩:=h
 cases rx
 obtain ⟨u,rfl,ru⟩:=rv.one
 obtain ⟨z,its,n,r,hl,e⟩:=I.lstM hH
 obtain ⟨as,ra⟩:=IsDs.reads I ds hds r
 obtain ⟨bs,rb⟩:=IsD.reads I d hd ru
 have hmap:=PySem.SeqAt.readsAll_map ds its as hc ra
 have hdep:=PySem.SeqAt.depth_of_shaped sd
 have hjl:j < its.length:=by
  have h1:=(List.getElem?_eq_some_iff.mp hj).1
  rw [← hmap,List.length_map] at h1
  exact h1
 have hat:∀ m (hm:m < its.length),ds[m]?=some (PySem.SeqAt.readOf s.heap its[m]):=fun m hm=>by
  rw [← hmap,List.getElem?_map,List.getElem?_eq_getElem hm]
  rfl
 have hz2:=line63
 refine call_meets F.slot_list_index ⟨_,e,rfl⟩ F.entry_list_index (F.args_list_index_2 _ _)
  (PySem.SeqAt.list_indexAt l its.toArray n _ _ u (fun y=>PyData.eqv (PySem.SeqAt.readOf s.heap y) d) j (by rw [List.size_toArray]; exact hjl) (by omega) ?_ ?_) ⟨e,?_,⟨.int (j:Nat),H,I.tok _,⟨_,rfl⟩,q⟩⟩
 ·have h2:=hat j hjl
  rw [hj] at h2
  cases h2
  simpa using he0
 ·intro m hm hmj
  rw [List.size_toArray] at hm
  simpa using hno m _ hmj (hat m hm)
 ·refine PySem.SeqAt.items_eqAt (by simpa using ra) rb hc (PySem.SeqAt.canLay_of_shaped sd) ?_
  first | omega | (show X.A.units + 1 + _ < cLine; omega) | (show X.A.units + 1 + 1 + _ < cLine; omega)
end L2
namespace L2
open PySem PySem.Spec PyProof.Rows
section
variable {X:Cx} {o e:Expr} {es:List Expr} {to:TE} {t:TA} {apos cpos:Pos}
end
end L2
namespace L2
open PySem PySem.Spec PyProof.Rows
end L2
namespace L2
open PySem PySem.Spec PyProof.Rows
section
variable {prog:Program} {w:World} {A:Around} {E:Value→Shared→Prop} {s:Shared}
theorem entry_set_and:entryFor table "set.__and__"=some Builtin.«frozenset.__and__»:=entryFor_alias (id':="frozenset.__and__") (by kernel_rfl) rfl (by decide +kernel) (by kernel_rfl)
theorem pick_perm {α:Type} (next:Nat→Nat) (xs:Array α):(pickOrder next xs).toList.Perm xs.toList:=by
 have key:∀ (fuel k:Nat) (left:List α) (out:Array α),left.length≤fuel→(pickOrder.go next fuel k left out).toList.Perm (out.toList++left):=by
  intro fuel
  induction fuel with
  | zero=>
   intro k left out h
   have:left=[]:=List.length_eq_zero_iff.mp (Nat.le_zero.mp h)
   subst this
   unfold pickOrder.go
   simp
  | succ fuel ih=>
   intro k left out h
   unfold pickOrder.go
   cases hl:left[next k % left.length]? with
   | none=>
    dsimp only
    cases left with
    | nil=>simp
    | cons y r=>
     have:=Nat.mod_lt (next k) (show 0 < (y::r).length by simp)
     rw [List.getElem?_eq_getElem this] at hl
     cases hl
   | some x=>
    dsimp only
    obtain ⟨hlt,hx⟩:=List.getElem?_eq_some_iff.mp hl
    refine (ih (k + 1) _ _ (by rw [List.length_eraseIdx_of_lt hlt]; omega)).trans ?_
    rw [Array.toList_push,List.append_assoc]
    refine List.Perm.append_left _ ?_
    rw [List.eraseIdx_eq_take_drop_succ]
    have e:left=left.take (next k % left.length)++x::left.drop (next k % left.length + 1):=by
     conv=>lhs; rw [← List.take_append_drop (next k % left.length) left,List.drop_eq_getElem_cons hlt,hx]
    have p:=(List.perm_middle (a:=x) (l₁:=left.take (next k % left.length)) (l₂:=left.drop (next k % left.length + 1))).symm
    rw [← e] at p
    exact p
 exact (key xs.size 0 xs.toList #[] (by simp)).trans (by simp)
theorem quiet_ints {sets:List Addr} {Q:Bool→Shared→Prop} (hs:∀ a∈sets,∃ (S:Int→Bool) (n:Nat),s.heap.SetOf (intKind prog w) a S n) (h:Q true s):wpAny (model prog w) A (setsQuiet sets) Q E s:=by
 unfold setsQuiet
 refine wpAny_bind (wpAny_forIn_list _ (fun rest b s'=>b.1=none∧s'=s∧∀ a∈rest,a∈sets) _ ?_ ?_ _ _ ⟨rfl,rfl,fun a ha=>ha⟩)
 ·rintro a rest b s1 ⟨hb,e1,hr⟩
  rw [e1]
  obtain ⟨S,n,o,es,ep,t,ho,hex,hd,hel,hm,hsz,hf,hn⟩:=hs a (hr a (List.mem_cons_self ..))
  refine wpAny_bind (wpAny_setEntries_of ho hd hf ?_)
  refine wpAny_bind (PySem.MeetsSeq2.wpAny_forIn_array _ (fun rest b s'=>b.1=none∧s'=s∧∀ e∈rest,e∈es.toList) _ ?_ ?_ _ _ ⟨rfl,rfl,fun e he=>he⟩)
  ·rintro e rest' b' s2 ⟨hb',e2,he⟩
   rw [e2]
   obtain ⟨⟨k,hk,_⟩,_⟩:=hel e (he e (List.mem_cons_self ..))
   obtain ⟨t',ht'⟩:=Value.isInt_shape hk
   obtain ⟨e1',e2'⟩:=e
   simp only at ht'
   subst ht'
   exact wpAny_pure ⟨rfl,rfl,fun e h=>he e (List.mem_cons_of_mem _ h)⟩
  ·rintro b' s2 ⟨hb',e2,_⟩
   rw [e2]
   obtain ⟨b1,b2⟩:=b'
   simp only at hb'
   subst hb'
   exact wpAny_pure ⟨rfl,rfl,fun a h=>hr a (List.mem_cons_of_mem _ h)⟩
 ·rintro b s1 ⟨hb,e1,_⟩
  rw [e1]
  obtain ⟨b1,b2⟩:=b
  simp only at hb
  subst hb
  exact wpAny_pure h
theorem fits_flags {t:SetTable} {n:Nat} (x y:Bool) (h:t.fits n=true):({ t with led:=x,plain:=y }:SetTable).fits n=true:=by
 cases t
 exact h
theorem walk_unseen {a p r:Addr} {S S' T:Int→Bool} {n n' m:Nat} {Q:Array (Int×Value)→Shared→Prop} (hA:s.heap.SetOf (intKind prog w) a S n) (hP:s.heap.SetOf (intKind prog w) p S' n') (hR:s.heap.SetOf (intKind prog w) r T m)
  (h:∀ (es:Array (Int×Value)) (h':Heap),ElemsOf (intKind prog w) es.toList→(∀ k,S k=true↔∃ e∈es.toList,(intKind prog w).is k e.2=true)→es.size < scanBound→Heap.SameBut r s.heap h'→h'.SetOf (intKind prog w) r T m→Q es { s with heap:=h' }) :
  wpAny (model prog w) A (setWalkUnseen a [p,r] (some r)) Q E s:=by
 obtain ⟨o,es,ep,t,ho,hex,hd,hel,hm,hsz,hf,hn⟩:=id hA
 have same:Heap.SameBut r s.heap s.heap:=⟨rfl,fun _ _=>rfl⟩
 have stay:∀ es':Array (Int×Value),es'.toList.Perm es.toList→Q es' s:=fun es' hp=>by
  refine h es' s.heap (fun e he=>hel e (hp.mem_iff.mp he)) (fun k=>?_) ?_ same hR
  ·rw [hm k]
   exact ⟨fun ⟨e,h1,h2⟩=>⟨e,hp.mem_iff.mpr h1,h2⟩,fun ⟨e,h1,h2⟩=>⟨e,hp.mem_iff.mp h1,h2⟩⟩
  ·have:=hp.length_eq
   simp only [Array.length_toList] at this
   rw [this]
   exact hsz
 have walk:(w.params.followText "set-order"=true∨(t.led=true∧t.plain=true)∨es.size≤1)→wpAny (model prog w) A (setWalk a) Q E s:=fun hc=>by
  unfold setWalk
  refine wpAny_bind (wpAny_setState_of ho hd hf ?_)
  unfold setsByText
  refine wpAny_bind (wpAny_bind (wpAny_askSetting (wpAny_pure ?_)))
  show wpAny _ _ (if w.params.followText "set-order"=true then _ else _) Q E s
  by_cases hbt:w.params.followText "set-order"=true
  ·rw [if_pos hbt]
   exact wpAny_bind (wpAny_askSetting (wpAny_pure (stay _ (pick_perm _ _))))
  ·rw [if_neg hbt]
   show wpAny _ _ (if (!t.plain && decide (es.size > 1))=true then _ else _) Q E s
   rw [if_neg (by rcases hc with z | z | z; exact absurd z hbt; simp [z.2]; simp; omega)]
   have nl:(!t.led && decide (es.size > 1))=false:=by
    rcases hc with z | z | z
    ·exact absurd z hbt
    ·simp [z.1]
    ·simp; omega
   refine wpAny_bind ?_
   show wpAny _ _ (if (!t.led && decide (es.size > 1))=true then _ else _) _ E s
   rw [nl]
   exact wpAny_pure (wpAny_pure (stay es (List.Perm.refl _)))
 unfold setWalkUnseen
 refine wpAny_bind (wpAny_setState_of ho hd hf ?_)
 unfold setsByText
 dsimp only
 refine wpAny_bind (wpAny_bind (wpAny_askSetting (wpAny_pure ?_)))
 show wpAny _ _ (if (w.params.followText "set-order" || t.led && t.plain || decide (es.size≤1))=true then _ else _) Q E s
 by_cases hc:(w.params.followText "set-order" || t.led && t.plain || decide (es.size≤1))=true
 ·rw [if_pos hc]
  refine walk ?_
  simp only [Bool.or_eq_true,Bool.and_eq_true,decide_eq_true_eq] at hc
  rcases hc with (z | z) | z
  ·exact .inl z
  ·exact .inr (.inl z)
  ·exact .inr (.inr z)
 ·rw [if_neg hc]
  refine wpAny_bind (quiet_ints (fun b hb=>?_) ?_)
  ·simp only [List.mem_cons,List.not_mem_nil,or_false] at hb
   rcases hb with rfl | rfl | rfl
   ·exact ⟨_,_,hA⟩
   ·exact ⟨_,_,hP⟩
   ·exact ⟨_,_,hR⟩
  ·show wpAny _ _ (if (!true)=true then _ else _) Q E s
   rw [if_neg (by decide)]
   refine wpAny_bind (wpAny_rule ?_)
   obtain ⟨o2,es2,ep2,t2,ho2,hex2,hd2,hel2,hm2,hsz2,hf2,hn2⟩:=id hR
   refine wpAny_bind (wpAny_setState_of ho2 hd2 hf2 ?_)
   dsimp only
   by_cases hc2:(t2.led && !t.led || t2.plain && !t.plain)=true
   ·rw [if_pos hc2]
    refine wpAny_bind (wpAny_storeSet_of ho2 hd2 ?_ (fits_of_scanBound hsz2))
    refine wpAny_pure ?_
    have g:=SetOf_store (h:=s.heap) ho2 hex2 hd2 (es':=es2) (t':={ mask:=t2.mask,place:=t2.place,dummies:=t2.dummies,finger:=t2.finger,led:=t2.led && t.led,moves:=t2.moves,plain:=t2.plain && t.plain }) hel2 hm2 hsz2 (fits_flags _ _ hf2)
    refine h es _ hel hm hsz ?_ (hn2▸g.2)
    exact Heap.SameBut.update ..
   ·rw [if_neg hc2]
    exact wpAny_pure (stay es (List.Perm.refl _))
theorem setOf_same {h h':Heap} {a r:Addr} {S:Int→Bool} {n:Nat} (hS:h.SetOf (intKind prog w) a S n) (hb:Heap.SameBut r h h') (ne:a≠r):h'.SetOf (intKind prog w) a S n:=by
 obtain ⟨o,es,ep,t,ho,rest⟩:=hS
 exact ⟨o,es,ep,t,(hb.2 a ne).trans ho,rest⟩
theorem inter_loop {idn:String} {a p r:Addr} {S S':Int→Bool} {n n':Nat} {Q:Unit→Shared→Prop} (hA:s.heap.SetOf (intKind prog w) a S n) (hP:s.heap.SetOf (intKind prog w) p S' n') (hR:s.heap.SetOf (intKind prog w) r (fun _=>false) 0) (na:a≠r) (np:p≠r)
  (h:∀ (h':Heap) (L:List Int),L.Nodup→(∀ k,k∈L↔S k=true∧S' k=true)→h'.SetOf (intKind prog w) r (fun k=>L.any (· == k)) L.length→Heap.SameBut r s.heap h'→Q () { s with heap:=h' }) :
  wpAny (model prog w) A (do
   let was ← setEpoch a
   for (h,x) in ← setWalkUnseen a [p,r] (some r) do
    holding [x] do
     if (← setFind p x h).isSome then
      let _ ← setAddHashed r x h
    Builtin.Frozenset.unchanged idn a was) Q E s:=by
 obtain ⟨o,es0,ep,t,ho,hex,hd,hel0,hm0,hsz0,hf,hn⟩:=id hA
 refine wpAny_bind (wpAny_setEpoch_of ho hd hf ?_)
 refine wpAny_bind (walk_unseen hA hP hR fun es h1 hel hm hsz hsb hR1=>?_)
 have hb:∀ e∈es.toList,e∈es.toList:=fun _ h=>h
 refine wpAny_bind (PySem.MeetsSeq2.wpAny_forIn_array _ (fun rest _ s'=>∃ (h':Heap) (L:List Int) (done:List (Int×Value)),s'={ s with heap:=h' }∧Heap.SameBut r s.heap h'∧h'.SetOf (intKind prog w) r (fun k=>L.any (· == k)) L.length∧L.Nodup∧L.length≤done.length∧done++rest=es.toList∧∀ k,k∈L↔(∃ e∈done,(intKind prog w).is k e.2=true)∧S' k=true) _ ?_ ?_ _ _ ⟨h1,[],[],rfl,hsb,hR1,List.nodup_nil,Nat.le_refl _,rfl,fun k=>by simp⟩)
 ·rintro ⟨hs,x⟩ rest _ s' ⟨h',L,done,rfl,hsb',hR',hnd,hll,hdn,hmem⟩
  have hee:(hs,x)∈es.toList:=by rw [← hdn]; simp
  obtain ⟨⟨k,hk,hh⟩,hsc⟩:=hel (hs,x) hee
  simp only at hk hh hsc
  subst hh
  have hP':=setOf_same hP hsb' np
  have ho':h'.get? a=some o:=(hsb'.2 a na).trans ho
  have hdl:done.length < es.size:=by
   have:=congrArg List.length hdn
   simp at this
   omega
  have key:∀ k':Int,(∃ e∈done++[((intKind prog w).hash k,x)],(intKind prog w).is k' e.2=true)↔(∃ e∈done,(intKind prog w).is k' e.2=true)∨k'=k:=fun k'=>by
   constructor
   ·rintro ⟨e,he,hi⟩
    rcases List.mem_append.mp he with z | z
    ·exact .inl ⟨e,z,hi⟩
    ·rw [List.mem_singleton.mp z] at hi
     exact .inr ((intKind prog w).inj _ _ _ hi hk)
   ·rintro (⟨e,he,hi⟩ | rfl)
    ·exact ⟨e,List.mem_append_left _ he,hi⟩
    ·exact ⟨_,List.mem_append_right _ (List.mem_singleton.mpr rfl),hk⟩
  refine wpAny_bind (wpAny_holding (wpAny_bind (wpAny_setFind_of (s:={ s with heap:=h' }) hk hsc hP' fun rr hrr=>?_)))
  have after:∀ (h2:Heap) (L2:List Int),Heap.SameBut r h' h2→h2.SetOf (intKind prog w) r (fun k=>L2.any (· == k)) L2.length→L2.Nodup→L2.length≤done.length + 1→(∀ k',k'∈L2↔(∃ e∈done++[((intKind prog w).hash k,x)],(intKind prog w).is k' e.2=true)∧S' k'=true)→∃ (h':Heap) (L:List Int) (done:List (Int×Value)),({ s with heap:=h2 }:Shared)={ s with heap:=h' }∧Heap.SameBut r s.heap h'∧h'.SetOf (intKind prog w) r (fun k=>L.any (· == k)) L.length∧L.Nodup∧L.length≤done.length∧done++rest=es.toList∧∀ k,k∈L↔(∃ e∈done,(intKind prog w).is k e.2=true)∧S' k=true:=by
   intro h2 L2 hb2 hS2 hn2 hl2 hm2
   exact ⟨h2,L2,done++[((intKind prog w).hash k,x)],rfl,⟨hb2.1.trans hsb'.1,fun b nb=>(hb2.2 b nb).trans (hsb'.2 b nb)⟩,hS2,hn2,by simpa using hl2,by rw [← hdn]; simp,hm2⟩
  have fin:∀ (R:ForInStep PUnit→Shared→Prop) (h2:Heap),Heap.SameBut r h' h2→R (.yield PUnit.unit) { s with heap:=h2 }→wpAny (model prog w) A (do
    Builtin.Frozenset.unchanged idn a ep
    pure (ForInStep.yield PUnit.unit)) R E { s with heap:=h2 }:=by
   intro R h2 hb2 hR2
   unfold Builtin.Frozenset.unchanged
   have ho2:h2.get? a=some o:=(hb2.2 a na).trans ho'
   refine wpAny_bind (wpAny_bind (wpAny_setEpoch_of (s:={ s with heap:=h2 }) ho2 hd hf ?_))
   rw [if_neg (by simp)]
   exact wpAny_pure (wpAny_pure hR2)
  by_cases hS:S' k=true
  ·rw [if_pos (hrr.trans hS)]
   refine wpAny_bind (wpAny_setAddHashed_of (s:={ s with heap:=h' }) hk hsc hR' (by omega) fun h2 hb2 hS2=>wpAny_pure ?_)
   refine fin _ h2 hb2 (after h2 (if L.any (· == k)=true then L else L++[k]) hb2 ?_ ?_ ?_ fun k'=>?_)
   ·refine PyProof.Rows.SetOf_congr hS2 (fun k'=>?_) ?_
    ·by_cases z:L.any (· == k)=true
     ·rw [if_pos z]
      by_cases e:k'=k
      ·subst e
       rw [z]
       simp
      ·simp [e]
     ·rw [if_neg z,List.any_append]
      by_cases e:k'=k
      ·subst e
       simp
      ·have e':¬ k=k':=fun w=>e w.symm
       simp [e,e']
    ·by_cases z:L.any (· == k)=true
     ·rw [if_pos z,if_pos z]
     ·rw [if_neg z,if_neg z,List.length_append,List.length_singleton]
   ·by_cases z:L.any (· == k)=true
    ·rw [if_pos z]
     exact hnd
    ·rw [if_neg z,List.nodup_append]
     refine ⟨hnd,by simp,fun u hu v hv e=>z ?_⟩
     rw [List.mem_singleton.mp hv] at e
     subst e
     exact List.any_eq_true.mpr ⟨u,hu,by simp⟩
   ·by_cases z:L.any (· == k)=true
    ·rw [if_pos z]
     omega
    ·rw [if_neg z,List.length_append]
     exact Nat.succ_le_succ hll
   ·rw [key k']
    have hz:L.any (· == k)=true↔k∈L:=by simp
    by_cases z:L.any (· == k)=true
    ·rw [if_pos z,hmem k']
     constructor
     ·exact fun ⟨u,v⟩=>⟨.inl u,v⟩
     ·rintro ⟨u | rfl,v⟩
      ·exact ⟨u,v⟩
      ·exact (hmem k').mp (hz.mp z)
    ·rw [if_neg z,List.mem_append,hmem k',List.mem_singleton]
     constructor
     ·rintro (⟨u,v⟩ | rfl)
      ·exact ⟨.inl u,v⟩
      ·exact ⟨.inr rfl,hS⟩
     ·rintro ⟨u | u,v⟩
      ·exact .inl ⟨u,v⟩
      ·exact .inr u
  ·rw [if_neg (by rw [hrr]; exact hS)]
   refine wpAny_pure (fin _ h' ⟨rfl,fun _ _=>rfl⟩ (after h' L ⟨rfl,fun _ _=>rfl⟩ hR' hnd (by omega) fun k'=>?_))
   rw [key k',hmem k']
   constructor
   ·exact fun ⟨u,v⟩=>⟨.inl u,v⟩
   ·rintro ⟨u | rfl,v⟩
    ·exact ⟨u,v⟩
    ·exact absurd v hS
 ·rintro _ s' ⟨h',L,done,rfl,hsb',hR',hnd,hll,hdn,hmem⟩
  rw [List.append_nil] at hdn
  refine wpAny_pure (h h' L hnd (fun k=>?_) hR' hsb')
  rw [hmem k,hdn,← hm k]
theorem set_inst {a:Addr} {S:Int→Bool} {n:Nat} {Q:Bool→Shared→Prop} (hA:s.heap.SetOf (intKind prog w) a S n) (h:Q true s):wpAny (model prog w) A (isInstance (.ref a) (.type "set")) Q E s:=wpAny_isInstance hA.typeIs sub_set_self h
theorem any_set {a:Addr} {S:Int→Bool} {n:Nat} {Q:Bool→Shared→Prop} (hA:s.heap.SetOf (intKind prog w) a S n) (h:Q true s):wpAny (model prog w) A (Builtin.Frozenset.isAnySet (.ref a)) Q E s:=by
 unfold Builtin.Frozenset.isAnySet
 exact wpAny_bind (set_inst hA (wpAny_pure h))
theorem size_set {a:Addr} {S:Int→Bool} {n:Nat} {Q:Nat→Shared→Prop} (hA:s.heap.SetOf (intKind prog w) a S n) (h:Q n s):wpAny (model prog w) A (Builtin.Frozenset.sizeOf a) Q E s:=by
 obtain ⟨o,es,ep,t,ho,hex,hd,hel,hm,hsz,hf,hn⟩:=hA
 subst hn
 exact wpAny_bind (wpAny_setEntries_of ho hd hf (wpAny_pure h))
theorem inter_ints {idn:String} {a p:Addr} {S S':Int→Bool} {n n':Nat} {Q:Value→Shared→Prop} (hA:s.heap.SetOf (intKind prog w) a S n) (hP:s.heap.SetOf (intKind prog w) p S' n') (ne:p≠a)
  (h:∀ (h':Heap) (L:List Int),L.Nodup→(∀ k,k∈L↔S k=true∧S' k=true)→h'.SetOf (intKind prog w) s.heap.objs.size (fun k=>L.any (· == k)) L.length→(∀ b o,s.heap.get? b=some o→h'.get? b=some o)→Q (.ref s.heap.objs.size) { s with heap:=h' }) :
  wpAny (model prog w) A (Builtin.Frozenset.intersection idn a (.ref p)) Q E s:=by
 unfold Builtin.Frozenset.intersection
 rw [if_neg (by simpa using ne)]
 unfold Builtin.Frozenset.baseOf
 refine wpAny_bind (wpAny_bind (set_inst hA (wpAny_pure ?_)))
 refine wpAny_bind (wpAny_newSet_of (knd:=intKind prog w) fun led hR=>?_)
 refine wpAny_bind (wpAny_pure ?_)
 have up:∀ (ob:Obj) (b:Addr) (o:Obj),s.heap.get? b=some o→(s.heap.push ob).get? b=some o:=fun ob b o hb=>Heap.get?_push_of_some _ hb
 have upS:∀ (ob:Obj) {b:Addr} {T:Int→Bool} {m:Nat},s.heap.SetOf (intKind prog w) b T m→(s.heap.push ob).SetOf (intKind prog w) b T m:=fun ob b T m hb=>by
  obtain ⟨o,es,ep,t,ho,rest⟩:=hb
  exact ⟨o,es,ep,t,up ob b o ho,rest⟩
 have hlt:∀ {b:Addr} {T:Int→Bool} {m:Nat},s.heap.SetOf (intKind prog w) b T m→b≠s.heap.objs.size:=fun hb=>by
  obtain ⟨o,es,ep,t,ho,rest⟩:=hb
  exact Nat.ne_of_lt (Heap.lt_size ho)
 have hA1:=upS { cls:=.type "set",dict:=none,data:=.set #[] 0 (.fresh 0 0 led) } hA
 have hP1:=upS { cls:=.type "set",dict:=none,data:=.set #[] 0 (.fresh 0 0 led) } hP
 have na:=hlt hA
 have np:=hlt hP
 have keep:∀ (h':Heap),Heap.SameBut s.heap.objs.size (s.heap.push { cls:=.type "set",dict:=none,data:=.set #[] 0 (.fresh 0 0 led) }) h'→∀ b o,s.heap.get? b=some o→h'.get? b=some o:=fun h' hb b o hbo=>(hb.2 b (Nat.ne_of_lt (Heap.lt_size hbo))).trans (up _ b o hbo)
 generalize s.heap.push { cls:=.type "set",dict:=none,data:=.set #[] 0 (.fresh 0 0 led) }=h1 at hR hA1 hP1 keep ⊢
 refine wpAny_bind (wpAny_holding ?_)
 refine wpAny_bind (any_set (s:={ s with heap:=h1 }) hP1 ?_)
 rw [if_pos rfl]
 refine wpAny_bind (wpAny_pure ?_)
 refine wpAny_bind (size_set (s:={ s with heap:=h1 }) hP1 ?_)
 refine wpAny_bind (size_set (s:={ s with heap:=h1 }) hA1 ?_)
 by_cases hc:n' > n
 ·rw [if_pos hc]
  exact inter_loop (s:={ s with heap:=h1 }) hA1 hP1 hR na np fun h' L hn hm hS hb=>wpAny_pure (h h' L hn hm hS (keep h' hb))
 ·rw [if_neg hc]
  exact inter_loop (s:={ s with heap:=h1 }) hP1 hA1 hR np na fun h' L hn hm hS hb=>wpAny_pure (h h' L hn (fun k=>(hm k).trans And.comm) hS (keep h' hb))
theorem and_sets {a p:Addr} {S S':Int→Bool} {n n':Nat} {Q:Value→Shared→Prop} (hA:s.heap.SetOf (intKind prog w) a S n) (hP:s.heap.SetOf (intKind prog w) p S' n') (ne:p≠a)
  (h:∀ (h':Heap) (L:List Int),L.Nodup→(∀ k,k∈L↔S k=true∧S' k=true)→h'.SetOf (intKind prog w) s.heap.objs.size (fun k=>L.any (· == k)) L.length→(∀ b o,s.heap.get? b=some o→h'.get? b=some o)→Q (.ref s.heap.objs.size) { s with heap:=h' }) :
  wpAny (model prog w) A (binaryOp .BitAnd (.ref a) (.ref p)) Q E s:=by
 refine wpAny_binaryOp_same (op:=.BitAnd) hA.typeIs hP.typeIs PySem.F.fills_set_and PySem.F.slot_set_and ?_
 refine wpAny_call_entry PySem.F.slot_set_and hA.typeIs entry_set_and ?_ (PySem.F.args_set_and_2 _ _)
 show wpAny _ _ (Builtin.«frozenset.__and__» ⟨[.ref a,.ref p],[]⟩) _ _ _
 refine wpAny_bind (m:=Builtin.Frozenset.slot1 "__and__" ⟨[.ref a,.ref p],[]⟩) ?_
 unfold Builtin.Frozenset.slot1 slotArgs
 refine wpAny_bind (wpAny_pure ?_)
 refine wpAny_pure ?_
 refine wpAny_bind (wpAny_bind (any_set hA (any_set hP ?_)))
 rw [if_neg (by decide)]
 refine wpAny_bind (wpAny_pure ?_)
 refine wpAny_bind (inter_ints hA hP ne fun h' L hn hm hS hk=>?_)
 exact wpAny_pure ⟨_,rfl,by simp,h h' L hn hm hS hk⟩
abbrev set0 (led:Bool):Obj:={ cls:=.type "set",dict:=none,data:=.set #[] 0 (.fresh 0 0 led) }
theorem set_call {x:Value} {Q:Value→Shared→Prop} (h:∀ led:Bool,wpAny (model prog w) A.in1.in1 (Builtin.«set.__init__» ⟨[.ref s.heap.objs.size,x],[]⟩) (fun fin s'=>fin=.done (.ret .none)∧Q (.ref s.heap.objs.size) s') E { s with heap:=s.heap.push (set0 led) }) :
  wpAny (model prog w) A (call (.type "set") [x]) Q E s:=by
 obtain ⟨c,tl,m1⟩:=PySem.F.called_set.mro
 have m2:=PySem.F.called_set.made; have m3:=PySem.F.called_set.sub; have m4:=PySem.F.called_set.notType; have m5:=PySem.F.called_set.canCreate
 have m6:=PySem.F.typeCall_set_1 x
 refine wpAny_call (codeAny_of_tree (show wpAny _ _ (callAny (.type "set") _) _ _ _ from wpAny_pure ⟨Code.quiet_builtin _ (by decide +kernel),codeAny_builtin PySem.F.entry_type_call ?_⟩))
 rw [Around.under_plain (weight_type_call_type "set" [x] []) rfl]
 repeat (any_goals (first | assumption | wp_step))
 refine codeAny_mono (code_set_new_1 x (E:=E) (Q₁:=fun ob s1=>∃ led,ob=.ref s.heap.objs.size∧s1={ s with heap:=s.heap.push (set0 led) }) fun led=>⟨led,rfl,rfl⟩) fun r s1 hr=>?_
 match r,hr with
 | .error e,hr=>exact hr
 | .ok (.ret ob),hr=>
  obtain ⟨led,rfl,rfl⟩:=hr
  have hT:Shared.TypeIs { s with heap:=s.heap.push (set0 led) } (.ref s.heap.objs.size) "set":=⟨set0 led,Heap.get?_push_size _ rfl,rfl⟩
  have m7:=PySem.F.called_set.init.lookup; have m8:=PySem.F.called_set.init.bind (.ref s.heap.objs.size)
  repeat (any_goals (first | assumption | wp_step))
  refine codeAny_mono (codeAny_call_builtin (R:=wants (fun r s2=>r=.none∧Q (.ref s.heap.objs.size) s2) E) PySem.F.called_set.init.plain PySem.F.entry_set_init (check_set_init_1 hT ?_)) fun r2 s2 hr2=>?_
  ·refine wpAny_mono (h led) (fun fin s' hf=>?_) fun _ _ h'=>h'
   obtain ⟨rfl,hq⟩:=hf
   exact ⟨rfl,hq⟩
  ·match r2,hr2 with
   | .error e,hr2=>exact hr2
   | .ok (.ret v),hr2=>
    obtain ⟨rfl,hq⟩:=hr2
    repeat (any_goals (first | assumption | wp_step))
   | .ok .next,hr2=>exact hr2.elim
   | .ok .brk,hr2=>exact hr2.elim
   | .ok .cont,hr2=>exact hr2.elim
 | .ok .next,hr=>exact hr.elim
 | .ok .brk,hr=>exact hr.elim
 | .ok .cont,hr=>exact hr.elim
theorem set_tuple {l:Addr} {items:Array Value} {ns:List Int} {Q:Value→Shared→Prop} (hh:A.handled=none) (hl:s.heap.IsTuple l items) (hi:IntsAre items.toList ns) (hb:items.size + 1 < scanBound)
  (h:∀ (h':Heap) (tk n:Nat),h'.SetOf (intKind prog w) s.heap.objs.size (fun k=>ns.any (· == k)) n→(∀ b o,s.heap.get? b=some o→h'.get? b=some o)→Q (.ref s.heap.objs.size) { s with heap:=h',toks:=tk }) :
  wpAny (model prog w) A (call (.type "set") [.ref l]) Q E s:=by
 refine set_call fun led=>?_
 have hlt:l < s.heap.objs.size:=by
  obtain ⟨o,ho,_⟩:=hl
  exact Heap.lt_size ho
 have hl1:(s.heap.push (set0 led)).IsTuple l items:=hl.push _
 have hR:(s.heap.push (set0 led)).SetOf (intKind prog w) s.heap.objs.size (fun _=>false) 0:=⟨set0 led,#[],0,_,Heap.get?_push_size _ rfl,⟨rfl,rfl,rfl⟩,rfl,fun e he=>by simp at he,fun k=>by simp,by decide,rfl,rfl⟩
 have hS:(s.heap.push (set0 led)).get? s.heap.objs.size=some (set0 led):=Heap.get?_push_size _ rfl
 have f1:=PySem.F.sub_tuple_set; have f2:=PySem.F.sub_tuple_frozenset
 have f3:(Value.type "tuple" == Value.type "dict")=false:=by decide
 obtain ⟨o,ho,hc,nl,hd⟩:=id hl1
 obtain ⟨oc,od,odt,osl⟩:=o
 simp only at hc hd
 subst hc hd
 unfold Builtin.«set.__init__» noKeywords Builtin.Frozenset.updateFrom
 generalize hI:pyIter=I0
 wp_walk
 subst hI
 refine wpAny_pyIter_tuple hl1 (wpAny_bind (wpAny_runValue ?_))
 have e1:(s.heap.push (set0 led)).objs.size=s.heap.objs.size + 1:=Heap.size_push ..
 have nf:s.heap.objs.size∉[(s.heap.push (set0 led)).objs.size,l]:=by
  rw [e1]
  intro z
  rcases List.mem_cons.mp z with z | z
  ·exact Nat.ne_of_lt (Nat.lt_succ_self _) z
  ·exact Nat.ne_of_gt hlt (List.mem_singleton.mp z)
 have nI:l≠(s.heap.push (set0 led)).objs.size:=by rw [e1]; exact Nat.ne_of_lt (Nat.lt_succ_of_lt hlt)
 have vals:∀ (i:Nat) (v:Value),items[i]?=some v→∃ t,v=.int ((fun i=>ns.getD i 0) i) t:=fun i v hv=>IntsAre.int_at hi i v (by rw [Array.getElem?_toList]; exact hv)
 have hlen:=IntsAre.length hi
 refine codeAny_set_update_loopS ((Walks.tuple (show A.in1.in1.in1.handled=none by simp [hh]) _ l nI items).toS) s.heap.objs.size nf (fun i=>ns.getD i 0) vals hb (items.size - 0) 0 _ (Nat.sub_zero _▸rfl) (Nat.zero_le _) ⟨⟨_,Heap.get?_push_size _ rfl,rfl,rfl⟩,hl1.push _⟩ ?_ ?_
 ·obtain ⟨o,es,ep,t,ho',rest⟩:=hR
  exact SetOf_congr ⟨o,es,ep,t,Heap.get?_push_of_some _ ho',rest⟩ (fun _=>rfl) rfl
 ·intro s' hm hS'
  obtain ⟨h',g',d',tk',os'⟩:=s'
  obtain rfl:g'=s.gens:=hm.gens
  obtain rfl:d'=s.drawn:=hm.drawn
  obtain rfl:os'=s.os:=hm.os
  refine wpAny_pure (wpAny_pure ⟨rfl,h h' tk' _ (SetOf_congr hS' (fun k=>?_) rfl) fun b o hbo=>?_⟩)
  ·rw [firstMet_any]
   have:(List.range items.size).map (fun i=>ns.getD i 0)=ns:=by
    apply List.ext_getElem
    ·simp at hlen ⊢
     omega
    ·intro i h1 h2
     simp [h2]
   rw [this]
  ·have b1:=Heap.lt_size hbo
   refine hm.heap b o (fun z=>?_) (Heap.get?_push_of_some _ (Heap.get?_push_of_some _ hbo))
   rw [e1] at z
   rcases List.mem_cons.mp z with z | z
   ·exact Nat.ne_of_lt b1 z
   ·exact Nat.ne_of_lt (Nat.lt_succ_of_lt b1) (List.mem_singleton.mp z)
def rAndS:R2:=fun x y H Q=>∃ (a p:Addr) (S S':Int→Bool) (n n':Nat),x=.ref a∧y=.ref p∧p≠a∧H a=some (.set S n)∧H p=some (.set S' n')∧∀ (l:Addr) (T:Int→Bool) (L:List Int),H l=none→L.Nodup→(∀ k,k∈L↔S k=true∧S' k=true)→Q (.ref l) (upd H l (.set T L.length))
end
theorem op_andS {X:Cx}:OpR X (binaryOp .BitAnd) rAndS:=by
 intro pins s σ H x y v u Q I rx ry h
 obtain ⟨a,p,S,S',n,n',rfl,rfl,ne,ha,hp,q⟩:=h
 cases rx
 cases ry
 refine and_sets (show s.heap.SetOf (intKind X.prog X.w) a S n from I.hok a _ ha) (show s.heap.SetOf (intKind X.prog X.w) p S' n' from I.hok p _ hp) ne fun h' L hn hm hS hk=>?_
 exact ⟨.ref s.heap.objs.size,_,I.laid (t':=s.toks) (fun b o e=>hk b o e) (Nat.le_refl _) (show ObjOk X.prog X.w _ h' _ (.set _ _) from hS),rfl,q _ _ L (I.hok.fresh (Nat.le_refl _)) hn hm⟩
def rSetT (K:PySem.W.Frag):List V→Hp→VK→Prop:=fun xs H Q=>∃ (a:Addr) (ns:List Int),xs=[.ref a]∧SqT K H a (ns.map V.int)∧ns.length≤1000∧∀ (l:Addr) (n:Nat),H l=none→Q (.ref l) (upd H l (.set (fun k=>ns.any (· == k)) n))
theorem call_setT {X:Cx} (hc:X.calm=true):CallR X (.type "set") (rSetT X.K):=by
 intro pins s σ H xs us Q I r h
 obtain ⟨a,ns,rfl,hq,h64,q⟩:=h
 obtain ⟨u,rfl,rx⟩:=vals1 r
 cases rx
 obtain ⟨its,r',pl,hz⟩:=I.tuple hq
 have hlen:=r'.length
 rw [List.length_map] at hlen
 refine set_tuple (ns:=ns) (I.ok.hd hc) pl (by simpa using ints_of_vals r') (by rw [List.size_toArray,← hlen]; exact Nat.lt_of_le_of_lt (Nat.succ_le_succ h64) (by decide)) fun h' tk n hS kp=>?_
 exact ⟨.ref s.heap.objs.size,_,I.laid (t':=tk) (fun b o e=>kp b o e) (Nat.le_refl _) (show ObjOk X.prog X.w _ h' _ (.set _ _) from hS),rfl,q _ n (I.hok.fresh (Nat.le_refl _))⟩
end L2
namespace L2
open PySem
theorem orStandIn_led (t:SetTable) (n:Nat):(t.orStandIn n).led=t.led:=by
 unfold SetTable.orStandIn
 split <;> rfl
theorem layNew_led (t:SetTable) (es:Array (Int×Value)) (h:Int) (x:Value):(layNew t es h x).2.1.led=t.led:=by
 unfold layNew
 split
 ·exact orStandIn_led _ _
 ·rfl
theorem laid_led {mask finger moves:Nat} {led plain:Bool} {hs:Array Int} {t:SetTable} {o:Array Nat} (h:SetTable.laid mask finger moves led plain hs=some (t,o)):t.led=led∧t.dummies=#[]∧t.mask=mask:=by
 unfold SetTable.laid at h
 cases e:SetTable.layClean mask hs with
 | none=>rw [e] at h; cases h
 | some owner=>
  rw [e] at h
  cases h
  exact ⟨rfl,rfl,rfl⟩
theorem relayAll_led (t:SetTable) (es:Array (Int×Value)) (n:Nat):(relayAll t es n).2.1.led=t.led:=by
 unfold relayAll
 split
 ·rename_i t' o e
  dsimp only
  split
  ·exact (laid_led e).1
  ·rfl
 ·rfl
structure Rz (t:SetTable):Prop where
 up:t.place.toList.Pairwise (· < ·)
 le:∀ x∈t.place.toList,x≤t.mask
 no:t.dummies=#[]
theorem standIn_rz (t:SetTable) (n:Nat):Rz (t.standIn n):=by
 refine ⟨?_,?_,rfl⟩
 ·show (Array.range n).toList.Pairwise (· < ·)
  rw [Array.toList_range]
  exact List.pairwise_lt_range
 ·show ∀ x∈(Array.range n).toList,x≤4 * n + 4
  rw [Array.toList_range]
  intro x hx
  have:=List.mem_range.mp hx
  omega
theorem fresh_rz (f m:Nat) (l:Bool):Rz (.fresh f m l):=⟨by simp [SetTable.fresh],by simp [SetTable.fresh],rfl⟩
theorem below_go {xs:Array Nat} {j:Nat} (hs:xs.toList.Pairwise (· < ·)):∀ fuel lo hi,hi - lo≤fuel→lo≤hi→hi≤xs.size→(∀ i (h:i < xs.size),i < lo→xs[i] < j)→(∀ i (h:i < xs.size),hi≤i→j≤xs[i])→
  SetTable.below.go xs j fuel lo hi≤xs.size∧(∀ i (h:i < xs.size),i < SetTable.below.go xs j fuel lo hi→xs[i] < j)∧∀ i (h:i < xs.size),SetTable.below.go xs j fuel lo hi≤i→j≤xs[i]
 | 0,lo,hi,hf,hlh,hh,h1,h2=>by
  have e:lo=hi:=by omega
  subst e
  unfold SetTable.below.go
  exact ⟨hh,h1,h2⟩
 | fuel + 1,lo,hi,hf,hlh,hh,h1,h2=>by
  unfold SetTable.below.go
  by_cases hlt:lo < hi
  ·rw [if_pos hlt]
   dsimp only
   have hm:(lo + hi) / 2 < xs.size:=by omega
   have mono:∀ a b (ha:a < xs.size) (hb:b < xs.size),a≤b→xs[a]≤xs[b]:=fun a b ha hb hab=>by
    by_cases e:a=b
    ·subst e
     exact Nat.le_refl _
    ·have:=(List.pairwise_iff_getElem.mp hs) a b (by simpa using ha) (by simpa using hb) (by omega)
     simpa using Nat.le_of_lt this
   by_cases hc:xs.getD ((lo + hi) / 2) j < j
   ·rw [if_pos hc]
    rw [Array.getD_eq_getD_getElem?,Array.getElem?_eq_getElem hm] at hc
    refine below_go hs fuel _ hi (by omega) (by omega) hh (fun i h hi'=>?_) h2
    exact Nat.lt_of_le_of_lt (mono i _ h hm (by omega)) hc
   ·rw [if_neg hc]
    rw [Array.getD_eq_getD_getElem?,Array.getElem?_eq_getElem hm] at hc
    refine below_go hs fuel lo _ (by omega) (by omega) (by omega) h1 (fun i h hi'=>?_)
    exact Nat.le_trans (Nat.le_of_not_lt hc) (mono _ i hm h hi')
  ·rw [if_neg hlt]
   have e:lo=hi:=by omega
   subst e
   exact ⟨hh,h1,h2⟩
theorem below_ok {xs:Array Nat} (hs:xs.toList.Pairwise (· < ·)) (j:Nat):SetTable.below xs j≤xs.size∧(∀ i (h:i < xs.size),i < SetTable.below xs j→xs[i] < j)∧∀ i (h:i < xs.size),SetTable.below xs j≤i→j≤xs[i]:=
 below_go hs xs.size 0 xs.size (by omega) (by omega) (Nat.le_refl _) (fun i _ h=>by omega) fun i h h'=>by omega
theorem slot_empty {t:SetTable} (R:Rz t) {j:Nat} (h:t.slot j=.empty):j∉t.place.toList:=by
 intro hm
 obtain ⟨k,hk,e⟩:=List.mem_iff_getElem.mp hm
 have hk':k < t.place.size:=by simpa using hk
 obtain ⟨b1,b2,b3⟩:=below_ok R.up j
 have ek:t.place[k]=j:=by simpa using e
 have hb:SetTable.below t.place j=k:=by
  rcases Nat.lt_trichotomy (SetTable.below t.place j) k with z | z | z
  ·have:=b3 (SetTable.below t.place j) (by omega) (Nat.le_refl _)
   have h2:=(List.pairwise_iff_getElem.mp R.up) _ k (by simp; omega) hk z
   simp at h2
   omega
  ·exact z
  ·have:=b2 k hk' z
   omega
 unfold SetTable.slot at h
 simp [hb,Array.getElem?_eq_getElem hk',ek] at h
theorem no_dummy {t:SetTable} (R:Rz t) (j:Nat):t.slot j≠.dummy:=by
 have hd:SetTable.has t.dummies j=false:=by
  rw [R.no]
  simp [SetTable.has]
 unfold SetTable.slot
 dsimp only
 rw [hd]
 intro h
 by_cases c:(t.place[SetTable.below t.place j]? == some j)=true
 ·rw [if_pos c] at h
  cases h
 ·rw [if_neg c] at h
  simp at h
structure Pz (t:SetTable) (p:SetTable.Probe):Prop where
 jl:p.j + p.more≤t.mask
 dn:p.dummy=none
theorem start_pz (t:SetTable) (h:Int):Pz t (t.probeStart h):=by
 refine ⟨?_,rfl⟩
 have h1:SetTable.bits h % (t.mask + 1)≤t.mask:=Nat.le_of_lt_succ (Nat.mod_lt _ (Nat.succ_pos _))
 unfold SetTable.probeStart SetTable.runEnd
 dsimp only
 split <;> omega
theorem adv_pz {t:SetTable} {p:SetTable.Probe} (P:Pz t p):Pz t (t.advance p):=by
 have hj:=P.jl
 unfold SetTable.advance
 by_cases hm:p.more > 0
 ·rw [if_pos hm]
  exact ⟨by dsimp only; omega,P.dn⟩
 ·rw [if_neg hm]
  refine ⟨?_,P.dn⟩
  unfold SetTable.leap SetTable.runEnd
  dsimp only
  have h1:(p.i * 5 + 1 + p.perturb / 32) % (t.mask + 1)≤t.mask:=Nat.le_of_lt_succ (Nat.mod_lt _ (Nat.succ_pos _))
  split <;> omega
theorem probe_empty {t:SetTable} (R:Rz t) {g:Nat→Int} {h:Int} {j:Nat} {d:Option Nat}:∀ (fuel:Nat) (p:SetTable.Probe),Pz t p→SetTable.probe.go t g h fuel p=some (.empty j d)→t.slot j=.empty∧d=none∧j≤t.mask
 | 0,p,_,e=>by
  unfold SetTable.probe.go at e
  cases e
 | fuel + 1,p,P,e=>by
  unfold SetTable.probe.go at e
  have hj:=P.jl
  cases hs:t.slot p.j with
  | empty=>
   rw [hs] at e
   simp only [Option.some.injEq,SetTable.Met.empty.injEq] at e
   obtain ⟨rfl,rfl⟩:=e
   exact ⟨hs,P.dn,by omega⟩
  | dummy=>exact absurd hs (no_dummy R _)
  | live i=>
   rw [hs] at e
   dsimp only at e
   by_cases c:(g i == h)=true
   ·rw [if_pos c] at e
    cases e
   ·rw [if_neg c] at e
    exact probe_empty R fuel _ (adv_pz P) e
theorem freeSlot_ok {t:SetTable} (R:Rz t) {h:Int} {j:Nat} {b:Bool} (e:t.freeSlot h=some (j,b)):j∉t.place.toList∧j≤t.mask∧b=false:=by
 unfold SetTable.freeSlot at e
 split at e
 ·rename_i j' d' he
  obtain ⟨h1,h2,h3⟩:=probe_empty R _ _ (start_pz t h) he
  subst h2
  simp at e
  obtain ⟨rfl,rfl⟩:=e
  exact ⟨slot_empty R h1,h3,rfl⟩
 ·cases e
theorem insert_list {α:Type} (xs:Array α) (p:Nat) (x:α):(SetTable.insertAt xs p x).toList=xs.toList.take p++x::xs.toList.drop p:=by
 unfold SetTable.insertAt
 simp only [Array.toList_append,Array.toList_push,Array.toList_extract,List.append_assoc,List.extract_eq_take_drop,List.drop_zero,Nat.sub_zero,List.cons_append,List.nil_append]
 rw [List.take_of_length_le (l:=List.drop p xs.toList) (by rw [List.length_drop]; simp)]
theorem put_rz {t:SetTable} (R:Rz t) {j:Nat} (hj:j∉t.place.toList) (hm:j≤t.mask):Rz (t.put j).1:=by
 obtain ⟨b1,b2,b3⟩:=below_ok R.up j
 have hp:((t.put j).1.place).toList=t.place.toList.take (SetTable.below t.place j)++j::t.place.toList.drop (SetTable.below t.place j):=insert_list _ _ _
 have lo:∀ x∈t.place.toList.take (SetTable.below t.place j),x < j:=fun x hx=>by
  obtain ⟨i,hi,rfl⟩:=List.mem_iff_getElem.mp hx
  rw [List.length_take] at hi
  rw [List.getElem_take]
  have:=b2 i (by simp at hi; omega) (by omega)
  simpa using this
 have hi:∀ x∈t.place.toList.drop (SetTable.below t.place j),j < x:=fun x hx=>by
  obtain ⟨i,hi,rfl⟩:=List.mem_iff_getElem.mp hx
  rw [List.length_drop] at hi
  rw [List.getElem_drop]
  have h1:=b3 (SetTable.below t.place j + i) (by simp at hi; omega) (by omega)
  have h2:t.place.toList[SetTable.below t.place j + i]'(by omega)≠j:=fun z=>hj (z▸List.getElem_mem _)
  have h3:t.place.toList[SetTable.below t.place j + i]'(by omega)=t.place[SetTable.below t.place j + i]'(by simp at hi; omega):=by simp
  rw [h3] at h2 ⊢
  omega
 refine ⟨?_,?_,?_⟩
 ·rw [hp,List.pairwise_append]
  refine ⟨R.up.sublist (List.take_sublist _ _),?_,?_⟩
  ·rw [List.pairwise_cons]
   exact ⟨hi,R.up.sublist (List.drop_sublist _ _)⟩
  ·intro a ha b hb
   rcases List.mem_cons.mp hb with rfl | hb
   ·exact lo a ha
   ·exact Nat.lt_trans (lo a ha) (hi b hb)
 ·rw [hp]
  intro x hx
  rcases List.mem_append.mp hx with z | z
  ·exact R.le x (List.mem_of_mem_take z)
  ·rcases List.mem_cons.mp z with rfl | z
   ·exact hm
   ·exact R.le x (List.mem_of_mem_drop z)
 ·show (if SetTable.has t.dummies j then SetTable.eraseAt t.dummies (SetTable.below t.dummies j) else t.dummies)=#[]
  rw [R.no]
  simp [SetTable.has]
theorem layNew_rz {t:SetTable} (R:Rz t) (es:Array (Int×Value)) (h:Int) (x:Value):Rz (layNew t es h x).2.1:=by
 unfold layNew
 split
 ·rename_i j b e
  obtain ⟨h1,h2,_⟩:=freeSlot_ok R e
  dsimp only
  unfold SetTable.orStandIn
  split
  ·exact put_rz R h1 h2
  ·exact standIn_rz _ _
 ·exact standIn_rz _ _
theorem laid_rz {mask finger moves:Nat} {led plain:Bool} {hs:Array Int} {t:SetTable} {o:Array Nat} (h:SetTable.laid mask finger moves led plain hs=some (t,o)):Rz t:=by
 unfold SetTable.laid at h
 cases e:SetTable.layClean mask hs with
 | none=>rw [e] at h; cases h
 | some owner=>
  rw [e] at h
  cases h
  have sub:((List.range (mask + 1)).filterMap fun j=>(owner.getD j none).map (j,·)).map (·.1)=(List.range (mask + 1)).filter fun j=>(owner.getD j none).isSome:=by
   generalize List.range (mask + 1)=l
   induction l with
   | nil=>rfl
   | cons a r ih=>
    rw [List.filterMap_cons,List.filter_cons]
    cases hc:owner.getD a none with
    | none=>exact ih
    | some v=>exact congrArg (a::·) ih
  refine ⟨?_,?_,rfl⟩
  ·show (((List.range (mask + 1)).filterMap fun j=>(owner.getD j none).map (j,·)).map (·.1)).toArray.toList.Pairwise (· < ·)
   rw [sub]
   exact List.pairwise_lt_range.sublist List.filter_sublist
  ·show ∀ x∈(((List.range (mask + 1)).filterMap fun j=>(owner.getD j none).map (j,·)).map (·.1)).toArray.toList,x≤mask
   rw [sub]
   intro x hx
   have:=List.mem_range.mp (List.mem_filter.mp hx).1
   omega
theorem relayAll_rz {t:SetTable} (es:Array (Int×Value)) (n:Nat):Rz (relayAll t es n).2.1:=by
 unfold relayAll
 split
 ·rename_i t' o e
  dsimp only
  split
  ·exact laid_rz e
  ·exact standIn_rz _ _
 ·exact standIn_rz _ _
end L2
namespace L2
open PySem PySem.Spec PyProof.Rows
def enK (e:Int×Value):Int:=match e.2 with | .int n _=>n | _=>0
structure TabL (prog:Program) (w:World) (es:Array (Int×Value)) (t:SetTable):Prop where
 el:ElemsOf (intKind prog w) es.toList
 fit:t.fits es.size=true
 rz:Rz t
 led:t.led=!(w.params.followText "set-order")
def AtL (prog:Program) (w:World) (h:Heap) (a:Addr) (es:Array (Int×Value)):Prop:=∃ o ep t,h.get? a=some o∧o.ExactSet∧o.data=.set es ep t∧TabL prog w es t
def SetL (prog:Program) (w:World) (h:Heap) (a:Addr) (L:List Int):Prop:=∃ es,AtL prog w h a es∧es.toList.map enK=L
theorem AtL.stay {prog:Program} {w:World} {h h':Heap} {a:Addr} {es:Array (Int×Value)} (x:AtL prog w h a es) (k:∀ o,h.get? a=some o→h'.get? a=some o):AtL prog w h' a es:=by
 obtain ⟨o,ep,t,ho,r⟩:=x
 exact ⟨o,ep,t,k o ho,r⟩
theorem SetL.stay {prog:Program} {w:World} {h h':Heap} {a:Addr} {L:List Int} (x:SetL prog w h a L) (k:∀ o,h.get? a=some o→h'.get? a=some o):SetL prog w h' a L:=by
 obtain ⟨es,y,e⟩:=x
 exact ⟨es,y.stay k,e⟩
section
variable {prog:Program} {w:World} {A:Around} {E:Value→Shared→Prop} {s:Shared} {a:Addr}
theorem el_int {es:List (Int×Value)} (h:ElemsOf (intKind prog w) es) {e:Int×Value} (he:e∈es):∃ n tk,e.2=.int n tk∧enK e=n:=by
 obtain ⟨⟨n,hn,_⟩,_⟩:=h e he
 obtain ⟨tk,e2⟩:=Value.isInt_shape hn
 exact ⟨n,tk,e2,by unfold enK; rw [e2]⟩
theorem put_at {h:Heap} {o:Obj} {es es':Array (Int×Value)} {ep:Nat} {t t':SetTable} (ho:h.get? a=some o) (hx:o.ExactSet) (hd:o.data=.set es ep t) (T:TabL prog w es' t') :
  (h.update a (Obj.putSet es' t')).get? a=some { o with data:=.set es' (ep + 1) t' }∧AtL prog w (h.update a (Obj.putSet es' t')) a es':=by
 have e:=putSet_of es' t' hd
 have g:(h.update a (Obj.putSet es' t')).get? a=some { o with data:=.set es' (ep + 1) t' }:=by
  rw [Heap.get?_update_self (Obj.putSet es' t') ho (by rw [e]; rfl),e]
 exact ⟨g,_,_,_,g,hx,rfl,T⟩
theorem relay_tab {es:Array (Int×Value)} {t:SetTable} (T:TabL prog w es t) (n:Nat):TabL prog w (relayAll t es n).1 (relayAll t es n).2.1:=
 ⟨T.el.perm (relayAll_perm t es n),relayAll_fits t es n,relayAll_rz es n,(relayAll_led t es n).trans T.led⟩
theorem lay_tab {es:Array (Int×Value)} {t:SetTable} (T:TabL prog w es t) (k:Int) (tk:Tok):TabL prog w (layNew t es ((intKind prog w).hash k) (.int k tk)).1 (layNew t es ((intKind prog w).hash k) (.int k tk)).2.1:=by
 have p:=layNew_perm t es ((intKind prog w).hash k) (.int k tk)
 rw [Array.toList_push] at p
 exact ⟨(T.el.push (intKind_is _ _ _ _) rfl).perm p,layNew_fits ..,layNew_rz T.rz ..,(layNew_led ..).trans T.led⟩
theorem add_l {L:List Int} {k:Int} {tk:Tok} {Q:Bool→Shared→Prop} (hS:SetL prog w s.heap a L) (hb:L.length + 1 < scanBound)
  (h:∀ h' L',Heap.SameBut a s.heap h'→SetL prog w h' a L'→(L'.Perm (L++[k])∧k∉L∨L'=L∧k∈L)→∀ b,Q b { s with heap:=h' }) :
  wpAny (model prog w) A (setAddHashed a (.int k tk) ((intKind prog w).hash k)) Q E s:=by
 obtain ⟨es,⟨o,ep,t,ho,hx,hd,T⟩,rfl⟩:=hS
 rw [List.length_map,Array.length_toList] at hb
 have hk:(intKind prog w).is k (.int k tk)=true:=intKind_is _ _ _ _
 unfold setAddHashed setAddHashedIn
 refine wpAny_holding (wpAny_bind (wpAny_setState_of ho hd T.fit ?_))
 dsimp only
 rw [byScan_of rfl (Nat.lt_of_succ_lt hb) T.el,if_pos rfl]
 unfold setAddByScan
 refine wpAny_bind (wpAny_bind (wpAny_rule (wpAny_bind (wpAny_setScan_of hk ho hd T.fit T.el ?_))))
 have mem:∀ k',(∃ e∈es.toList,(intKind prog w).is k' e.2=true)↔k'∈es.toList.map enK:=fun k'=>by
  rw [List.mem_map]
  constructor
  ·rintro ⟨e,he,hi⟩
   obtain ⟨n,t',e1,e2⟩:=el_int T.el he
   obtain ⟨t2,e3⟩:=Value.isInt_shape hi
   rw [e1] at e3
   cases e3
   exact ⟨e,he,e2⟩
  ·rintro ⟨e,he,rfl⟩
   obtain ⟨n,t',e1,e2⟩:=el_int T.el he
   exact ⟨e,he,by rw [e2,e1]; exact intKind_is _ _ _ _⟩
 cases hr:List.findIdx? (fun e=>(intKind prog w).is k e.2) es.toList with
 | some j=>
  obtain ⟨hj,hp,_⟩:=List.findIdx?_eq_some_iff_getElem.mp hr
  refine wpAny_pure (wpAny_pure ?_)
  exact h s.heap _ (Heap.SameBut.refl a s.heap) ⟨es,⟨o,ep,t,ho,hx,hd,T⟩,rfl⟩ (.inr ⟨rfl,(mem k).mp ⟨_,List.getElem_mem hj,hp⟩⟩) _
 | none=>
  have nin:k∉es.toList.map enK:=fun z=>by
   obtain ⟨e,he,hp⟩:=(mem k).mpr z
   have:=List.findIdx?_eq_none_iff.mp hr e he
   rw [hp] at this
   cases this
  have T1:=lay_tab T k tk
  have p1:=layNew_perm t es ((intKind prog w).hash k) (.int k tk)
  rw [Array.toList_push] at p1
  dsimp only
  generalize layNew t es ((intKind prog w).hash k) (.int k tk)=N at T1 p1 ⊢
  obtain ⟨es1,t1,wd,gv⟩:=N
  dsimp only at T1 p1 ⊢
  have pk:=p1.map enK
  rw [List.map_append] at pk
  have hz:es1.size≤sizeLine:=by
   have:=p1.length_eq
   rw [List.length_append,Array.length_toList,Array.length_toList] at this
   exact fits_of_scanBound (by rw [this]; exact hb)
  have quiet:∀ (b:Bool) {s₁:Shared} {Q':Unit→Shared→Prop},Q' () s₁→wpAny (model prog w) A (match b with | true=>rule "set.scan.the-table-gave-way" | false=>pure ()) Q' E s₁:=fun b s₁ Q' q=>by
   cases b
   ·exact wpAny_pure q
   ·exact wpAny_rule q
  have tail:∀ t2,TabL prog w es1 t2→∀ c:Bool,wpAny (model prog w) A (do
    storeSet a es1 t2
    if (c && t2.tooFull)=true then do
      (match (relayAll t2 es1 (SetTable.grown es1.size)).2.2 with | true=>rule "set.scan.the-table-gave-way" | false=>pure ())
      storeSet a (relayAll t2 es1 (SetTable.grown es1.size)).1 (relayAll t2 es1 (SetTable.grown es1.size)).2.1
      pure (some true)
     else pure (some true)) (fun r s'=>∀ b,Q b s'∧r=some true) E s:=fun t2 T2 c=>by
   obtain ⟨g1,a1⟩:=put_at ho hx hd T2
   refine wpAny_bind (wpAny_storeSet_of ho hd ?_ hz)
   have b1:=Heap.SameBut.update s.heap a (Obj.putSet es1 t2)
   by_cases cc:(c && t2.tooFull)=true
   ·rw [if_pos cc]
    have T3:=relay_tab T2 (SetTable.grown es1.size)
    have p3:=relayAll_perm t2 es1 (SetTable.grown es1.size)
    obtain ⟨_,a3⟩:=put_at g1 hx rfl T3
    have z3:(relayAll t2 es1 (SetTable.grown es1.size)).1.size≤sizeLine:=by
     have:=p3.length_eq
     rw [Array.length_toList,Array.length_toList] at this
     rw [this]
     exact hz
    refine wpAny_bind (quiet _ (wpAny_bind (wpAny_storeSet_of g1 rfl (wpAny_pure fun b=>⟨?_,rfl⟩) z3)))
    exact h _ _ (b1.trans (Heap.SameBut.update _ a _)) ⟨_,a3,rfl⟩ (.inl ⟨(p3.map enK).trans pk,nin⟩) b
   ·rw [if_neg cc]
    exact wpAny_pure fun b=>⟨h _ _ b1 ⟨es1,a1,rfl⟩ (.inl ⟨pk,nin⟩) b,rfl⟩
  have last:∀ (r:Option Bool) (s':Shared),(∀ b,Q b s'∧r=some true)→wpAny (model prog w) A (match r with | some added=>pure added | none=>setAddHashedIn a (.int k tk) ((intKind prog w).hash k) 99999) Q E s':=fun r s' q=>by
   rw [(q true).2]
   exact wpAny_pure (q true).1
  refine wpAny_bind (quiet _ ?_)
  by_cases hp:t1.plain=true
  ·rw [if_pos hp]
   refine wpAny_bind ?_
   rw [hashByValue_scannable 8 (x:=.int k tk) rfl]
   refine wpAny_pure ?_
   exact wpAny_mono (tail t1 T1 (!wd)) (fun r s' q=>last r s' q) fun _ _ z=>z
  ·rw [if_neg hp]
   refine wpAny_bind (wpAny_pure ?_)
   exact wpAny_mono (tail t1 T1 (!wd)) (fun r s' q=>last r s' q) fun _ _ z=>z
end
section
variable {prog:Program} {w:World} {A:Around} {R:Result→Shared→Prop} {I:Addr} {fp wr:List Addr} {G:Array GenState→Array GenState→Prop} {n:Nat} {P:Nat→Value→Prop} {St:Nat→Shared→Prop}
structure PutL (prog:Program) (w:World) (h:Heap) (S:Addr) (val:Nat→Int) (i:Nat) (L:List Int):Prop where
 at_:SetL prog w h S L
 nd:L.Nodup
 le:L.length≤i
 mem:∀ x,x∈L↔∃ j,j < i∧val j=x
theorem PutL.stay {h h':Heap} {S:Addr} {val:Nat→Int} {i:Nat} {L:List Int} (x:PutL prog w h S val i L) (k:∀ o,h.get? S=some o→h'.get? S=some o):PutL prog w h' S val i L:=⟨x.at_.stay k,x.nd,x.le,x.mem⟩
theorem PutL.next {h h':Heap} {S:Addr} {val:Nat→Int} {i:Nat} {L L':List Int} (x:PutL prog w h S val i L) (hs:SetL prog w h' S L') (hl:L'.Perm (L++[val i])∧val i∉L∨L'=L∧val i∈L):PutL prog w h' S val (i + 1) L':=by
 have step:∀ y,(∃ j,j < i + 1∧val j=y)↔(∃ j,j < i∧val j=y)∨val i=y:=fun y=>by
  constructor
  ·rintro ⟨j,hj,e⟩
   by_cases z:j=i
   ·subst z
    exact .inr e
   ·exact .inl ⟨j,by omega,e⟩
  ·rintro (⟨j,hj,e⟩ | e)
   ·exact ⟨j,by omega,e⟩
   ·exact ⟨i,by omega,e⟩
 rcases hl with ⟨p,hn⟩ | ⟨rfl,hm⟩
 ·refine ⟨hs,?_,?_,fun y=>?_⟩
  ·rw [p.nodup_iff,List.nodup_append]
   refine ⟨x.nd,by simp,fun a ha b hb=>?_⟩
   rw [List.mem_singleton.mp hb]
   exact fun z=>hn (z▸ha)
  ·rw [p.length_eq,List.length_append]
   exact Nat.succ_le_succ x.le
  ·rw [p.mem_iff,List.mem_append,List.mem_singleton,x.mem,step]
   exact or_congr Iff.rfl eq_comm
 ·refine ⟨hs,x.nd,Nat.le_succ_of_le x.le,fun y=>?_⟩
  rw [step,x.mem]
  refine ⟨.inl,fun z=>?_⟩
  rcases z with z | rfl
  ·exact z
  ·exact (x.mem _).mp hm
theorem fill_l (W:WalksS prog w A.in1 I fp wr G n P St) {S:Addr} (hS:S∉fp) {val:Nat→Int} (hv:∀ i v,P i v→∃ t,v=.int (val i) t) (hb:n + 1 < scanBound) :
  ∀ (k i:Nat) (s:Shared) (L:List Int),n - i=k→i≤n→St i s→PutL prog w s.heap S val i L→
   (∀ s' L',Moved (S::wr) G s s'→PutL prog w s'.heap S val n L'→R (.ok (.ret .none)) s')→
   codeAny (model prog w) A (.builtin "set.update.loop" ⟨[.ref S,.ref I],[]⟩) R s:=by
 have hw:S∉wr:=fun z=>hS (W.sub _ z)
 have up:∀ b∈wr,b∈S::wr:=fun b hb=>List.mem_cons_of_mem _ hb
 intro k
 induction k with
 | zero=>
  intro i s L hk hi st X q
  obtain rfl:i=n:=by omega
  refine codeAny_builtin F.entry_set_update_loop ?_
  rw [Around.under_plainId F.plain_set_update_loop _]
  refine wpAny_bind (m:=pyNext (.ref I)) (W.done s _ _ st fun s' mv=>?_)
  exact wpAny_pure (q s' L (mv.mono up) (X.stay fun o e=>mv.heap S o hw e))
 | succ k ih=>
  intro i s L hk hi st X q
  refine codeAny_builtin F.entry_set_update_loop ?_
  rw [Around.under_plainId F.plain_set_update_loop _]
  refine wpAny_bind (m:=pyNext (.ref I)) (W.item i s _ _ (by omega) st fun v s1 hP st1 mv=>?_)
  obtain ⟨t,rfl⟩:=hv i v hP
  have X1:=X.stay fun o e=>mv.heap S o hw e
  refine wpAny_bind (m:=holding [Value.int (val i) t] (setAdd S (.int (val i) t))) (wpAny_holding ?_)
  unfold setAdd
  refine wpAny_holding (wpAny_bind ((intKind prog w).pyHash (k:=val i) (intKind_is _ _ _ _) ?_))
  refine add_l (s:={ s1 with toks:=s1.toks + 1 }) X1.at_ (by have:=X1.le; omega) fun h' L' sb hs' hl _=>?_
  have X2:=X1.next hs' hl
  refine wpAny_pure ⟨plainId_quiet F.plain_set_update_loop _,ih (i + 1) { s1 with heap:=h',toks:=s1.toks + 1 } L' (by omega) (by omega) (W.frame _ s1 _ _ st1 (Nat.le_succ _) fun b hb' o e=>?_) X2 fun s'' L'' mv2 X3=>?_⟩
  ·rw [sb.2 b fun z=>hS (z▸hb')]
   exact e
  ·refine q s'' L'' (Moved.trans W.gtrans ((mv.mono up).then_heap (Nat.le_succ _) fun b o hb' e=>?_) mv2) X3
   rw [sb.2 b fun z=>hb' (z▸List.mem_cons_self)]
   exact e
end
section
variable {prog:Program} {w:World} {A:Around} {E:Value→Shared→Prop} {s:Shared}
theorem new_l (x:Value) {Q:Value→Shared→Prop} (h:Q (.ref s.heap.objs.size) { s with heap:=s.heap.push (set0 (!(w.params.followText "set-order"))) }) :
  codeAny (model prog w) A (.call (.builtin "set.__new__") ⟨[.type "set",x],[]⟩) (wants Q E) s:=by
 refine codeAny_of_tree (wpAny_bind (m:=checkBuiltinCall "set.__new__" ⟨[.type "set",x],[]⟩) (wpAny_of_eq (F.newCall_set_1 x) (wpAny_pure ⟨plainId_quiet F.plain_set_new _,codeAny_builtin F.entry_set_new ?_⟩)))
 rw [Around.under_plainId F.plain_set_new _]
 have f:=sub_set_self
 obtain ⟨hp,g,d,tk,os⟩:=s
 unfold Builtin.«set.__new__» Builtin.Frozenset.newClass
 dsimp only
 wp_walk
 refine wpAny_askSetting (wpAny_pure (wpAny_bind (wpAny_alloc (wpAny_pure (wpAny_pure h)))))
theorem set_call_l {x:Value} {Q:Value→Shared→Prop} (h:wpAny (model prog w) A.in1.in1 (Builtin.«set.__init__» ⟨[.ref s.heap.objs.size,x],[]⟩) (fun fin s'=>fin=.done (.ret .none)∧Q (.ref s.heap.objs.size) s') E { s with heap:=s.heap.push (set0 (!(w.params.followText "set-order"))) }) :
  wpAny (model prog w) A (call (.type "set") [x]) Q E s:=by
 obtain ⟨c,tl,m1⟩:=PySem.F.called_set.mro
 have m2:=PySem.F.called_set.made; have m3:=PySem.F.called_set.sub; have m4:=PySem.F.called_set.notType; have m5:=PySem.F.called_set.canCreate
 have m6:=PySem.F.typeCall_set_1 x
 refine wpAny_call (codeAny_of_tree (show wpAny _ _ (callAny (.type "set") _) _ _ _ from wpAny_pure ⟨Code.quiet_builtin _ (by decide +kernel),codeAny_builtin PySem.F.entry_type_call ?_⟩))
 rw [Around.under_plain (weight_type_call_type "set" [x] []) rfl]
 repeat (any_goals (first | assumption | wp_step))
 refine codeAny_mono (new_l x (E:=E) (Q:=fun ob s1=>ob=.ref s.heap.objs.size∧s1={ s with heap:=s.heap.push (set0 (!(w.params.followText "set-order"))) }) ⟨rfl,rfl⟩) fun r s1 hr=>?_
 match r,hr with
 | .error e,hr=>exact hr
 | .ok (.ret ob),hr=>
  obtain ⟨rfl,rfl⟩:=hr
  have hT:Shared.TypeIs { s with heap:=s.heap.push (set0 (!(w.params.followText "set-order"))) } (.ref s.heap.objs.size) "set":=⟨set0 (!(w.params.followText "set-order")),Heap.get?_push_size _ rfl,rfl⟩
  have m7:=PySem.F.called_set.init.lookup; have m8:=PySem.F.called_set.init.bind (.ref s.heap.objs.size)
  repeat (any_goals (first | assumption | wp_step))
  refine codeAny_mono (codeAny_call_builtin (R:=wants (fun r s2=>r=.none∧Q (.ref s.heap.objs.size) s2) E) PySem.F.called_set.init.plain PySem.F.entry_set_init (check_set_init_1 hT ?_)) fun r2 s2 hr2=>?_
  ·refine wpAny_mono h (fun fin s' hf=>?_) fun _ _ h'=>h'
   obtain ⟨rfl,hq⟩:=hf
   exact ⟨rfl,hq⟩
  ·match r2,hr2 with
   | .error e,hr2=>exact hr2
   | .ok (.ret v),hr2=>
    obtain ⟨rfl,hq⟩:=hr2
    repeat (any_goals (first | assumption | wp_step))
   | .ok .next,hr2=>exact hr2.elim
   | .ok .brk,hr2=>exact hr2.elim
   | .ok .cont,hr2=>exact hr2.elim
 | .ok .next,hr=>exact hr.elim
 | .ok .brk,hr=>exact hr.elim
 | .ok .cont,hr=>exact hr.elim
theorem set_list_l {l:Addr} {items:Array Value} {ns:List Int} {Q:Value→Shared→Prop} (hh:A.handled=none) (hl:s.heap.IsList l items) (hi:IntsAre items.toList ns) (hb:items.size + 1 < scanBound)
  (h:∀ (h':Heap) (tk:Nat) (L:List Int),SetL prog w h' s.heap.objs.size L→L.Nodup→(∀ x,x∈L↔x∈ns)→(∀ b o,s.heap.get? b=some o→h'.get? b=some o)→Q (.ref s.heap.objs.size) { s with heap:=h',toks:=tk }) :
  wpAny (model prog w) A (call (.type "set") [.ref l]) Q E s:=by
 refine set_call_l ?_
 generalize hled:(!(w.params.followText "set-order"))=led
 have hlt:l < s.heap.objs.size:=by
  obtain ⟨o,ho,_⟩:=hl
  exact Heap.lt_size ho
 have hl1:(s.heap.push (set0 led)).IsList l items:=hl.push _
 have hS:(s.heap.push (set0 led)).get? s.heap.objs.size=some (set0 led):=Heap.get?_push_size _ rfl
 have hR:SetL prog w (s.heap.push (set0 led)) s.heap.objs.size []:=⟨#[],⟨set0 led,0,_,hS,⟨rfl,rfl,rfl⟩,rfl,⟨fun e he=>by simp at he,rfl,fresh_rz 0 0 led,hled.symm⟩⟩,rfl⟩
 have f1:=PySem.F.sub_list_set; have f2:=PySem.F.sub_list_frozenset
 have f3:(Value.type "list" == Value.type "dict")=false:=by decide
 obtain ⟨o,ho,hc,nl,hd⟩:=id hl1
 obtain ⟨oc,od,odt,osl⟩:=o
 simp only at hc hd
 subst hc hd
 unfold Builtin.«set.__init__» noKeywords Builtin.Frozenset.updateFrom
 generalize hI:pyIter=I0
 wp_walk
 subst hI
 refine wpAny_pyIter_list hl1 (wpAny_bind (wpAny_runValue ?_))
 have e1:(s.heap.push (set0 led)).objs.size=s.heap.objs.size + 1:=Heap.size_push ..
 have nf:s.heap.objs.size∉[(s.heap.push (set0 led)).objs.size,l]:=by
  rw [e1]
  intro z
  rcases List.mem_cons.mp z with z | z
  ·exact Nat.ne_of_lt (Nat.lt_succ_self _) z
  ·exact Nat.ne_of_gt hlt (List.mem_singleton.mp z)
 have nI:l≠(s.heap.push (set0 led)).objs.size:=by rw [e1]; exact Nat.ne_of_lt (Nat.lt_succ_of_lt hlt)
 have vals:∀ (i:Nat) (v:Value),items[i]?=some v→∃ t,v=.int ((fun i=>ns.getD i 0) i) t:=fun i v hv=>IntsAre.int_at hi i v (by rw [Array.getElem?_toList]; exact hv)
 have hlen:=IntsAre.length hi
 rw [Array.length_toList] at hlen
 refine fill_l ((Walks.list (show A.in1.in1.in1.handled=none by simp [hh]) _ l nI items).toS) nf vals hb (items.size - 0) 0 _ [] rfl (Nat.zero_le _) ⟨⟨_,Heap.get?_push_size _ rfl,rfl,rfl⟩,hl1.push _⟩ ⟨hR.stay fun o e=>Heap.get?_push_of_some _ e,List.nodup_nil,Nat.zero_le _,fun x=>⟨fun z=>absurd z (List.not_mem_nil),fun ⟨j,z,_⟩=>absurd z (Nat.not_lt_zero j)⟩⟩ ?_
 intro s' L' hm X
 obtain ⟨h',g',d',tk',os'⟩:=s'
 obtain rfl:g'=s.gens:=hm.gens
 obtain rfl:d'=s.drawn:=hm.drawn
 obtain rfl:os'=s.os:=hm.os
 refine wpAny_pure (wpAny_pure ⟨rfl,h h' tk' L' X.at_ X.nd (fun x=>?_) fun b o hbo=>?_⟩)
 ·rw [X.mem]
  constructor
  ·rintro ⟨j,hj,rfl⟩
   have:j < ns.length:=by omega
   simp [this]
  ·intro hx
   obtain ⟨j,hj,rfl⟩:=List.mem_iff_getElem.mp hx
   exact ⟨j,by omega,by simp [hj]⟩
 ·have b1:=Heap.lt_size hbo
  refine hm.heap b o (fun z=>?_) (Heap.get?_push_of_some _ (Heap.get?_push_of_some _ hbo))
  rw [e1] at z
  rcases List.mem_cons.mp z with z | z
  ·exact Nat.ne_of_lt b1 z
  ·exact Nat.ne_of_lt (Nat.lt_succ_of_lt b1) (List.mem_singleton.mp z)
end
end L2
namespace L2
open PySem PySem.Spec PyProof.Rows
theorem slot_si_next:Slot "set_iterator" "__next__" "set_iterator.__next__":=
 .of (owner:="set_iterator") (n:="__next__") (by rw [typeLookup_type,builtinLookup_eq_fast]; kernel_rfl) (by decide +kernel) (by decide +kernel) (by decide +kernel)
  (by first | exact .inl (by decide +kernel) | exact .inr (by decide +kernel)) (by rw [isSubtype_type]; kernel_rfl)
theorem entry_si_next:entryFor table "set_iterator.__next__"=some Builtin.«set_iterator.__next__»:=entryFor_of_tree (by kernel_rfl)
theorem args_si_next (a:Value):argsOk "set_iterator.__next__" ⟨[a],[]⟩:=by unfold argsOk; kernel_rfl
theorem entry_set_iter:entryFor table "set.__iter__"=some Builtin.«frozenset.__iter__»:=entryFor_alias (id':="frozenset.__iter__") (by kernel_rfl) rfl (by decide +kernel) (by kernel_rfl)
section
variable {prog:Program} {w:World} {A:Around} {E:Value→Shared→Prop} {s:Shared} {a I T:Addr}
theorem wpAny_chosen {M:Model} {src:Source} {n:Nat} {Q:Nat→Shared→Prop} (hn:n≠0) (h:∀ i d,i < n→Q i { s with drawn:=d }):wpAny M A (choose src n) Q E s:=fun Γ p _=>by
 unfold choose
 rw [Sem.wp_choose]
 exact ⟨hn,by rw [Sem.wp_pure]; exact h _ _ (Nat.mod_lt _ (Nat.pos_of_ne_zero hn))⟩
theorem draw_perm {M:Model} {α:Type}:∀ (n:Nat) (xs:List α) (s:Shared) (Q:List α→Shared→Prop),xs.length≤n→(∀ ys d,ys.Perm xs→Q ys { s with drawn:=d })→wpAny M A (drawOrder n xs) Q E s
 | 0,xs,s,Q,hl,h=>by
  obtain rfl:xs=[]:=List.length_eq_zero_iff.mp (Nat.le_zero.mp hl)
  unfold drawOrder
  exact wpAny_pure (h [] s.drawn (List.Perm.refl _))
 | n + 1,[],s,Q,_,h=>by
  unfold drawOrder
  exact wpAny_pure (h [] s.drawn (List.Perm.refl _))
 | n + 1,x::r,s,Q,hl,h=>by
  unfold drawOrder
  refine wpAny_bind (wpAny_chosen (by simp) fun i d hi=>?_)
  rw [List.getElem?_eq_getElem hi]
  dsimp only
  refine wpAny_bind (draw_perm n _ _ _ (by rw [List.length_eraseIdx_of_lt hi]; simp at hl ⊢; omega) fun ys d' p=>wpAny_pure ?_)
  refine h _ d' ?_
  refine (p.cons _).trans ?_
  rw [List.eraseIdx_eq_take_drop_succ]
  have e:x::r=(x::r).take i++(x::r)[i]::(x::r).drop (i + 1):=by
   conv=>lhs; rw [← List.take_append_drop i (x::r),List.drop_eq_getElem_cons hi]
  have p2:=(List.perm_middle (a:=(x::r)[i]) (l₁:=(x::r).take i) (l₂:=(x::r).drop (i + 1))).symm
  rw [← e] at p2
  exact p2
abbrev siObj (first:Value) (i:Nat) (a:Addr) (n ep:Nat):Obj:={ cls:=.type "set_iterator",data:=.fields #[first,.int i 0,.ref a,.int n 0,.int ep 0] }
inductive Mode (w:World) (h:Heap) (a T:Addr) (es:Array (Int×Value)) (ep:Nat) (t:SetTable) (i:Nat):Value→List Value→Prop
 | text:w.params.followText "set-order"=true→Mode w h a T es ep t i (.int 0 0) ((pickOrder (w.params.setOrder a ep) es).toList.map (·.2))
 | drawn {ps:List Nat} {n':Nat}:h.get? T=some { cls:=.type "tuple",data:=.seq (ps.map fun p:Nat=>(.int p 0:Value)).toArray n' }→ps.Perm (List.range es.size)→Mode w h a T es ep t i (.ref T) (ps.map fun p=>(es.getD p (0,.none)).2)
 | place {slot:Nat}:w.params.followText "set-order"=false→(t.plain=true∨es.size≤1)→SetTable.below t.place slot=i→Mode w h a T es ep t i (.int slot 0) (es.toList.map (·.2))
def SiAt (prog:Program) (w:World) (h:Heap) (I a T:Addr) (es:Array (Int×Value)) (ord:List Value) (i:Nat):Prop:=
 ∃ o ep t first,h.get? a=some o∧o.ExactSet∧o.data=.set es ep t∧TabL prog w es t∧h.get? I=some (siObj first i a es.size ep)∧Mode w h a T es ep t i first ord
theorem Mode.perm {h:Heap} {es:Array (Int×Value)} {ep:Nat} {t:SetTable} {i:Nat} {first:Value} {ord:List Value} (m:Mode w h a T es ep t i first ord):ord.Perm (es.toList.map (·.2)):=by
 cases m with
 | text _=>exact (pick_perm _ es).map _
 | @drawn ps _ _ p=>
  refine (p.map _).trans (List.Perm.of_eq ?_)
  apply List.ext_getElem
  ·simp
  ·intro j h1 h2
   simp at h1 h2
   simp [h1]
 | place _ _ _=>exact List.Perm.refl _
theorem below_zero {xs:Array Nat} (hs:xs.toList.Pairwise (· < ·)):SetTable.below xs 0=0:=by
 obtain ⟨b1,b2,b3⟩:=below_ok hs 0
 rcases Nat.eq_zero_or_pos (SetTable.below xs 0) with z | z
 ·exact z
 ·exact absurd (b2 0 (by omega) z) (Nat.not_lt_zero _)
theorem below_next {xs:Array Nat} (hs:xs.toList.Pairwise (· < ·)) {i:Nat} (hi:i < xs.size):SetTable.below xs (xs[i] + 1)=i + 1:=by
 obtain ⟨b1,b2,b3⟩:=below_ok hs (xs[i] + 1)
 have mono:∀ j k (hj:j < xs.size) (hk:k < xs.size),j < k→xs[j] < xs[k]:=fun j k hj hk hjk=>by
  have:=(List.pairwise_iff_getElem.mp hs) j k (by simpa using hj) (by simpa using hk) hjk
  simpa using this
 rcases Nat.lt_trichotomy (SetTable.below xs (xs[i] + 1)) (i + 1) with z | z | z
 ·have:=b3 i hi (by omega)
  omega
 ·exact z
 ·have h1:i + 1 < xs.size:=by omega
  have:=b2 (i + 1) h1 z
  have:=mono i (i + 1) hi h1 (Nat.lt_succ_self i)
  omega
theorem iter_l {es:Array (Int×Value)} {Q:Value→Shared→Prop} (hS:AtL prog w s.heap a es) (hz:es.size≤sizeLine)
  (h:∀ (h':Heap) (d:Drawn) (I T:Addr) (ord:List Value),SiAt prog w h' I a T es ord 0→ord.Perm (es.toList.map (·.2))→s.heap.objs.size≤I→I < h'.objs.size→a≠I→T≠I→(T=a∨s.heap.objs.size≤T)→(∀ b o,s.heap.get? b=some o→h'.get? b=some o)→Q (.ref I) { s with heap:=h',drawn:=d }) :
  wpAny (model prog w) A (pyIter (.ref a)) Q E s:=by
 obtain ⟨o,ep,t,ho,hx,hd,TB⟩:=hS
 have hT:s.TypeIs (.ref a) "set":=⟨o,ho,hx.1⟩
 have alt:=Heap.lt_size ho
 refine wpAny_pyIter_slot hT PySem.F.slot_set_iter (wpAny_call_entry PySem.F.slot_set_iter hT entry_set_iter ?_ (PySem.F.args_set_iter_1 _))
 have start:∀ (h':Heap) (d:Drawn) (T:Addr) (first:Value) (ord:List Value),(∀ b o,s.heap.get? b=some o→h'.get? b=some o)→s.heap.objs.size≤h'.objs.size→T < h'.objs.size→(T=a∨s.heap.objs.size≤T)→(∀ h'',(∀ b o,h'.get? b=some o→h''.get? b=some o)→Mode w h'' a T es ep t 0 first ord)→
   wpAny (model prog w) A.in1 (do ret (← newFields "set_iterator" [first,rawInt 0,.ref a,rawInt es.size,rawInt (← setEpoch a)])) (fun f s'=>∃ v,f=.done (.ret v)∧∃ T' r,s'.TypeIs v T'∧typeLookup (.type T') "__next__"=pure (some r)∧Q v s') E { s with heap:=h',drawn:=d }:=fun h' d T first ord kp hsz hTl hTc md=>by
  refine wpAny_bind (wpAny_setEpoch_of (s:={ s with heap:=h',drawn:=d }) (kp a o ho) hd TB.fit ?_)
  refine wpAny_bind (wpAny_newObj_type (wpAny_pure ⟨_,rfl, "set_iterator",_,⟨_,Heap.get?_push_size _ rfl,rfl⟩,slot_si_next.lookup,?_⟩))
  have kp2:∀ b o',h'.get? b=some o'→(h'.push (siObj first 0 a es.size ep)).get? b=some o':=fun b o' e=>Heap.get?_push_of_some _ e
  have z2:(h'.push (siObj first 0 a es.size ep)).objs.size=h'.objs.size + 1:=Heap.size_push ..
  refine h _ d h'.objs.size T ord ⟨o,ep,t,first,kp2 _ _ (kp a o ho),hx,hd,TB,Heap.get?_push_size _ rfl,md _ kp2⟩ (md _ kp2).perm hsz (Nat.lt_of_lt_of_eq (Nat.lt_succ_self _) z2.symm) (Nat.ne_of_lt (Nat.lt_of_lt_of_le alt hsz)) (Nat.ne_of_lt hTl) hTc fun b o' e=>kp2 b o' (kp b o' e)
 refine wpAny_bind (m:=Builtin.Frozenset.slot0 "__iter__" ⟨[.ref a],[]⟩) ?_
 unfold Builtin.Frozenset.slot0 slotArgs
 refine wpAny_bind (wpAny_pure (wpAny_pure ?_))
 refine wpAny_bind (m:=Builtin.Frozenset.sizeOf a) (wpAny_bind (wpAny_setEntries_of ho hd TB.fit (wpAny_pure ?_)))
 refine wpAny_bind (m:=setDrawn a) ?_
 unfold setDrawn setsByText
 refine wpAny_bind (wpAny_setState_of ho hd TB.fit ?_)
 dsimp only
 refine wpAny_bind (wpAny_bind (wpAny_askSetting (wpAny_pure (wpAny_pure ?_))))
 show wpAny _ _ (if (!(w.params.followText "set-order") && (!t.plain && decide (es.size > 1)))=true then _ else _) _ _ _
 by_cases c:(!(w.params.followText "set-order") && (!t.plain && decide (es.size > 1)))=true
 ·rw [if_pos c]
  refine wpAny_bind (draw_perm _ _ _ _ (by simp) fun ps d p=>?_)
  have pl:ps.length≤sizeLine:=by
   rw [p.length_eq,List.length_range]
   exact hz
  refine wpAny_bind (wpAny_newTuple ?_ (by rw [List.length_map]; exact pl))
  refine start _ d s.heap.objs.size _ _ (fun b o' e=>Heap.get?_push_of_some _ e) ?_ ?_ (.inr (Nat.le_refl _)) fun h'' k=>.drawn (k _ _ (Heap.get?_push_size _ rfl)) p
  ·rw [Heap.size_push]
   exact Nat.le_succ _
  ·rw [Heap.size_push]
   exact Nat.lt_succ_self _
 ·rw [if_neg c]
  refine wpAny_bind (wpAny_pure ?_)
  by_cases c1:w.params.followText "set-order"=true
  ·exact start s.heap s.drawn a _ _ (fun _ _ e=>e) (Nat.le_refl _) alt (.inl rfl) fun h'' _=>.text c1
  ·refine start s.heap s.drawn a _ _ (fun _ _ e=>e) (Nat.le_refl _) alt (.inl rfl) fun h'' _=>.place (slot:=0) (by simpa using c1) ?_ (below_zero TB.rz.up)
   rw [Bool.not_eq_true] at c1
   rw [c1] at c
   by_cases c2:t.plain=true
   ·exact .inl c2
   ·rw [Bool.not_eq_true] at c2
    rw [c2] at c
    simp at c
    exact .inr c
theorem setWalk_text {es:Array (Int×Value)} {o:Obj} {ep:Nat} {t:SetTable} {Q:Array (Int×Value)→Shared→Prop} (ho:s.heap.get? a=some o) (hd:o.data=.set es ep t) (hf:t.fits es.size=true) (c:w.params.followText "set-order"=true) (h:Q (pickOrder (w.params.setOrder a ep) es) s):wpAny (model prog w) A (setWalk a) Q E s:=by
 unfold setWalk setsByText
 refine wpAny_bind (wpAny_setState_of ho hd hf ?_)
 dsimp only
 refine wpAny_bind (wpAny_bind (wpAny_askSetting (wpAny_pure ?_)))
 rw [if_pos (show (model prog w).w.params.followText "set-order"=true from c)]
 exact wpAny_bind (wpAny_askSetting (wpAny_pure h))
theorem setNext_text {es:Array (Int×Value)} {o:Obj} {ep slot i:Nat} {t:SetTable} {Q:Option (Value×Nat)→Shared→Prop} (ho:s.heap.get? a=some o) (hd:o.data=.set es ep t) (hf:t.fits es.size=true) (c:w.params.followText "set-order"=true)
  (h:Q (((pickOrder (w.params.setOrder a ep) es)[i]?).map fun e=>(e.2,slot)) s):wpAny (model prog w) A (setNext a slot i ep) Q E s:=by
 unfold setNext setsByText
 refine wpAny_bind (wpAny_setState_of ho hd hf ?_)
 dsimp only
 refine wpAny_bind (wpAny_bind (wpAny_askSetting (wpAny_pure ?_)))
 rw [if_pos (show (model prog w).w.params.followText "set-order"=true from c)]
 rw [if_neg (by simp)]
 exact wpAny_bind (setWalk_text ho hd hf c (wpAny_pure h))
theorem setNext_place {es:Array (Int×Value)} {o:Obj} {ep slot i:Nat} {t:SetTable} {Q:Option (Value×Nat)→Shared→Prop} (ho:s.heap.get? a=some o) (hd:o.data=.set es ep t) (TB:TabL prog w es t) (c:w.params.followText "set-order"=false) (cp:t.plain=true∨es.size≤1)
  (h:Q (match es[SetTable.below t.place slot]?,t.place[SetTable.below t.place slot]? with | some (_,x),some j=>some (x,j + 1) | _,_=>none) s):wpAny (model prog w) A (setNext a slot i ep) Q E s:=by
 unfold setNext setsByText
 refine wpAny_bind (wpAny_setState_of ho hd TB.fit ?_)
 dsimp only
 refine wpAny_bind (wpAny_bind (wpAny_askSetting (wpAny_pure ?_)))
 rw [if_neg (show ¬ (model prog w).w.params.followText "set-order"=true from fun z=>by rw [show (model prog w).w.params.followText "set-order"=false from c] at z; cases z)]
 have nd:(!t.plain && decide (es.size > 1))=false:=by
  rcases cp with z | z
  ·rw [z]; rfl
  ·rw [decide_eq_false (by omega)]; simp
 show wpAny _ _ (if (!t.plain && decide (es.size > 1))=true then _ else _) _ _ _
 rw [if_neg (show ¬ (!t.plain && decide (es.size > 1))=true from fun z=>by rw [nd] at z; cases z)]
 have ld:(!t.led && !es.isEmpty)=false:=by rw [TB.led,c]; rfl
 refine wpAny_bind (m:=if (!t.led && !es.isEmpty)=true then unsupported "set:maker-not-led" else pure ()) ?_
 rw [if_neg (by rw [ld]; exact Bool.false_ne_true)]
 exact wpAny_pure (wpAny_pure h)
theorem setNext_drawn {es:Array (Int×Value)} {o:Obj} {ep p:Nat} {t:SetTable} {e:Int×Value} {Q:Value→Shared→Prop} (ho:s.heap.get? a=some o) (hd:o.data=.set es ep t) (hf:t.fits es.size=true) (he:es[p]?=some e) (h:Q e.2 s):wpAny (model prog w) A (setNextDrawn a p ep) Q E s:=by
 unfold setNextDrawn
 refine wpAny_bind (wpAny_setState_of ho hd hf ?_)
 dsimp only
 rw [if_neg (by simp),he]
 exact wpAny_pure h
theorem next_item {es:Array (Int×Value)} {ord:List Value} {i:Nat} {Q:Option Value→Shared→Prop} (X:SiAt prog w s.heap I a T es ord i) (hi:i < es.size) (na:a≠I) (nT:T≠I)
  (h:∀ v h',ord[i]?=some v→SiAt prog w h' I a T es ord (i + 1)→Heap.SameBut I s.heap h'→Q (some v) { s with heap:=h' }):wpAny (model prog w) A (pyNext (.ref I)) Q E s:=by
 obtain ⟨o,ep,t,first,ho,hx,hd,TB,hI,md⟩:=X
 have hT:s.TypeIs (.ref I) "set_iterator":=⟨_,hI,rfl⟩
 unfold pyNext
 refine wpAny_bind (wpAny_attempt (wpAny_callSpecial?_slot (name:=Str.ofString "__next__") hT slot_si_next (wpAny_call_entry slot_si_next hT entry_si_next ?_ (args_si_next _))))
 unfold Builtin.«set_iterator.__next__» slotArgs
 refine wpAny_bind (wpAny_pure ?_)
 refine wpAny_bind (wpAny_fieldsOf hI rfl ?_)
 dsimp only
 refine wpAny_bind (wpAny_setEntries_of ho hd TB.fit ?_)
 rw [if_neg (by simp)]
 have hpl:t.place.size=es.size:=by
  have:=TB.fit
  simp only [SetTable.fits,Bool.and_eq_true,beq_iff_eq] at this
  exact this.1
 have two:∀ (f:Value) (next:Nat) (v:Value) (R:Fin→Shared→Prop) (E':Value→Shared→Prop),ord[i]?=some v→first=f→(∀ h',Heap.SameBut I s.heap h'→Mode w h' a T es ep t (i + 1) (.int next 0) ord)→(∀ h',SiAt prog w h' I a T es ord (i + 1)→Heap.SameBut I s.heap h'→R (.done (.ret v)) { s with heap:=h' })→
   wpAny (model prog w) A.in1 (do setField (.ref I) 0 (rawInt next); setField (.ref I) 1 (rawInt ((i:Int) + 1)); ret v) R E' s:=fun f next v R E' hv hf md' q=>by
  have g1:(s.heap.update I (Obj.mapFields (·.setIfInBounds 0 (rawInt next)))).get? I=some (siObj (.int next 0) i a es.size ep):=Heap.get?_update_self _ hI rfl
  refine wpAny_bind (wpAny_setField hI rfl (by simp) ?_)
  have g2:((s.heap.update I (Obj.mapFields (·.setIfInBounds 0 (rawInt next)))).update I (Obj.mapFields (·.setIfInBounds 1 (rawInt ((i:Int) + 1))))).get? I=some (siObj (.int next 0) (i + 1) a es.size ep):=Heap.get?_update_self _ g1 rfl
  refine wpAny_bind (wpAny_setField g1 rfl (by simp) (wpAny_pure ?_))
  have sb:=(Heap.SameBut.update s.heap I (Obj.mapFields (·.setIfInBounds 0 (rawInt next)))).trans (Heap.SameBut.update _ I (Obj.mapFields (·.setIfInBounds 1 (rawInt ((i:Int) + 1)))))
  exact q _ ⟨o,ep,t,_,(sb.2 a na).trans ho,hx,hd,TB,g2,md' _ sb⟩ sb
 have fin:∀ v h',ord[i]?=some v→SiAt prog w h' I a T es ord (i + 1)→Heap.SameBut I s.heap h'→∃ v',(Fin.done (.ret v)=.done (.ret v'))∧wpAny (model prog w) A (pure (some v')) Q E { s with heap:=h' }:=fun v h' hv X sb=>⟨v,rfl,wpAny_pure (h v h' hv X sb)⟩
 cases md with
 | text c=>
  have hl:i < (pickOrder (w.params.setOrder a ep) es).size:=by
   have:=(pick_perm (w.params.setOrder a ep) es).length_eq
   rw [Array.length_toList,Array.length_toList] at this
   omega
  show wpAny _ _ (setNext a (Int.toNat ((0:Nat):Int)) (Int.toNat ((i:Nat):Int)) (Int.toNat ((ep:Nat):Int)) >>= _) _ _ _
  rw [Int.toNat_natCast,Int.toNat_natCast,Int.toNat_natCast]
  refine wpAny_bind (setNext_text ho hd TB.fit c ?_)
  rw [Array.getElem?_eq_getElem hl]
  have hv:((pickOrder (w.params.setOrder a ep) es).toList.map (·.2))[i]?=some (pickOrder (w.params.setOrder a ep) es)[i].2:=by
   rw [List.getElem?_map,Array.getElem?_toList,Array.getElem?_eq_getElem hl]
   rfl
  exact two (.int 0 0) 0 _ (fun fin s'=>∃ v',fin=.done (.ret v')∧wpAny (model prog w) A (pure (some v')) Q E s') _ hv rfl (fun h' _=>.text c) fun h' X sb=>fin _ h' hv X sb
 | @drawn ps n' hTt p=>
  have hl:i < ps.length:=by rw [p.length_eq,List.length_range]; exact hi
  have hp:ps[i] < es.size:=List.mem_range.mp (p.mem_iff.mp (List.getElem_mem hl))
  have hv:(ps.map fun p=>(es.getD p (0,.none)).2)[i]?=some es[ps[i]].2:=by
   rw [List.getElem?_map,List.getElem?_eq_getElem hl]
   simp [hp]
  show wpAny _ _ (seqItems? (.ref T) >>= _) _ _ _
  refine wpAny_bind (wpAny_seqItems hTt rfl ?_)
  have hi':(ps.map fun p:Nat=>(.int p 0:Value)).toArray[Int.toNat ((i:Nat):Int)]?=some (.int (ps[i]:Nat) 0):=by
   rw [Int.toNat_natCast]
   simp [hl]
  dsimp only
  rw [hi']
  show wpAny _ _ (setNextDrawn a (Int.toNat ((ps[i]:Nat):Int)) (Int.toNat ((ep:Nat):Int)) >>= _) _ _ _
  rw [Int.toNat_natCast,Int.toNat_natCast]
  refine wpAny_bind (setNext_drawn ho hd TB.fit (Array.getElem?_eq_getElem hp) ?_)
  have g2:(s.heap.update I (Obj.mapFields (·.setIfInBounds 1 (rawInt ((i:Int) + 1))))).get? I=some (siObj (.ref T) (i + 1) a es.size ep):=Heap.get?_update_self _ hI rfl
  refine wpAny_bind (wpAny_setField hI rfl (by simp) (wpAny_pure ?_))
  have sb:=Heap.SameBut.update s.heap I (Obj.mapFields (·.setIfInBounds 1 (rawInt ((i:Int) + 1))))
  exact fin _ _ hv ⟨o,ep,t,_,(sb.2 a na).trans ho,hx,hd,TB,g2,.drawn ((sb.2 T nT).trans hTt) p⟩ sb
 | @place slot c cp hb=>
  have hip:i < t.place.size:=by omega
  show wpAny _ _ (setNext a (Int.toNat ((slot:Nat):Int)) (Int.toNat ((i:Nat):Int)) (Int.toNat ((ep:Nat):Int)) >>= _) _ _ _
  rw [Int.toNat_natCast,Int.toNat_natCast,Int.toNat_natCast]
  refine wpAny_bind (setNext_place ho hd TB c cp ?_)
  rw [hb,Array.getElem?_eq_getElem hi,Array.getElem?_eq_getElem hip]
  have hv:(es.toList.map (·.2))[i]?=some es[i].2:=by
   rw [List.getElem?_map,Array.getElem?_toList,Array.getElem?_eq_getElem hi]
   rfl
  exact two (.int slot 0) (t.place[i] + 1) _ (fun fin s'=>∃ v',fin=.done (.ret v')∧wpAny (model prog w) A (pure (some v')) Q E s') _ hv rfl (fun h' _=>.place c cp (below_next TB.rz.up hip)) fun h' X sb=>fin _ h' hv X sb
theorem next_end {es:Array (Int×Value)} {ord:List Value} {Q:Option Value→Shared→Prop} (hh:A.handled=none) (X:SiAt prog w s.heap I a T es ord es.size)
  (h:∀ h',Heap.ExtBut I s.heap h'→Q none { s with heap:=h' }):wpAny (model prog w) A (pyNext (.ref I)) Q E s:=by
 obtain ⟨o,ep,t,first,ho,hx,hd,TB,hI,md⟩:=X
 have hT:s.TypeIs (.ref I) "set_iterator":=⟨_,hI,rfl⟩
 unfold pyNext
 refine wpAny_bind (wpAny_attempt (wpAny_callSpecial?_slot (name:=Str.ofString "__next__") hT slot_si_next (wpAny_call_entry slot_si_next hT entry_si_next ?_ (args_si_next _))))
 unfold Builtin.«set_iterator.__next__» slotArgs
 refine wpAny_bind (wpAny_pure ?_)
 refine wpAny_bind (wpAny_fieldsOf hI rfl ?_)
 dsimp only
 refine wpAny_bind (wpAny_setEntries_of ho hd TB.fit ?_)
 rw [if_neg (by simp)]
 have hpl:t.place.size=es.size:=by
  have:=TB.fit
  simp only [SetTable.fits,Bool.and_eq_true,beq_iff_eq] at this
  exact this.1
 have stop:∀ (s1:Shared) (f0:Value),s1.heap.get? I=some (siObj f0 es.size a es.size ep)→(∀ h',Heap.ExtBut I s1.heap h'→Q none { s1 with heap:=h' })→
   wpAny (model prog w) A.in1 (do setField (.ref I) 2 .none; raiseNew (← newExc (.type "StopIteration") []):Sem Fin) (fun f s'=>∃ v,f=.done (.ret v)∧wpAny (model prog w) A (pure (some v)) Q E s') (fun e s'=>wpAny (model prog w) A (do if ← isInstance e (.type "StopIteration") then pure none else throw e) Q E s') s1:=fun s1 f0 g q=>by
  refine wpAny_bind (wpAny_setField g rfl (by simp) ?_)
  refine wpAny_bind (m:=newExc (.type "StopIteration") []) ?_
  simp only [newExc,newTuple]
  refine wpAny_bind (wpAny_newObj_type ?_ (by size_fits))
  refine wpAny_bind (m:=firstArgMember _ _) (wpAny_of_eq (a:=Value.none) (by first | rfl | (simp only [firstArgMember]; rfl)) ?_)
  refine wpAny_newObj_type ?_ (by size_fits)
  simp only [raiseNew]
  refine wpAny_bind (wpAny_handled ?_)
  first | rw [show A.in1.handled=none from hh] | rw [hh]
  refine wpAny_bind (wpAny_pure (wpAny_throw ?_))
  refine wpAny_bind (wpAny_isInstance (T:="StopIteration") (b:=true) ⟨_,Heap.get?_push_size _ rfl,rfl⟩ isSubtype_stop ?_)
  exact wpAny_pure (q _ (((Heap.SameBut.update ..).extBut.push _).push _))
 cases md with
 | text c=>
  have hl:(pickOrder (w.params.setOrder a ep) es).size=es.size:=by
   have:=(pick_perm (w.params.setOrder a ep) es).length_eq
   rwa [Array.length_toList,Array.length_toList] at this
  show wpAny _ _ (setNext a (Int.toNat ((0:Nat):Int)) (Int.toNat ((es.size:Nat):Int)) (Int.toNat ((ep:Nat):Int)) >>= _) _ _ _
  rw [Int.toNat_natCast,Int.toNat_natCast,Int.toNat_natCast]
  refine wpAny_bind (setNext_text ho hd TB.fit c ?_)
  rw [Array.getElem?_eq_none (by omega)]
  exact stop s _ hI h
 | @drawn ps n' hTt p=>
  have hl:ps.length=es.size:=by rw [p.length_eq,List.length_range]
  show wpAny _ _ (seqItems? (.ref T) >>= _) _ _ _
  refine wpAny_bind (wpAny_seqItems hTt rfl ?_)
  have hi':(ps.map fun p:Nat=>(.int p 0:Value)).toArray[Int.toNat ((es.size:Nat):Int)]?=none:=by
   rw [Int.toNat_natCast]
   simp [hl]
  dsimp only
  rw [hi']
  have g1:(s.heap.update I (Obj.mapFields (·.setIfInBounds 0 (rawInt 0)))).get? I=some (siObj (.int 0 0) es.size a es.size ep):=Heap.get?_update_self _ hI rfl
  refine wpAny_bind (wpAny_setField hI rfl (by simp) ?_)
  exact stop { s with heap:=s.heap.update I (Obj.mapFields (·.setIfInBounds 0 (rawInt 0))) } _ g1 fun h' x=>h h' fun b o hb e=>x b o hb (((Heap.SameBut.update s.heap I _).2 b hb).trans e)
 | @place slot c cp hb=>
  show wpAny _ _ (setNext a (Int.toNat ((slot:Nat):Int)) (Int.toNat ((es.size:Nat):Int)) (Int.toNat ((ep:Nat):Int)) >>= _) _ _ _
  rw [Int.toNat_natCast,Int.toNat_natCast,Int.toNat_natCast]
  refine wpAny_bind (setNext_place ho hd TB c cp ?_)
  rw [hb,Array.getElem?_eq_none (Nat.le_refl _)]
  exact stop s _ hI h
theorem slot_si_iter:Slot "set_iterator" "__iter__" "set_iterator.__iter__":=
 .of (owner:="set_iterator") (n:="__iter__") (by rw [typeLookup_type,builtinLookup_eq_fast]; kernel_rfl) (by decide +kernel) (by decide +kernel) (by decide +kernel)
  (by first | exact .inl (by decide +kernel) | exact .inr (by decide +kernel)) (by rw [isSubtype_type]; kernel_rfl)
theorem entry_si_iter:entryFor table "set_iterator.__iter__"=some Builtin.«dict_keyiterator.__iter__»:=entryFor_alias (id':="dict_keyiterator.__iter__") (by kernel_rfl) rfl (by decide +kernel) (by kernel_rfl)
theorem args_si_iter (a:Value):argsOk "set_iterator.__iter__" ⟨[a],[]⟩:=by unfold argsOk; kernel_rfl
theorem Mode.stay {h h':Heap} {es:Array (Int×Value)} {ep:Nat} {t:SetTable} {i:Nat} {first:Value} {ord:List Value} (m:Mode w h a T es ep t i first ord) (k:∀ o,h.get? T=some o→h'.get? T=some o):Mode w h' a T es ep t i first ord:=by
 cases m with
 | text c=>exact .text c
 | drawn e p=>exact .drawn (k _ e) p
 | place c cp hb=>exact .place c cp hb
theorem walk_l {es:Array (Int×Value)} {ord:List Value} (hh:A.handled=none) (na:a≠I) (nT:T≠I):Walks prog w A I [I,a,T] [I] es.size (fun i v=>ord[i]?=some v) (fun i h=>SiAt prog w h I a T es ord i) where
 sub:=fun b hb=>by rw [List.mem_singleton.mp hb]; simp
 frame:=fun i h h' X k=>by
  obtain ⟨o,ep,t,first,ho,hx,hd,TB,hI,md⟩:=X
  exact ⟨o,ep,t,first,k a (by simp) o ho,hx,hd,TB,k I (by simp) _ hI,md.stay fun o e=>k T (by simp) o e⟩
 item:=fun i s Q E hi X q=>next_item X hi na nT fun v h' hv X' sb=>q v h' s.toks hv X' fun b o hb e=>(sb.2 b fun z=>hb (by simp [z])).trans e
 done:=fun s Q E X q=>next_end hh X fun h' x=>q h' s.toks fun b o hb e=>x b o (fun z=>hb (by simp [z])) e
 self:=fun i s Q E X q=>by
  obtain ⟨o,ep,t,first,ho,hx,hd,TB,hI,md⟩:=X
  have hT:s.TypeIs (.ref I) "set_iterator":=⟨_,hI,rfl⟩
  refine wpAny_pyIter_slot hT slot_si_iter (wpAny_call_entry slot_si_iter hT entry_si_iter ?_ (args_si_iter _))
  show wpAny _ _ (ret (.ref I)) _ _ s
  exact wpAny_pure ⟨_,rfl, "set_iterator",_,hT,slot_si_next.lookup,q⟩
theorem collect_l {es:Array (Int×Value)} {Q:List Value→Shared→Prop} (hh:A.handled=none) (hS:AtL prog w s.heap a es) (hz:es.size≤sizeLine)
  (h:∀ (h':Heap) (d:Drawn) (tk:Nat) (vs:List Value),vs.Perm (es.toList.map (·.2))→s.heap.objs.size < h'.objs.size→(∀ b o,s.heap.get? b=some o→h'.get? b=some o)→Q vs { s with heap:=h',drawn:=d,toks:=tk }) :
  wpAny (model prog w) A (collect (.ref a)) Q E s:=by
 have alt:a < s.heap.objs.size:=by
  obtain ⟨o,_,_,ho,_⟩:=hS
  exact Heap.lt_size ho
 have hT:∀ h',(∀ b o,s.heap.get? b=some o→h'.get? b=some o)→∀ d tk,Shared.TypeIs { s with heap:=h',drawn:=d,toks:=tk } (.ref a) "set":=fun h' k d tk=>by
  obtain ⟨o,_,_,ho,hx,_⟩:=hS
  exact ⟨o,k a o ho,hx.1⟩
 unfold collect
 refine wpAny_bind (wpAny_runValue (codeAny_builtin PySem.F.entry_proto_collect ?_))
 rw [Around.under_plainId PySem.F.plain_proto_collect _]
 refine wpAny_bind (m:=newList []) (wpAny_newList (wpAny_pure ⟨plainId_quiet PySem.F.plain_list_iadd _,codeAny_builtin entry_list_iadd' ?_⟩))
 rw [Around.under_plainId PySem.F.plain_list_iadd _]
 have k1:∀ b o,s.heap.get? b=some o→(s.heap.push { cls:=.type "list",data:=.seq ([]:List Value).toArray }).get? b=some o:=fun b o e=>Heap.get?_push_of_some _ e
 have g1:(s.heap.push { cls:=.type "list",data:=.seq ([]:List Value).toArray }).get? s.heap.objs.size=some { cls:=.type "list",data:=.seq ([]:List Value).toArray }:=Heap.get?_push_size _ rfl
 have z1:(s.heap.push { cls:=.type "list",data:=.seq ([]:List Value).toArray }).objs.size=s.heap.objs.size + 1:=Heap.size_push ..
 show wpAny _ A.in1 (Builtin.List.listExtendWith (.ref s.heap.objs.size) (.ref a) (.ref s.heap.objs.size)) _ _ _
 generalize s.heap.push { cls:=.type "list",data:=.seq ([]:List Value).toArray }=h1 at k1 g1 z1 ⊢
 unfold Builtin.List.listExtendWith
 refine wpAny_bind (wpAny_typeOf (hT h1 k1 _ _) ?_)
 have nS:s.heap.objs.size≠a:=Nat.ne_of_gt alt
 have e1:Builtin.List.listSameRef (.ref s.heap.objs.size) (.ref a)=false:=by simp [Builtin.List.listSameRef,nS]
 rw [e1,if_neg (by decide)]
 refine wpAny_bind (iter_l (s:={ s with heap:=h1 }) (hS.stay (k1 a)) hz fun h2 d I T ord X po lI lI2 na nT lT k2=>?_)
 have k12:∀ b o,s.heap.get? b=some o→h2.get? b=some o:=fun b o e=>k2 b o (k1 b o e)
 refine wpAny_bind (wpAny_holding ?_)
 unfold Builtin.List.listLengthHint
 refine wpAny_bind (wpAny_specialOf (hT h2 k12 _ _) PySem.F.slot_set_len.lookup ?_)
 have hsp:splitId "set.__len__"=some ("set", "__len__"):=by kernel_rfl
 dsimp only
 rw [hsp]
 dsimp only
 refine wpAny_bind (wpAny_isInstance (hT h2 k12 _ _) sub_set_self ?_)
 rw [if_neg (by decide)]
 rw [if_pos (by decide +kernel)]
 refine wpAny_bind (wpAny_typeOf (hT h2 k12 _ _) ?_)
 refine wpAny_pure ?_
 rw [if_pos (by decide +kernel)]
 refine wpAny_bind (wpAny_rule ?_)
 have g2:=k2 _ _ g1
 refine wpAny_bind (m:=Builtin.List.listTouch (.ref s.heap.objs.size)) ?_
 show wpAny _ A.in1 (updateSeq s.heap.objs.size (·.push .none) >>= fun _=>updateSeq s.heap.objs.size (·.pop)) _ _ _
 refine wpAny_bind (wpAny_updateSeq g2 rfl ?_)
 have g3:=Heap.get?_update_self (Obj.mapSeq (·.push Value.none)) g2 rfl
 refine wpAny_updateSeq g3 rfl ?_
 have g4:=Heap.get?_update_self (Obj.mapSeq (·.pop)) g3 rfl
 have sb:=(Heap.SameBut.update h2 s.heap.objs.size (Obj.mapSeq (·.push Value.none))).trans (Heap.SameBut.update _ s.heap.objs.size (Obj.mapSeq (·.pop)))
 have lS:s.heap.objs.size < I:=by
  have lI:h1.objs.size≤I:=lI
  omega
 have nST:s.heap.objs.size≠T:=fun z=>by
  rcases lT with lT | lT
  ·exact nS (z.trans lT)
  ·have lT:h1.objs.size≤T:=lT
   omega
 have X4:=(walk_l (prog:=prog) (w:=w) (A:=A.in1) (a:=a) (T:=T) (es:=es) (ord:=ord) hh na nT).frame 0 h2 _ X fun b hb o e=>(sb.2 b fun z=>by
  subst z
  simp only [List.mem_cons,List.not_mem_nil,or_false] at hb
  rcases hb with hb | hb | hb
  ·exact Nat.ne_of_lt lS hb
  ·exact nS hb
  ·exact nST hb).trans e
 have nf:s.heap.objs.size∉[I,a,T]:=fun hb=>by
  simp only [List.mem_cons,List.not_mem_nil,or_false] at hb
  rcases hb with hb | hb | hb
  ·exact Nat.ne_of_lt lS hb
  ·exact nS hb
  ·exact nST hb
 refine wpAny_pure ⟨plainId_quiet PySem.F.plain_extend_loop _,codeAny_extend_loopS ((walk_l (prog:=prog) (w:=w) (a:=a) (T:=T) (es:=es) (ord:=ord) (by simp [hh]) na nT).toS) hz _ nf _ es.size 0 _ _ _ rfl (Nat.zero_le _) X4 g4 (ItemsOf.nil _) fun s' acc c hm hS' hacc=>?_⟩
 refine wpAny_bind (m:=load s.heap.objs.size) (wpAny_load hS' ?_)
 have eo:acc.toList=ord:=by
  have lo:ord.length=es.size:=by rw [po.length_eq,List.length_map,Array.length_toList]
  obtain ⟨h5,h6⟩:=hacc
  apply List.ext_getElem?
  intro j
  by_cases hj:j < es.size
  ·have hj':j < acc.size:=by omega
   rw [Array.getElem?_toList,Array.getElem?_eq_getElem hj']
   exact (h6 j _ (Array.getElem?_eq_getElem hj')).symm
  ·rw [Array.getElem?_toList,Array.getElem?_eq_none (by omega),List.getElem?_eq_none (by omega)]
 obtain ⟨h',g',d',tk',os'⟩:=s'
 obtain rfl:g'=s.gens:=hm.gens
 obtain rfl:d'=d:=hm.drawn
 obtain rfl:os'=s.os:=hm.os
 refine wpAny_pure ?_
 rw [eo]
 refine h h' d' tk' ord po (Heap.lt_size hS') fun b o e=>hm.heap b o (fun z=>?_) ((sb.2 b fun z=>?_).trans (k12 b o e))
 ·have lb:=Heap.lt_size e
  rcases List.mem_cons.mp z with z | z
  ·exact Nat.ne_of_lt lb z
  ·exact Nat.ne_of_lt (Nat.lt_trans lb lS) (List.mem_singleton.mp z)
 ·exact Nat.ne_of_lt (Heap.lt_size e) z
def vInt:Value→Int
 | .int n _=>n
 | _=>0
theorem ints_vs:∀ {vs:List Value},(∀ v∈vs,∃ n t,v=.int n t)→IntsAre vs (vs.map vInt)
 | [],_=>.nil
 | v::vs,h=>by
  obtain ⟨n,t,rfl⟩:=h v (by simp)
  exact .cons n t (ints_vs fun v hv=>h v (List.mem_cons_of_mem _ hv))
theorem sorted_l {L:List Int} {Q:Value→Shared→Prop} (hh:A.handled=none) (hS:SetL prog w s.heap a L) (h64:L.length < 64)
  (h:∀ (h':Heap) (d:Drawn) (tk:Nat) (r:Addr) (out:Array Value) (ns:List Int) (e:Nat),IntsAre out.toList ns→ns.Perm L→ns.Pairwise (·≤·)→h'.get? r=some (seqObj "list" out e)→s.heap.objs.size≤r→(∀ b o,s.heap.get? b=some o→h'.get? b=some o)→Q (.ref r) { s with heap:=h',drawn:=d,toks:=tk }) :
  wpAny (model prog w) A (call (.builtin "sorted") [.ref a]) Q E s:=by
 obtain ⟨es,hA,rfl⟩:=hS
 have hel:ElemsOf (intKind prog w) es.toList:=by
  obtain ⟨_,_,_,_,_,_,TB⟩:=hA
  exact TB.el
 rw [List.length_map,Array.length_toList] at h64
 refine Calls.call_function_entry kind_sorted plain_sorted entry_sorted (args_sorted1 _) ?_
 unfold Builtin.«sorted»
 refine wpAny_bind (m:=checkCount "sorted" 1 1 _) (wpAny_pure ?_)
 refine wpAny_bind (collect_l (by simp [hh]) hA (Nat.le_trans (Nat.le_of_lt h64) (by decide)) fun h1 d tk vs p l1 k1=>?_)
 have hi:∀ v∈vs,∃ n t,v=.int n t:=fun v hv=>by
  obtain ⟨e,he,rfl⟩:=List.mem_map.mp (p.mem_iff.mp hv)
  obtain ⟨n,t,e1,_⟩:=el_int hel he
  exact ⟨n,t,e1⟩
 have pn:(vs.map vInt).Perm (es.toList.map enK):=by
  refine (p.map vInt).trans (List.Perm.of_eq ?_)
  rw [List.map_map]
  refine List.map_congr_left fun e he=>?_
  obtain ⟨n,t,e1,e2⟩:=el_int hel he
  show vInt e.2=enK e
  rw [e2,e1]
  rfl
 have vl:vs.length < 64:=by
  rw [p.length_eq,List.length_map,Array.length_toList]
  exact h64
 refine wpAny_bind (wpAny_newList ?_ (Nat.le_trans (Nat.le_of_lt vl) (by decide)))
 have g:(h1.push (seqObj "list" vs.toArray 0)).get? h1.objs.size=some (seqObj "list" vs.toArray 0):=Heap.get?_push_size _ rfl
 refine wpAny_bind (wpAny_holding (wpAny_call_entry slot_list_sort ⟨_,g,rfl⟩ entry_list_sort (list_sort_tree (s:={ s with heap:=h1.push (seqObj "list" vs.toArray 0),drawn:=d,toks:=tk }) g (ints_vs hi) vl fun out ns' a1 a2 a3=>⟨_,rfl,?_⟩) (args_list_sort _)))
 obtain ⟨e,he⟩:=sortedHeap_at (out:=out) g
 refine wpAny_pure ⟨_,rfl,h _ d tk h1.objs.size out ns' e a1 (a2.trans pn) a3 he (Nat.le_of_lt l1) fun b o hb=>?_⟩
 have hb1:=k1 b o hb
 have lb:=Heap.lt_size hb1
 rw [sortedHeap_old (Nat.ne_of_lt lb) (by rw [size_push']; exact Nat.lt_succ_of_lt lb)]
 exact Heap.get?_push_of_some _ hb1
end
theorem Inv.drew {X:Cx} {pins:List (Addr×Obj)} {σ:St} {H:Hp} {s:Shared} (I:Inv X pins σ H s) (d:Drawn):Inv X pins σ H { s with drawn:=d }:=⟨I.ok,I.os,I.bare,I.base,I.loc,I.cell,I.free,I.freeC,I.pin,I.hok,I.len⟩
def LS (P:Program) (w:World) (a:Addr) (L:List Int):HO:=.ext fun h=>SetL P w h a L
def rSetW (P:Program) (w:World) (K:PySem.W.Frag):List V→Hp→VK→Prop:=fun xs H Q=>∃ (a:Addr) (ns:List Int),xs=[.ref a]∧SqL K H a (ns.map V.int)∧ns.length≤1000∧∀ (l:Addr) (L:List Int),H l=none→L.Nodup→(∀ x,x∈L↔x∈ns)→Q (.ref l) (upd H l (LS P w l L))
theorem call_setW {X:Cx} (hc:X.calm=true):CallR X (.type "set") (rSetW X.prog X.w X.K):=by
 intro pins s σ H xs us Q I r h
 obtain ⟨a,ns,rfl,hq,hl,q⟩:=h
 obtain ⟨u,rfl,rx⟩:=vals1 r
 cases rx
 obtain ⟨its,r',pl,hz⟩:=I.list hq
 have hlen:=r'.length
 rw [List.length_map] at hlen
 refine set_list_l (ns:=ns) (I.ok.hd hc) pl.isList (by simpa using ints_of_vals r') (by rw [List.size_toArray,← hlen]; exact Nat.lt_of_le_of_lt (Nat.succ_le_succ hl) (by decide)) fun h' tk L hS nd mem kp=>?_
 refine ⟨.ref s.heap.objs.size,_,I.laid (t':=tk) (o:=LS X.prog X.w s.heap.objs.size L) (fun b o e=>kp b o e) (Nat.le_refl _) ⟨hS,?_,fun _ _ p k=>p.stay k⟩,rfl,q _ L (I.hok.fresh (Nat.le_refl _)) nd mem⟩
 obtain ⟨es,⟨o,_,_,ho,_⟩,_⟩:=hS
 exact ⟨o,ho⟩
def rSortS (P:Program) (w:World):List V→Hp→VK→Prop:=fun xs H Q=>∃ (a:Addr) (L:List Int),xs=[.ref a]∧H a=some (LS P w a L)∧L.length < 64∧∀ (l:Addr) (ns:List Int),H l=none→ns.Perm L→ns.Pairwise (·≤·)→Q (.ref l) (upd H l (.lst (ns.map V.int)))
theorem call_sortS {X:Cx} (hc:X.calm=true):CallR X (.builtin "sorted") (rSortS X.prog X.w):=by
 intro pins s σ H xs us Q I r h
 obtain ⟨a,L,rfl,ha,h64,q⟩:=h
 obtain ⟨u,rfl,rx⟩:=vals1 r
 cases rx
 have hS:SetL X.prog X.w s.heap a L:=(I.hok a _ ha).1
 refine sorted_l (I.ok.hd hc) hS h64 fun h' d tk r out ns e a1 a2 a3 hr hle kp=>?_
 have hl2:=a2.length_eq
 refine ⟨.ref r,_,(I.drew d).laid (t':=tk) (o:=.lst (ns.map V.int)) (fun b o e=>kp b o e) hle ?_,rfl,q r ns (I.hok.fresh hle) a2 a3⟩
 refine ⟨by rw [List.length_map,hl2]; exact Nat.le_trans (Nat.le_of_lt h64) (by decide),out.toList,e,vals_of_ints a1,?_⟩
 rw [Array.toArray_toList]
 exact hr
end L2
namespace L2
open PySem
abbrev Pb:=SetTable.Probe
def adv (m:Nat) (p:Pb):Pb:=
 if p.more > 0 then { p with j:=p.j + 1,more:=p.more - 1 } else { p with j:=(SetTable.leap m p.i p.perturb).1,more:=SetTable.runEnd m (SetTable.leap m p.i p.perturb).1 - (SetTable.leap m p.i p.perturb).1,i:=(SetTable.leap m p.i p.perturb).1,perturb:=(SetTable.leap m p.i p.perturb).2 }
theorem adv_eq (t:SetTable) (p:Pb):t.advance p=adv t.mask p:=rfl
def pst (m:Nat) (h:Int):Pb:={ j:=SetTable.bits h % (m + 1),more:=SetTable.runEnd m (SetTable.bits h % (m + 1)) - SetTable.bits h % (m + 1),i:=SetTable.bits h % (m + 1),perturb:=SetTable.bits h,dummy:=none }
theorem pst_eq (t:SetTable) (h:Int):t.probeStart h=pst t.mask h:=rfl
def stp (m:Nat):Nat→Pb→Pb
 | 0,p=>p
 | n + 1,p=>stp m n (adv m p)
theorem stp_add (m:Nat):∀ (a b:Nat) (p:Pb),stp m (a + b) p=stp m b (stp m a p)
 | 0,b,p=>by rw [Nat.zero_add]; rfl
 | a + 1,b,p=>by
  rw [Nat.succ_add]
  exact stp_add m a b (adv m p)
theorem stp_succ (m n:Nat) (p:Pb):stp m (n + 1) p=adv m (stp m n p):=stp_add m n 1 p
theorem stp_dummy (m:Nat):∀ (n:Nat) (p:Pb),(stp m n p).dummy=p.dummy
 | 0,_=>rfl
 | n + 1,p=>by
  rw [stp,stp_dummy m n]
  unfold adv
  split <;> rfl
theorem run_le (m i:Nat):SetTable.runEnd m i - i≤9:=by
 unfold SetTable.runEnd
 split <;> omega
theorem stp_run (m:Nat):∀ (r:Nat) (p:Pb),r≤p.more→stp m r p={ p with j:=p.j + r,more:=p.more - r }
 | 0,p,_=>rfl
 | r + 1,p,h=>by
  rw [stp]
  have e:adv m p={ p with j:=p.j + 1,more:=p.more - 1 }:=by
   unfold adv
   rw [if_pos (by omega)]
  rw [e,stp_run m r _ (by show r≤p.more - 1; omega)]
  simp only [SetTable.Probe.mk.injEq,and_true,true_and]
  omega
def lps (m:Nat):Nat→Nat×Nat→Nat×Nat
 | 0,x=>x
 | n + 1,x=>lps m n (SetTable.leap m x.1 x.2)
theorem lps_succ (m:Nat):∀ (n:Nat) (x:Nat×Nat),lps m (n + 1) x=SetTable.leap m (lps m n x).1 (lps m n x).2
 | 0,_=>rfl
 | n + 1,x=>lps_succ m n _
theorem lps_pert (m:Nat):∀ (n:Nat) (x:Nat×Nat),(lps m n x).2=x.2 / 32 ^ n
 | 0,x=>by simp [lps]
 | n + 1,x=>by
  rw [lps_succ,Nat.pow_succ,← Nat.div_div_eq_div_mul,← lps_pert m n x]
  rfl
def hd (m:Nat) (p:Pb) (x:Nat×Nat):Pb:={ p with j:=x.1,more:=SetTable.runEnd m x.1 - x.1,i:=x.1,perturb:=x.2 }
theorem stp_leap (m:Nat) (p:Pb):stp m (p.more + 1) p=hd m p (SetTable.leap m p.i p.perturb):=by
 rw [stp_succ,stp_run m p.more p (Nat.le_refl _)]
 unfold adv hd
 rw [if_neg (by show ¬ p.more - p.more > 0; omega)]
theorem stp_lps (m:Nat) {p:Pb} (hp:p.more≤9):∀ L:Nat,∃ n,n≤10 * (L + 1)∧stp m n p=hd m p (lps m (L + 1) (p.i,p.perturb))
 | 0=>⟨p.more + 1,by omega,stp_leap m p⟩
 | L + 1=>by
  obtain ⟨n,h1,h2⟩:=stp_lps m hp L
  have hr:=run_le m (lps m (L + 1) (p.i,p.perturb)).1
  refine ⟨n + ((hd m p (lps m (L + 1) (p.i,p.perturb))).more + 1),?_,?_⟩
  ·show n + (SetTable.runEnd m (lps m (L + 1) (p.i,p.perturb)).1 - (lps m (L + 1) (p.i,p.perturb)).1 + 1)≤_
   omega
  ·rw [stp_add,h2,stp_leap,lps_succ m (L + 1)]
   rfl
def orb (m:Nat):Nat→Nat→Nat
 | 0,i=>i
 | n + 1,i=>orb m n ((i * 5 + 1) % (m + 1))
theorem orb_add (m:Nat):∀ (a b i:Nat),orb m (a + b) i=orb m b (orb m a i)
 | 0,b,i=>by rw [Nat.zero_add]; rfl
 | a + 1,b,i=>by
  rw [Nat.succ_add]
  exact orb_add m a b _
theorem lps_orb (m:Nat):∀ (n i:Nat),lps m n (i,0)=(orb m n i,0)
 | 0,_=>rfl
 | n + 1,i=>by
  have e:SetTable.leap m i 0=((i * 5 + 1) % (m + 1),0):=by simp [SetTable.leap]
  show lps m n (SetTable.leap m i 0)=_
  rw [e]
  exact lps_orb m n _
def orbL (m:Nat):Nat→Nat→List Nat
 | 0,_=>[]
 | n + 1,i=>i::orbL m n ((i * 5 + 1) % (m + 1))
theorem orbL_mem {m e:Nat}:∀ {n i:Nat},e∈orbL m n i→∃ k,k < n∧orb m k i=e
 | 0,_,h=>nomatch h
 | n + 1,i,h=>by
  rcases List.mem_cons.mp h with rfl | h
  ·exact ⟨0,Nat.succ_pos _,rfl⟩
  ·obtain ⟨k,h1,h2⟩:=orbL_mem h
   exact ⟨k + 1,Nat.succ_lt_succ h1,h2⟩
def Msk (m:Nat):Prop:=m=7∨m=31∨m=127
theorem orb7:(List.range 8).all (fun e=>(orbL 7 8 0).contains e)=true∧orb 7 8 0=0:=by decide +kernel
theorem orb31:(List.range 32).all (fun e=>(orbL 31 32 0).contains e)=true∧orb 31 32 0=0:=by decide +kernel
theorem orb127:(List.range 128).all (fun e=>(orbL 127 128 0).contains e)=true∧orb 127 128 0=0:=by decide +kernel
theorem orb_all {m:Nat} (hm:Msk m):(List.range (m + 1)).all (fun e=>(orbL m (m + 1) 0).contains e)=true∧orb m (m + 1) 0=0:=by
 rcases hm with rfl | rfl | rfl
 ·exact orb7
 ·exact orb31
 ·exact orb127
theorem orb_cov {m:Nat} (hm:Msk m) {i e:Nat} (hi:i≤m) (he:e≤m):∃ n,n≤m∧orb m n i=e:=by
 obtain ⟨h1,h2⟩:=orb_all hm
 have g:∀ e,e≤m→∃ k,k < m + 1∧orb m k 0=e:=fun e he=>orbL_mem (by
  have:=List.all_eq_true.mp h1 e (List.mem_range.mpr (by omega))
  simpa using this)
 obtain ⟨a,ha,rfl⟩:=g i hi
 obtain ⟨b,hb,rfl⟩:=g e he
 by_cases h:a≤b
 ·exact ⟨b - a,by omega,by rw [← orb_add,show a + (b - a)=b by omega]⟩
 ·refine ⟨b + (m + 1) - a,by omega,?_⟩
  rw [← orb_add,show a + (b + (m + 1) - a)=(m + 1) + b by omega,orb_add,h2]
theorem visit {m:Nat} (hm:Msk m) {p:Pb} (hp:p.more≤9) (hpt:p.perturb < 2 ^ 64) {e:Nat} (he:e≤m):∃ L,L≤m∧∃ n,n≤10 * (13 + L)∧stp m n p=hd m p (lps m (13 + L) (p.i,p.perturb))∧(stp m n p).j=e:=by
 have h13:(lps m 13 (p.i,p.perturb)).2=0:=by
  rw [lps_pert]
  exact Nat.div_eq_of_lt (Nat.lt_trans hpt (by decide))
 have hi13:(lps m 13 (p.i,p.perturb)).1≤m:=by
  rw [lps_succ]
  exact Nat.le_of_lt_succ (Nat.mod_lt _ (Nat.succ_pos _))
 obtain ⟨L,hL,e1⟩:=orb_cov hm hi13 he
 have e2:∀ L x,lps m (13 + L) x=lps m L (lps m 13 x):=fun L x=>by
  induction L with
  | zero=>rfl
  | succ L ih=>rw [show 13 + (L + 1)=(13 + L) + 1 by omega,lps_succ m (13 + L),ih,lps_succ m L]
 obtain ⟨n,h1,h2⟩:=stp_lps m hp (12 + L)
 rw [show 12 + L + 1=13 + L by omega] at h1 h2
 refine ⟨L,hL,n,h1,h2,?_⟩
 rw [h2]
 show (lps m (13 + L) (p.i,p.perturb)).1=e
 rw [e2,show lps m 13 (p.i,p.perturb)=((lps m 13 (p.i,p.perturb)).1,0) from Prod.ext rfl h13,lps_orb]
 exact e1
structure Pz2 (m:Nat) (p:Pb):Prop where
 jl:p.j + p.more≤m
 mo:p.more≤9
 pt:p.perturb < 2 ^ 64
theorem bits_lt (h:Int):SetTable.bits h < 2 ^ 64:=by
 unfold SetTable.bits
 have h1:=Int.emod_lt_of_pos h (show (0:Int) < 2 ^ 64 by decide)
 have h2:=Int.emod_nonneg h (show (2 ^ 64:Int)≠0 by decide)
 omega
theorem run_in (m i:Nat) (h:i≤m):i + (SetTable.runEnd m i - i)≤m:=by
 unfold SetTable.runEnd
 split <;> omega
theorem pst_pz (m:Nat) (h:Int):Pz2 m (pst m h):=⟨run_in m _ (Nat.le_of_lt_succ (Nat.mod_lt _ (Nat.succ_pos _))),run_le m _,bits_lt h⟩
theorem adv_pz2 {m:Nat} {p:Pb} (P:Pz2 m p):Pz2 m (adv m p):=by
 have:=P.jl
 have:=P.mo
 have:=P.pt
 unfold adv
 split
 ·exact ⟨by dsimp only; omega,by dsimp only; omega,by assumption⟩
 ·refine ⟨run_in m _ (Nat.le_of_lt_succ (Nat.mod_lt _ (Nat.succ_pos _))),run_le m _,?_⟩
  show p.perturb / 32 < 2 ^ 64
  exact Nat.lt_of_le_of_lt (Nat.div_le_self _ _) P.pt
theorem stp_pz2 {m:Nat}:∀ (n:Nat) {p:Pb},Pz2 m p→Pz2 m (stp m n p)
 | 0,_,P=>P
 | n + 1,_,P=>stp_pz2 n (adv_pz2 P)
theorem slot_in {t:SetTable} (R:Rz t) {i:Nat} (hi:i < t.place.size):t.slot t.place[i]=.live i:=by
 obtain ⟨b1,b2,b3⟩:=below_ok R.up t.place[i]
 have hb:SetTable.below t.place t.place[i]=i:=by
  rcases Nat.lt_trichotomy (SetTable.below t.place t.place[i]) i with z | z | z
  ·have h1:=b3 (SetTable.below t.place t.place[i]) (by omega) (Nat.le_refl _)
   have h2:=(List.pairwise_iff_getElem.mp R.up) _ i (by simp; omega) (by simpa using hi) z
   simp at h2
   omega
  ·exact z
  ·have:=b2 i hi z
   omega
 unfold SetTable.slot
 dsimp only
 rw [hb,Array.getElem?_eq_getElem hi]
 simp
theorem slot_out {t:SetTable} (R:Rz t) {j:Nat} (h:j∉t.place.toList):t.slot j=.empty:=by
 have hd:=no_dummy R j
 unfold SetTable.slot at hd ⊢
 dsimp only at hd ⊢
 by_cases c:(t.place[SetTable.below t.place j]? == some j)=true
 ·have:=eq_of_beq c
  exact absurd (by rw [← Array.getElem?_toList] at this; exact List.mem_of_getElem? this) h
 ·rw [if_neg c] at hd ⊢
  by_cases c2:SetTable.has t.dummies j=true
  ·rw [if_pos c2] at hd
   exact absurd rfl hd
  ·rw [if_neg c2]
theorem live_in {t:SetTable} (R:Rz t) {i j:Nat} (h:t.slot j=.live i):∃ hi:i < t.place.size,t.place[i]=j:=by
 by_cases hj:j∈t.place.toList
 ·obtain ⟨k,hk,e⟩:=List.mem_iff_getElem.mp hj
  have hk':k < t.place.size:=by simpa using hk
  have e':t.place[k]=j:=by simpa using e
  have:=slot_in R hk'
  rw [e',h] at this
  cases this
  exact ⟨hk',e'⟩
 ·rw [slot_out R hj] at h
  cases h
theorem free_ex {t:SetTable} (R:Rz t) (hf:t.place.size≤t.mask):∃ e,e≤t.mask∧e∉t.place.toList:=by
 refine Classical.byContradiction fun hn=>?_
 have hall:∀ e,e≤t.mask→e∈t.place.toList:=fun e he=>Classical.byContradiction fun h=>hn ⟨e,he,h⟩
 have nd:t.place.toList.Nodup:=R.up.imp fun h=>Nat.ne_of_lt h
 have key:∀ (n:Nat) (L:List Nat),L.Nodup→(∀ e,e < n→e∈L)→n≤L.length:=by
  intro n
  induction n with
  | zero=>exact fun L _ _=>Nat.zero_le _
  | succ n ih=>
   intro L hL hh
   have h1:=hh n (Nat.lt_succ_self n)
   have h2:=ih (L.erase n) (hL.erase n) fun e he=>(List.mem_erase_of_ne (Nat.ne_of_lt he)).mpr (hh e (Nat.lt_succ_of_lt he))
   rw [List.length_erase_of_mem h1] at h2
   have:=List.length_pos_of_mem h1
   omega
 have:=key (t.mask + 1) t.place.toList nd fun e he=>hall e (Nat.le_of_lt_succ he)
 rw [Array.length_toList] at this
 omega
theorem go_ex {t:SetTable} (R:Rz t) {g:Nat→Int} {h:Int}:∀ (fuel n:Nat) (p:Pb),n < fuel→t.slot (stp t.mask n p).j=.empty→∃ met,SetTable.probe.go t g h fuel p=some met
 | 0,_,_,hn,_=>absurd hn (Nat.not_lt_zero _)
 | fuel + 1,n,p,hn,he=>by
  unfold SetTable.probe.go
  cases hs:t.slot p.j with
  | empty=>exact ⟨_,rfl⟩
  | dummy=>exact absurd hs (no_dummy R _)
  | live i=>
   dsimp only
   by_cases c:(g i == h)=true
   ·rw [if_pos c]
    exact ⟨_,rfl⟩
   ·rw [if_neg c]
    cases n with
    | zero=>
     rw [show (stp t.mask 0 p).j=p.j from rfl,hs] at he
     cases he
    | succ n=>exact go_ex R fuel n (t.advance p) (by omega) (by rw [adv_eq]; exact he)
def MetIs (t:SetTable) (g:Nat→Int) (h:Int) (p:Pb) (n:Nat):SetTable.Met→Prop
 | .empty j d=>j=(stp t.mask n p).j∧t.slot j=.empty∧d=p.dummy
 | .candidate j i next=>j=(stp t.mask n p).j∧t.slot j=.live i∧g i=h∧next=stp t.mask (n + 1) p
theorem go_is {t:SetTable} (R:Rz t) {g:Nat→Int} {h:Int}:∀ (fuel:Nat) (p:Pb) (met:SetTable.Met),SetTable.probe.go t g h fuel p=some met→∃ n,n < fuel∧(∀ k,k < n→∃ i,t.slot (stp t.mask k p).j=.live i∧g i≠h)∧MetIs t g h p n met
 | 0,p,met,e=>by
  unfold SetTable.probe.go at e
  cases e
 | fuel + 1,p,met,e=>by
  unfold SetTable.probe.go at e
  cases hs:t.slot p.j with
  | empty=>
   rw [hs] at e
   cases e
   exact ⟨0,Nat.succ_pos _,fun k hk=>absurd hk (Nat.not_lt_zero _),rfl,hs,rfl⟩
  | dummy=>exact absurd hs (no_dummy R _)
  | live i=>
   rw [hs] at e
   dsimp only at e
   by_cases c:(g i == h)=true
   ·rw [if_pos c] at e
    cases e
    exact ⟨0,Nat.succ_pos _,fun k hk=>absurd hk (Nat.not_lt_zero _),rfl,hs,eq_of_beq c,rfl⟩
   ·rw [if_neg c,adv_eq] at e
    obtain ⟨n,hn,h1,h2⟩:=go_is R fuel (adv t.mask p) met e
    refine ⟨n + 1,Nat.succ_lt_succ hn,fun k hk=>?_,?_⟩
    ·cases k with
     | zero=>exact ⟨i,hs,fun z=>c (by rw [z]; exact beq_self_eq_true h)⟩
     | succ k=>exact h1 k (by omega)
    ·cases met with
     | empty j d=>
      obtain ⟨e1,e2,e3⟩:=h2
      refine ⟨e1,e2,e3.trans ?_⟩
      have:=stp_dummy t.mask 1 p
      exact this
     | candidate j i next=>exact h2
theorem probe_ex {t:SetTable} (R:Rz t) (hm:Msk t.mask) (hf:t.place.size≤t.mask) {g:Nat→Int} {h:Int} {p:Pb} (P:Pz2 t.mask p):∃ met,t.probe g h p=some met:=by
 obtain ⟨e,he,hn⟩:=free_ex R hf
 obtain ⟨L,hL,n,h1,_,h2⟩:=visit hm P.mo P.pt he
 refine go_ex R _ n p ?_ (by rw [h2]; exact slot_out R hn)
 show n < 10 * (t.mask + 15)
 omega
def Fnd (m:Nat) (pl:List Nat) (h:Int) (j:Nat):Prop:=∃ n,(stp m n (pst m h)).j=j∧∀ k,k < n→(stp m k (pst m h)).j∈pl
theorem Fnd.more {m:Nat} {pl pl':List Nat} {h:Int} {j:Nat} (f:Fnd m pl h j) (hs:∀ x∈pl,x∈pl'):Fnd m pl' h j:=by
 obtain ⟨n,h1,h2⟩:=f
 exact ⟨n,h1,fun k hk=>hs _ (h2 k hk)⟩
structure TabR (t:SetTable) (hs:List Int):Prop where
 rz:Rz t
 len:t.place.size=hs.length
 msk:Msk t.mask
 room:hs.length≤t.mask
 fnd:∀ x∈hs.zip t.place.toList,Fnd t.mask t.place.toList x.1 x.2
theorem insert_zip {hs:List Int} {pl:List Nat} (hl:hs.length=pl.length) {p:Nat} (hp:p≤hs.length) (h:Int) (j:Nat):(hs.take p++h::hs.drop p).zip (pl.take p++j::pl.drop p)=(hs.zip pl).take p++(h,j)::(hs.zip pl).drop p:=by
 rw [List.zip_append (by rw [List.length_take,List.length_take]; omega),List.zip_cons_cons]
 unfold List.zip
 rw [List.take_zipWith,List.drop_zipWith]
theorem TabR.put {t:SetTable} {hs:List Int} (T:TabR t hs) {h:Int} {n:Nat} (he:(stp t.mask n (pst t.mask h)).j∉t.place.toList) (hn:∀ k,k < n→(stp t.mask k (pst t.mask h)).j∈t.place.toList) (hr:hs.length + 1≤t.mask) :
  TabR (t.put (stp t.mask n (pst t.mask h)).j).1 (hs.take (SetTable.below t.place (stp t.mask n (pst t.mask h)).j)++h::hs.drop (SetTable.below t.place (stp t.mask n (pst t.mask h)).j)):=by
 have hjm:(stp t.mask n (pst t.mask h)).j≤t.mask:=by
  have:=(stp_pz2 n (pst_pz t.mask h)).jl
  omega
 have hf:Fnd t.mask t.place.toList h (stp t.mask n (pst t.mask h)).j:=⟨n,rfl,hn⟩
 generalize (stp t.mask n (pst t.mask h)).j=j at he hjm hf ⊢
 have hb:=(below_ok T.rz.up j).1
 have hl:hs.length=t.place.toList.length:=T.len.symm.trans Array.length_toList.symm
 have hbl:SetTable.below t.place j≤hs.length:=by rw [← T.len]; exact hb
 have hp:((t.put j).1.place).toList=t.place.toList.take (SetTable.below t.place j)++j::t.place.toList.drop (SetTable.below t.place j):=insert_list _ _ _
 have hsub:∀ x∈t.place.toList,x∈((t.put j).1.place).toList:=fun x hx=>by
  rw [hp]
  rw [← List.take_append_drop (SetTable.below t.place j) t.place.toList] at hx
  rcases List.mem_append.mp hx with z | z
  ·exact List.mem_append_left _ z
  ·exact List.mem_append_right _ (List.mem_cons_of_mem _ z)
 have hlen:(hs.take (SetTable.below t.place j)++h::hs.drop (SetTable.below t.place j)).length=hs.length + 1:=by
  rw [List.length_append,List.length_cons,List.length_take,List.length_drop]
  omega
 refine ⟨put_rz T.rz he hjm,?_,T.msk,?_,?_⟩
 ·rw [hlen,← Array.length_toList,hp,List.length_append,List.length_cons,List.length_take,List.length_drop,← hl]
  omega
 ·rw [hlen]
  exact hr
 ·intro x hx
  have hm:(t.put j).1.mask=t.mask:=rfl
  rw [hm]
  rw [hp,insert_zip hl hbl] at hx
  have old:x∈hs.zip t.place.toList→Fnd t.mask ((t.put j).1.place).toList x.1 x.2:=fun z=>(T.fnd x z).more hsub
  rcases List.mem_append.mp hx with z | z
  ·exact old (List.mem_of_mem_take z)
  ·rcases List.mem_cons.mp z with z | z
   ·rw [z]
    exact hf.more hsub
   ·exact old (List.mem_of_mem_drop z)
def ow (o:Array (Option Nat)) (j:Nat):Option Nat:=o.getD j none
theorem ow_set {o:Array (Option Nat)} {j:Nat} (hj:j < o.size) (k i:Nat):ow (o.setIfInBounds j (some k)) i=if i=j then some k else ow o i:=by
 unfold ow
 rw [Array.getD_eq_getD_getElem?,Array.getD_eq_getD_getElem?,Array.getElem?_setIfInBounds]
 by_cases e:j=i
 ·subst e
  rw [if_pos rfl,if_pos rfl,if_pos hj]
  rfl
 ·rw [if_neg e,if_neg (fun z=>e z.symm)]
def owL (o:Array (Option Nat)) (L:List Nat):List Nat:=L.filterMap (ow o)
theorem owL_set {o:Array (Option Nat)} {j k:Nat} (hj:j < o.size) (h0:ow o j=none):∀ {L:List Nat},L.Nodup→(j∉L→owL (o.setIfInBounds j (some k)) L=owL o L)∧(j∈L→(owL (o.setIfInBounds j (some k)) L).Perm (owL o L++[k]))
 | [],_=>⟨fun _=>rfl,fun h=>nomatch h⟩
 | x::L,hL=>by
  obtain ⟨h1,h2⟩:=List.nodup_cons.mp hL
  obtain ⟨i1,i2⟩:=owL_set (k:=k) hj h0 h2
  unfold owL at i1 i2 ⊢
  rw [List.filterMap_cons,List.filterMap_cons,ow_set hj]
  refine ⟨fun hn=>?_,fun hm=>?_⟩
  ·have hx:x≠j:=fun z=>hn (by rw [z]; exact List.mem_cons_self ..)
   rw [if_neg hx,i1 fun z=>hn (List.mem_cons_of_mem _ z)]
  ·by_cases hx:x=j
   ·subst hx
    rw [if_pos rfl,h0,i1 h1]
    exact (List.perm_append_singleton _ _).symm
   ·rw [if_neg hx]
    have:=i2 ((List.mem_cons.mp hm).resolve_left (Ne.symm hx))
    cases ow o x with
    | none=>exact this
    | some v=>exact this.cons v
def FreeAt (m:Nat) (o:Array (Option Nat)) (p:Pb) (j:Nat):Prop:=j < o.size∧ow o j=none∧∃ n,(stp m n p).j=j∧∀ k,k < n→∃ v,ow o (stp m k p).j=some v
theorem none_at {o:Array (Option Nat)} {j:Nat}:(o.getD j (some 0)).isNone=true↔j < o.size∧ow o j=none:=by
 unfold ow
 rw [Array.getD_eq_getD_getElem?,Array.getD_eq_getD_getElem?]
 by_cases h:j < o.size
 ·rw [Array.getElem?_eq_getElem h]
  cases o[j] <;> simp [h]
 ·rw [Array.getElem?_eq_none (by omega)]
  simp [h]
theorem free_is {m:Nat} {o:Array (Option Nat)} (hsz:o.size=m + 1):∀ (fuel:Nat) {p:Pb} {j:Nat},p.i≤m→SetTable.layClean.free m o fuel p.i p.perturb=some j→FreeAt m o (hd m p (p.i,p.perturb)) j
 | 0,p,j,_,e=>by
  unfold SetTable.layClean.free at e
  cases e
 | fuel + 1,p,j,hi,e=>by
  unfold SetTable.layClean.free at e
  have hrun:∀ r,r≤SetTable.runEnd m p.i - p.i→(stp m r (hd m p (p.i,p.perturb))).j=p.i + r:=fun r hr=>by
   rw [stp_run m r _ hr]
   rfl
  have hin:=run_in m p.i hi
  have hre:p.i≤SetTable.runEnd m p.i:=by
   unfold SetTable.runEnd
   split <;> omega
  split at e
  ·rename_i k hk
   cases e
   have h1:=List.find?_some hk
   have hkm:=List.mem_range.mp (List.mem_of_find?_eq_some hk)
   obtain ⟨g1,g2⟩:=none_at.mp h1
   refine ⟨g1,g2,k,hrun k (by omega),fun r hr=>?_⟩
   rw [hrun r (by omega)]
   have hrn:=List.find?_range_eq_some.mp hk
   have:=hrn.2.2 r hr
   cases hv:ow o (p.i + r) with
   | some v=>exact ⟨v,rfl⟩
   | none=>
    have z:=none_at.mpr ⟨show p.i + r < o.size by omega,hv⟩
    rw [z] at this
    cases this
  ·rename_i hk
   have hall:∀ r,r≤SetTable.runEnd m p.i - p.i→∃ v,ow o (p.i + r)=some v:=fun r hr=>by
    have:=List.find?_eq_none.mp hk r (List.mem_range.mpr (by omega))
    cases hv:ow o (p.i + r) with
    | some v=>exact ⟨v,rfl⟩
    | none=>exact absurd (none_at.mpr ⟨show p.i + r < o.size by omega,hv⟩) this
   have hl:(SetTable.leap m p.i p.perturb).1≤m:=Nat.le_of_lt_succ (Nat.mod_lt _ (Nat.succ_pos _))
   obtain ⟨f1,f2,n,f3,f4⟩:=free_is hsz fuel (p:=hd m p (SetTable.leap m p.i p.perturb)) hl e
   have hst:stp m (SetTable.runEnd m p.i - p.i + 1) (hd m p (p.i,p.perturb))=hd m p (SetTable.leap m p.i p.perturb):=stp_leap m (hd m p (p.i,p.perturb))
   have hhd:hd m (hd m p (SetTable.leap m p.i p.perturb)) ((hd m p (SetTable.leap m p.i p.perturb)).i,(hd m p (SetTable.leap m p.i p.perturb)).perturb)=hd m p (SetTable.leap m p.i p.perturb):=rfl
   rw [hhd] at f3 f4
   refine ⟨f1,f2,SetTable.runEnd m p.i - p.i + 1 + n,by rw [stp_add,hst]; exact f3,fun k hk=>?_⟩
   by_cases hkr:k≤SetTable.runEnd m p.i - p.i
   ·rw [hrun k hkr]
    exact hall k hkr
   ·have:=f4 (k - (SetTable.runEnd m p.i - p.i + 1)) (by omega)
    rw [← hst,← stp_add,show SetTable.runEnd m p.i - p.i + 1 + (k - (SetTable.runEnd m p.i - p.i + 1))=k by omega] at this
    exact this
theorem free_ex2 {m:Nat} {o:Array (Option Nat)}:∀ (fuel L:Nat) (x:Nat×Nat),L < fuel→(lps m L x).1 < o.size→ow o (lps m L x).1=none→∃ j,SetTable.layClean.free m o fuel x.1 x.2=some j
 | 0,_,_,h,_,_=>absurd h (Nat.not_lt_zero _)
 | fuel + 1,L,x,h,h1,h2=>by
  unfold SetTable.layClean.free
  split
  ·exact ⟨_,rfl⟩
  ·rename_i hk
   cases L with
   | zero=>
    have:=List.find?_eq_none.mp hk 0 (List.mem_range.mpr (by
     have:x.1≤SetTable.runEnd m x.1:=by
      unfold SetTable.runEnd
      split <;> omega
     omega))
    exact absurd (none_at.mpr ⟨h1,h2⟩) this
   | succ L=>exact free_ex2 fuel L (SetTable.leap m x.1 x.2) (by omega) h1 h2
theorem owL_le {o:Array (Option Nat)}:∀ (L:List Nat),(∀ j∈L,∃ v,ow o j=some v)→(owL o L).length=L.length
 | [],_=>rfl
 | x::L,h=>by
  obtain ⟨v,hv⟩:=h x (List.mem_cons_self ..)
  unfold owL
  rw [List.filterMap_cons,hv]
  show _ + 1=_ + 1
  rw [show (List.filterMap (ow o) L).length=L.length from owL_le L fun j hj=>h j (List.mem_cons_of_mem _ hj)]
structure Lay (m:Nat) (hs:List Int) (o:Array (Option Nat)) (k:Nat):Prop where
 sz:o.size=m + 1
 pm:(owL o (List.range (m + 1))).Perm (List.range k)
 fn:∀ j v,ow o j=some v→v < k∧∃ n,(stp m n (pst m (hs.getD v 0))).j=j∧∀ i,i < n→∃ u,ow o (stp m i (pst m (hs.getD v 0))).j=some u
theorem Lay.zero (m:Nat) (hs:List Int):Lay m hs (Array.replicate (m + 1) none) 0:=by
 have h0:∀ j,ow (Array.replicate (m + 1) (none:Option Nat)) j=none:=fun j=>by
  unfold ow
  rw [Array.getD_eq_getD_getElem?,Array.getElem?_replicate]
  split <;> rfl
 refine ⟨by simp,?_,fun j v e=>by rw [h0] at e; cases e⟩
 have:owL (Array.replicate (m + 1) (none:Option Nat)) (List.range (m + 1))=[]:=by
  unfold owL
  rw [List.filterMap_eq_nil_iff]
  exact fun j _=>h0 j
 rw [this]
 exact List.Perm.refl _
theorem Lay.step {m:Nat} (hm:Msk m) {hs:List Int} {o:Array (Option Nat)} {k:Nat} (Y:Lay m hs o k) (hk:k≤m) {h:Int} (hh:hs.getD k 0=h):∃ j,SetTable.layClean.free m o (SetTable.turns m) (SetTable.bits h % (m + 1)) (SetTable.bits h)=some j∧Lay m hs (o.setIfInBounds j (some k)) (k + 1):=by
 obtain ⟨e,he,h0⟩:∃ e,e≤m∧ow o e=none:=by
  refine Classical.byContradiction fun hn=>?_
  have h1:=owL_le (o:=o) (List.range (m + 1)) fun j hj=>by
   have hj:=List.mem_range.mp hj
   cases hv:ow o j with
   | some v=>exact ⟨v,rfl⟩
   | none=>exact absurd ⟨j,by omega,hv⟩ hn
  have h2:=Y.pm.length_eq
  rw [h1,List.length_range,List.length_range] at h2
  omega
 obtain ⟨L,hL,n,_,h2,h3⟩:=visit hm (p:=pst m h) (run_le m _) (bits_lt h) he
 rw [h2] at h3
 have h3':(lps m (13 + L) (SetTable.bits h % (m + 1),SetTable.bits h)).1=e:=h3
 obtain ⟨j,hj⟩:=free_ex2 (m:=m) (o:=o) (SetTable.turns m) (13 + L) (SetTable.bits h % (m + 1),SetTable.bits h) (by show 13 + L < m + 15; omega) (by rw [h3',Y.sz]; omega) (by rw [h3']; exact h0)
 have hF:=free_is Y.sz (SetTable.turns m) (p:=pst m h) (Nat.le_of_lt_succ (Nat.mod_lt _ (Nat.succ_pos _))) hj
 obtain ⟨g1,g2,n',g3,g4⟩:=hF
 have hhd:hd m (pst m h) ((pst m h).i,(pst m h).perturb)=pst m h:=rfl
 rw [hhd] at g3 g4
 have mono:∀ i u,ow o i=some u→∃ u',ow (o.setIfInBounds j (some k)) i=some u':=fun i u hu=>by
  rw [ow_set g1]
  split
  ·exact ⟨_,rfl⟩
  ·exact ⟨u,hu⟩
 refine ⟨j,hj,by rw [Array.size_setIfInBounds]; exact Y.sz,?_,fun i v hv=>?_⟩
 ·have:=(owL_set (k:=k) g1 g2 (L:=List.range (m + 1)) List.nodup_range).2 (List.mem_range.mpr (by rw [Y.sz] at g1; exact g1))
  rw [List.range_succ (n:=k)]
  exact this.trans (Y.pm.append_right _)
 ·rw [ow_set g1] at hv
  by_cases hij:i=j
  ·rw [if_pos hij] at hv
   cases hv
   refine ⟨Nat.lt_succ_self _,n',by rw [hh,hij]; exact g3,fun r hr=>?_⟩
   rw [hh]
   obtain ⟨u,hu⟩:=g4 r hr
   exact mono _ u hu
  ·rw [if_neg hij] at hv
   obtain ⟨e1,n2,e2,e3⟩:=Y.fn i v hv
   refine ⟨Nat.lt_succ_of_lt e1,n2,e2,fun r hr=>?_⟩
   obtain ⟨u,hu⟩:=e3 r hr
   exact mono _ u hu
theorem lay_fold {m:Nat} (hm:Msk m) {hs:List Int} (hl:hs.length≤m + 1):∀ (done rest:List Int) (o:Array (Option Nat)),hs=done++rest→Lay m hs o done.length→
  ∃ o',(rest.foldl (fun (acc:Option (Array (Option Nat)×Nat)) h=>do
   let (owner,k) ← acc
   let j ← SetTable.layClean.free m owner (SetTable.turns m) (SetTable.bits h % (m + 1)) (SetTable.bits h)
   pure (owner.setIfInBounds j (some k),k + 1)) (some (o,done.length)))=some (o',hs.length)∧Lay m hs o' hs.length
 | done,[],o,e,Y=>by
  rw [List.append_nil] at e
  subst e
  exact ⟨o,rfl,Y⟩
 | done,h::rest,o,e,Y=>by
  have hk:done.length≤m:=by
   have:=congrArg List.length e
   rw [List.length_append,List.length_cons] at this
   omega
  have hh:hs.getD done.length 0=h:=by
   rw [e,List.getD_eq_getElem?_getD,List.getElem?_append_right (Nat.le_refl _),Nat.sub_self]
   rfl
  obtain ⟨j,hj,Y'⟩:=Y.step hm hk hh
  rw [List.foldl_cons]
  have e2:(do
   let (owner,k) ← (some (o,done.length):Option (Array (Option Nat)×Nat))
   let j ← SetTable.layClean.free m owner (SetTable.turns m) (SetTable.bits h % (m + 1)) (SetTable.bits h)
   pure (owner.setIfInBounds j (some k),k + 1))=some (o.setIfInBounds j (some done.length),done.length + 1):=by
   show (SetTable.layClean.free m o (SetTable.turns m) (SetTable.bits h % (m + 1)) (SetTable.bits h)).bind _=_
   rw [hj]
   rfl
  rw [e2]
  have:=lay_fold hm hl (done++[h]) rest (o.setIfInBounds j (some done.length)) (by rw [e,List.append_assoc]; rfl) (by rw [List.length_append]; exact Y')
  rw [List.length_append] at this
  exact this
theorem layClean_ok {m:Nat} (hm:Msk m) {hs:Array Int} (hl:hs.size≤m + 1):∃ o,SetTable.layClean m hs=some o∧Lay m hs.toList o hs.size:=by
 obtain ⟨o,h1,h2⟩:=lay_fold hm (hs:=hs.toList) (by rw [Array.length_toList]; exact hl) [] hs.toList _ rfl (Lay.zero m hs.toList)
 refine ⟨o,?_,by rw [Array.length_toList] at h2; exact h2⟩
 unfold SetTable.layClean
 rw [← Array.foldl_toList]
 have h1':=h1
 rw [show ([]:List Int).length=0 from rfl] at h1'
 rw [h1']
 rfl
theorem live_fst (o:Array (Option Nat)) (L:List Nat):(L.filterMap fun j=>(o.getD j none).map (j,·)).map (·.2)=owL o L:=by
 unfold owL
 rw [List.map_filterMap]
 congr 1
 funext j
 unfold ow
 cases o.getD j none <;> rfl
theorem ow_lt {o:Array (Option Nat)} {j v:Nat} (h:ow o j=some v):j < o.size:=by
 refine Classical.byContradiction fun hn=>?_
 unfold ow at h
 rw [Array.getD_eq_getD_getElem?,Array.getElem?_eq_none (by omega)] at h
 cases h
theorem laid_ok {m f mv:Nat} {led plain:Bool} (hm:Msk m) {hs:Array Int} (hl:hs.size≤m):∃ t order,SetTable.laid m f mv led plain hs=some (t,order)∧order.toList.Perm (List.range hs.size)∧TabR t (order.toList.map fun i=>hs.toList.getD i 0)∧t.led=led∧t.plain=plain∧t.mask=m:=by
 obtain ⟨o,h1,Y⟩:=layClean_ok hm (hs:=hs) (by omega)
 have e:SetTable.laid m f mv led plain hs=some ({ mask:=m,place:=(((List.range (m + 1)).filterMap fun j=>(o.getD j none).map (j,·)).map (·.1)).toArray,dummies:=#[],finger:=f,led,moves:=mv,plain },(((List.range (m + 1)).filterMap fun j=>(o.getD j none).map (j,·)).map (·.2)).toArray):=by
  unfold SetTable.laid
  rw [h1]
  rfl
 have hR:=laid_rz e
 refine ⟨_,_,e,?_,?_,rfl,rfl,rfl⟩
 ·show (((List.range (m + 1)).filterMap fun j=>(o.getD j none).map (j,·)).map (·.2)).Perm _
  rw [live_fst]
  exact Y.pm
 ·have hlv:∀ x,x∈((List.range (m + 1)).filterMap fun j=>(o.getD j none).map (j,·))↔x.1 < m + 1∧ow o x.1=some x.2:=fun x=>by
   rw [List.mem_filterMap]
   constructor
   ·rintro ⟨j,hj,hx⟩
    obtain ⟨v,hv,rfl⟩:=Option.map_eq_some_iff.mp hx
    exact ⟨List.mem_range.mp hj,hv⟩
   ·rintro ⟨hj,hx⟩
    exact ⟨x.1,List.mem_range.mpr hj,Option.map_eq_some_iff.mpr ⟨x.2,hx,rfl⟩⟩
  have hlen:((List.range (m + 1)).filterMap fun j=>(o.getD j none).map (j,·)).length=hs.size:=by
   have:=Y.pm.length_eq
   rw [← live_fst,List.length_map,List.length_range] at this
   exact this
  generalize (List.range (m + 1)).filterMap (fun j=>(o.getD j none).map (j,·))=lv at hR hlv hlen ⊢
  refine ⟨hR,?_,hm,?_,?_⟩
  ·simp
  ·show ((lv.map (·.2)).map _).length≤m
   rw [List.length_map,List.length_map,hlen]
   exact hl
  ·show ∀ x∈((lv.map (·.2)).map fun i=>hs.toList.getD i 0).zip (lv.map (·.1)),Fnd m (lv.map (·.1)) x.1 x.2
   intro x hx
   rw [List.map_map,List.zip_map'] at hx
   obtain ⟨y,hy,rfl⟩:=List.mem_map.mp hx
   obtain ⟨_,hy2⟩:=(hlv y).mp hy
   obtain ⟨_,n,g1,g2⟩:=Y.fn y.1 y.2 hy2
   refine ⟨n,g1,fun k hk=>?_⟩
   obtain ⟨u,hu⟩:=g2 k hk
   have:=ow_lt hu
   rw [Y.sz] at this
   exact List.mem_map.mpr ⟨(_,u),(hlv _).mpr ⟨this,hu⟩,rfl⟩
end L2
namespace L2
open PySem PySem.Spec PyProof.Rows
section
variable {prog:Program} {w:World} {A:Around} {E:Value→Shared→Prop} {s:Shared}
theorem new_lG (x:Value) {Q:Value→Shared→Prop} (h:Q (.ref s.heap.objs.size) { s with heap:=s.heap.push (set0 (!(w.params.followText "set-order"))) }) :
  codeAny (model prog w) A (.call (.builtin "set.__new__") ⟨[.type "set",x],[]⟩) (wants Q E) s:=by
 refine codeAny_of_tree (wpAny_bind (m:=checkBuiltinCall "set.__new__" ⟨[.type "set",x],[]⟩) (wpAny_of_eq (F.newCall_set_1 x) (wpAny_pure ⟨plainId_quiet F.plain_set_new _,codeAny_builtin F.entry_set_new ?_⟩)))
 rw [Around.under_plainId F.plain_set_new _]
 have f:=sub_set_self
 obtain ⟨hp,g,d,tk,os⟩:=s
 unfold Builtin.«set.__new__» Builtin.Frozenset.newClass
 dsimp only
 wp_walk
 refine wpAny_askSetting (wpAny_pure (wpAny_bind (wpAny_alloc (wpAny_pure (wpAny_pure h)))))
theorem set_call_lG {x:Value} {Q:Value→Shared→Prop} (h:wpAny (model prog w) A.in1.in1 (Builtin.«set.__init__» ⟨[.ref s.heap.objs.size,x],[]⟩) (fun fin s'=>fin=.done (.ret .none)∧Q (.ref s.heap.objs.size) s') E { s with heap:=s.heap.push (set0 (!(w.params.followText "set-order"))) }) :
  wpAny (model prog w) A (call (.type "set") [x]) Q E s:=by
 obtain ⟨c,tl,m1⟩:=PySem.F.called_set.mro
 have m2:=PySem.F.called_set.made; have m3:=PySem.F.called_set.sub; have m4:=PySem.F.called_set.notType; have m5:=PySem.F.called_set.canCreate
 have m6:=PySem.F.typeCall_set_1 x
 refine wpAny_call (codeAny_of_tree (show wpAny _ _ (callAny (.type "set") _) _ _ _ from wpAny_pure ⟨Code.quiet_builtin _ (by decide +kernel),codeAny_builtin PySem.F.entry_type_call ?_⟩))
 rw [Around.under_plain (weight_type_call_type "set" [x] []) rfl]
 repeat (any_goals (first | assumption | wp_step))
 refine codeAny_mono (new_lG x (E:=E) (Q:=fun ob s1=>ob=.ref s.heap.objs.size∧s1={ s with heap:=s.heap.push (set0 (!(w.params.followText "set-order"))) }) ⟨rfl,rfl⟩) fun r s1 hr=>?_
 match r,hr with
 | .error e,hr=>exact hr
 | .ok (.ret ob),hr=>
  obtain ⟨rfl,rfl⟩:=hr
  have hT:Shared.TypeIs { s with heap:=s.heap.push (set0 (!(w.params.followText "set-order"))) } (.ref s.heap.objs.size) "set":=⟨set0 (!(w.params.followText "set-order")),Heap.get?_push_size _ rfl,rfl⟩
  have m7:=PySem.F.called_set.init.lookup; have m8:=PySem.F.called_set.init.bind (.ref s.heap.objs.size)
  repeat (any_goals (first | assumption | wp_step))
  refine codeAny_mono (codeAny_call_builtin (R:=wants (fun r s2=>r=.none∧Q (.ref s.heap.objs.size) s2) E) PySem.F.called_set.init.plain PySem.F.entry_set_init (check_set_init_1 hT ?_)) fun r2 s2 hr2=>?_
  ·refine wpAny_mono h (fun fin s' hf=>?_) fun _ _ h'=>h'
   obtain ⟨rfl,hq⟩:=hf
   exact ⟨rfl,hq⟩
  ·match r2,hr2 with
   | .error e,hr2=>exact hr2
   | .ok (.ret v),hr2=>
    obtain ⟨rfl,hq⟩:=hr2
    repeat (any_goals (first | assumption | wp_step))
   | .ok .next,hr2=>exact hr2.elim
   | .ok .brk,hr2=>exact hr2.elim
   | .ok .cont,hr2=>exact hr2.elim
 | .ok .next,hr=>exact hr.elim
 | .ok .brk,hr=>exact hr.elim
 | .ok .cont,hr=>exact hr.elim
end
section
variable {prog:Program} {w:World} {A:Around} {E:Value→Shared→Prop} {s:Shared} {a I T:Addr}
end
end L2
namespace L2
open PySem PySem.Spec PyProof.Rows
def entT (P:Program) (w:World) (x:List Key×Addr):Int×Value:=(tupleKeyHash (mixKind P w) x.1,.ref x.2)
structure TabT (P:Program) (w:World) (xs:List (List Key×Addr)) (es:Array (Int×Value)) (t:SetTable):Prop where
 ents:es.toList=xs.map (entT P w)
 tab:TabR t (es.toList.map (·.1))
 led:t.led=!(w.params.followText "set-order")
 nf:xs.length * 5 < t.mask * 3
def SetT (P:Program) (w:World) (h:Heap) (a:Addr) (xs:List (List Key×Addr)):Prop:=∃ o ep t es,h.get? a=some o∧o.ExactSet∧o.data=.set es ep t∧TabT P w xs es t
def KeysAt (P:Program) (w:World) (h:Heap) (xs:List (List Key×Addr)):Prop:=∀ x∈xs,IsTupleKey (mixKind P w) h x.1 x.2
theorem SetT.stay {P:Program} {w:World} {h h':Heap} {a:Addr} {xs:List (List Key×Addr)} (x:SetT P w h a xs) (k:∀ o,h.get? a=some o→h'.get? a=some o):SetT P w h' a xs:=by
 obtain ⟨o,ep,t,es,ho,r⟩:=x
 exact ⟨o,ep,t,es,k o ho,r⟩
theorem TabR.fits {t:SetTable} {hs:List Int} (T:TabR t hs):t.fits hs.length=true:=by
 unfold SetTable.fits SetTable.fill
 rw [T.rz.no,T.len]
 have:=T.room
 simp
 exact this
theorem TabT.size {P:Program} {w:World} {xs:List (List Key×Addr)} {es:Array (Int×Value)} {t:SetTable} (T:TabT P w xs es t):es.size=xs.length:=by
 have:=congrArg List.length T.ents
 rw [Array.length_toList,List.length_map] at this
 exact this
theorem TabT.fit {P:Program} {w:World} {xs:List (List Key×Addr)} {es:Array (Int×Value)} {t:SetTable} (T:TabT P w xs es t):t.fits es.size=true:=by
 have:=T.tab.fits
 rw [List.length_map,Array.length_toList] at this
 exact this
theorem TabT.at {P:Program} {w:World} {xs:List (List Key×Addr)} {es:Array (Int×Value)} {t:SetTable} (T:TabT P w xs es t) {i:Nat} (hi:i < t.place.size):∃ x,xs[i]?=some x∧es[i]?=some (entT P w x):=by
 have h1:=T.tab.len
 rw [List.length_map,Array.length_toList,T.size] at h1
 have hi':i < xs.length:=by omega
 refine ⟨xs[i],List.getElem?_eq_getElem hi',?_⟩
 rw [← Array.getElem?_toList,T.ents,List.getElem?_map,List.getElem?_eq_getElem hi']
 rfl
section
variable {prog:Program} {w:World} {A:Around} {E:Value→Shared→Prop} {s:Shared} {a:Addr}
theorem not_class_stmt {k:List Key} {b:Addr} {n:Nat} {Q:Bool→Shared→Prop} (hk:IsTupleKey (mixKind prog w) s.heap k b) (h:Q false s):wpAny (model prog w) A (ofAClassStatement (n + 1) (.ref b)) Q E s:=by
 have hT:=hk.typeIs
 obtain ⟨o,items,m,ho,_,hd,hi⟩:=hk
 unfold ofAClassStatement
 refine wpAny_bind (wpAny_typeOf hT ?_)
 dsimp only
 rw [if_pos (by decide)]
 refine wpAny_bind (wpAny_pure ?_)
 rw [if_neg (by decide)]
 refine wpAny_bind (wpAny_seqItems ho hd ?_)
 dsimp only
 refine wpAny_bind ?_
 rw [← Array.forIn_toList]
 refine wpAny_forIn_list _ (fun rest r s'=>r.1=none∧s'=s∧∀ v∈rest,carriedByValue v=true) _ ?_ ?_ _ _ ⟨rfl,rfl,hi.byValue⟩
 ·rintro v rest r s' ⟨hr,rfl,hall⟩
  have hv:=hall v List.mem_cons_self
  have e:ofAClassStatement n v=pure false:=by
   cases v with
   | ref x=>simp [carriedByValue] at hv
   | _=>first | rfl | (unfold ofAClassStatement; rfl)
  rw [e]
  refine wpAny_bind (wpAny_pure ?_)
  rw [if_neg (by decide)]
  exact wpAny_pure ⟨rfl,rfl,fun u hu'=>hall u (List.mem_cons_of_mem _ hu')⟩
 ·rintro ⟨r1,r2⟩ s' ⟨hr,rfl,_⟩
  simp only at hr
  subst hr
  exact wpAny_pure h
theorem not_seen {k:List Key} {b:Addr} {vs:List Value} {Q:Bool→Shared→Prop} (hk:IsTupleKey (mixKind prog w) s.heap k b) (hv:∀ v∈vs,∃ k' b',v=.ref b'∧IsTupleKey (mixKind prog w) s.heap k' b') (h:Q false s):wpAny (model prog w) A (searchCouldBeSeen (.ref b) vs) Q E s:=by
 unfold searchCouldBeSeen
 refine wpAny_bind ?_
 refine wpAny_forIn_list _ (fun rest r s'=>r.1=none∧s'=s∧∀ v∈rest,∃ k' b',v=.ref b'∧IsTupleKey (mixKind prog w) s.heap k' b') _ ?_ ?_ _ _ ⟨rfl,rfl,hv⟩
 ·rintro v rest r s' ⟨hr,rfl,hall⟩
  obtain ⟨k',b',rfl,hb⟩:=hall _ List.mem_cons_self
  have hrest:=fun u hu'=>hall u (List.mem_cons_of_mem _ hu')
  dsimp only
  by_cases c:((b == b') || (carriedByValue (.ref b) && carriedByValue (.ref b')))=true
  ·rw [if_pos c]
   exact wpAny_pure ⟨rfl,rfl,hrest⟩
  ·rw [if_neg c]
   refine wpAny_bind (wpAny_eqIsQuiet_tuple hk ?_)
   rw [if_neg (by decide)]
   refine wpAny_bind (wpAny_eqIsQuiet_tuple hb ?_)
   rw [if_neg (by decide)]
   refine wpAny_bind (not_class_stmt hk ?_)
   rw [if_neg (by decide)]
   refine wpAny_bind (not_class_stmt hb ?_)
   rw [if_neg (by decide)]
   exact wpAny_pure ⟨rfl,rfl,hrest⟩
 ·rintro ⟨r1,r2⟩ s' ⟨hr,rfl,_⟩
  simp only at hr
  subst hr
  exact wpAny_pure h
theorem gave_no {m:Nat} (hm:Msk m):(m % 2 == 0)=false:=by
 rcases hm with rfl | rfl | rfl <;> rfl
theorem search_from {k:List Key} {b:Addr} {xs:List (List Key×Addr)} {o:Obj} {ep:Nat} {t:SetTable} {es:Array (Int×Value)} (ho:s.heap.get? a=some o) (hd:o.data=.set es ep t) (T:TabT prog w xs es t) (hK:KeysAt prog w s.heap xs) (hb:IsTupleKey (mixKind prog w) s.heap k b) (hu:A.units < cLine) {N:Nat} (hN:t.slot (stp t.mask N (pst t.mask (tupleKeyHash (mixKind prog w) k))).j=.empty)
  {Q:SetFound→Shared→Prop} (h1:k∈xs.map (·.1)→Q (.there none) s) (h2:k∉xs.map (·.1)→∀ n,(stp t.mask n (pst t.mask (tupleKeyHash (mixKind prog w) k))).j∉t.place.toList→(∀ i,i < n→(stp t.mask i (pst t.mask (tupleKeyHash (mixKind prog w) k))).j∈t.place.toList)→Q (.free (stp t.mask n (pst t.mask (tupleKeyHash (mixKind prog w) k))).j false) s) :
  ∀ (fuel n0:Nat) (stand:Option Pb),N - n0 < fuel→stand.getD (pst t.mask (tupleKeyHash (mixKind prog w) k))=stp t.mask n0 (pst t.mask (tupleKeyHash (mixKind prog w) k))→(∀ i,i < n0→∃ r x,t.slot (stp t.mask i (pst t.mask (tupleKeyHash (mixKind prog w) k))).j=.live r∧xs[r]?=some x∧x.1≠k)→
   wpAny (model prog w) A (setSearchFrom a (.ref b) (tupleKeyHash (mixKind prog w) k) true fuel stand) Q E s
 | 0,_,_,hf,_,_=>absurd hf (Nat.not_lt_zero _)
 | fuel + 1,n0,stand,hf,hst,hpast=>by
  have hn0:n0≤N:=Nat.le_of_not_lt fun z=>by
   obtain ⟨r,x,e,_⟩:=hpast N z
   rw [hN] at e
   cases e
  unfold setSearchFrom
  refine wpAny_bind (wpAny_setState_of ho hd T.fit ?_)
  dsimp only
  have hgw:t.gaveWay=false:=gave_no T.tab.msk
  rw [hgw,if_neg (by decide)]
  rw [pst_eq,hst]
  have hroom:t.place.size≤t.mask:=by rw [T.tab.len]; exact T.tab.room
  generalize hr:SetTable.probe t _ _ _=r
  obtain ⟨met,hmet⟩:=probe_ex T.tab.rz T.tab.msk hroom (g:=fun i=>(es[i]?.map (·.1)).getD 0) (h:=tupleKeyHash (mixKind prog w) k) (stp_pz2 n0 (pst_pz t.mask (tupleKeyHash (mixKind prog w) k)))
  have hr':r=some met:=hr.symm.trans hmet
  subst hr'
  obtain ⟨n,_,g1,g2⟩:=go_is T.tab.rz _ _ _ hmet
  have hall:∀ i,i < n0 + n→∃ r x,t.slot (stp t.mask i (pst t.mask (tupleKeyHash (mixKind prog w) k))).j=.live r∧xs[r]?=some x∧x.1≠k:=fun i hi=>by
   by_cases hin:i < n0
   ·exact hpast i hin
   ·obtain ⟨r,e1,e2⟩:=g1 (i - n0) (by omega)
    rw [← stp_add,show n0 + (i - n0)=i by omega] at e1
    obtain ⟨hrl,_⟩:=live_in T.tab.rz e1
    obtain ⟨x,e3,e4⟩:=T.at hrl
    refine ⟨r,x,e1,e3,fun z=>e2 ?_⟩
    rw [e4,← z]
    rfl
  have hin:∀ i,i < n0 + n→(stp t.mask i (pst t.mask (tupleKeyHash (mixKind prog w) k))).j∈t.place.toList:=fun i hi=>by
   obtain ⟨r,x,e,_⟩:=hall i hi
   obtain ⟨hrl,e2⟩:=live_in T.tab.rz e
   rw [← e2]
   simp
  cases met with
  | empty j d=>
   obtain ⟨e1,e2,e3⟩:=g2
   rw [← stp_add] at e1
   rw [stp_dummy] at e3
   have e3':d=none:=e3
   subst e3'
   dsimp only
   have hjn:(stp t.mask (n0 + n) (pst t.mask (tupleKeyHash (mixKind prog w) k))).j∉t.place.toList:=by
    rw [← e1]
    exact slot_empty T.tab.rz e2
   rw [e1]
   refine wpAny_pure (h2 (fun hk=>?_) (n0 + n) hjn hin)
   obtain ⟨x,hx,rfl⟩:=List.mem_map.mp hk
   obtain ⟨i0,hi0,ei0⟩:=List.mem_iff_getElem.mp hx
   have hsz:=T.size
   have hpl:i0 < t.place.size:=by rw [T.tab.len,List.length_map,Array.length_toList]; omega
   have hmem:(tupleKeyHash (mixKind prog w) x.1,t.place[i0])∈(es.toList.map (·.1)).zip t.place.toList:=by
    rw [List.mem_iff_getElem]
    refine ⟨i0,by rw [List.length_zip,List.length_map,Array.length_toList,Array.length_toList]; omega,?_⟩
    rw [List.getElem_zip]
    have e4:(es.toList.map (·.1))[i0]'(by rw [List.length_map,Array.length_toList]; omega)=tupleKeyHash (mixKind prog w) x.1:=by
     have:(es.toList.map (·.1))[i0]?=some (tupleKeyHash (mixKind prog w) x.1):=by
      rw [T.ents,List.map_map,List.getElem?_map,List.getElem?_eq_getElem hi0,ei0]
      rfl
     exact (List.getElem?_eq_some_iff.mp this).2
    rw [e4]
    simp
   obtain ⟨n1,f1,f2⟩:=T.tab.fnd _ hmem
   dsimp only at f1 f2
   rcases Nat.lt_trichotomy n1 (n0 + n) with z | z | z
   ·obtain ⟨r,y,e5,e6,e7⟩:=hall n1 z
    rw [f1,slot_in T.tab.rz hpl] at e5
    cases e5
    rw [List.getElem?_eq_getElem hi0,ei0] at e6
    cases e6
    exact e7 rfl
   ·rw [z] at f1
    exact hjn (by rw [f1]; simp)
   ·exact hjn (f2 _ z)
  | candidate j i next=>
   obtain ⟨e1,e2,e3,e4⟩:=g2
   rw [← stp_add] at e1 e4
   obtain ⟨hil,hij⟩:=live_in T.tab.rz e2
   obtain ⟨x,hx1,hx2⟩:=T.at hil
   have hxk:=hK x (List.mem_of_getElem? hx1)
   dsimp only
   have body:wpAny (model prog w) A (do
     let some (_,y):=es[i]? | unsupported "internal:set-entry"
     let equal ← holding [y] (eqBool y (.ref b))
     let (es',_,t') ← setState a
     if true && equal then return .there none
     let some same:=t'.sameMemory t.moves t.mask | unsupported "set.changed-during-lookup:is-the-new-block-at-the-old-address"
     let still ← match (if same then t'.slot j else .empty) with
      | .live i'=>match es'[i']? with
       | some (_,y')=>do pure (if ← isSame y' y then some i' else none)
       | none=>pure none
      | _=>pure none
     match still with
     | none=>rule "set.search.anew"; setSearchFrom a (.ref b) (tupleKeyHash (mixKind prog w) k) true fuel none
     | some i'=>if equal then return .there (some i') else setSearchFrom a (.ref b) (tupleKeyHash (mixKind prog w) k) true fuel (some next)) Q E s:=by
    rw [hx2]
    dsimp only [entT]
    refine wpAny_bind (wpAny_holding (wpAny_eqBool_tuple hu hxk hb ?_))
    refine wpAny_bind (wpAny_setState_of ho hd T.fit ?_)
    dsimp only
    by_cases hkk:x.1=k
    ·rw [decide_eq_true hkk,if_pos (by decide)]
     exact wpAny_pure (h1 (List.mem_map.mpr ⟨x,List.mem_of_getElem? hx1,hkk⟩))
    ·rw [decide_eq_false hkk,if_neg (by decide)]
     have hsm:t.sameMemory t.moves t.mask=some true:=by
      unfold SetTable.sameMemory
      rw [if_pos (by simp)]
     rw [hsm]
     dsimp only
     rw [if_pos rfl,e2]
     dsimp only
     rw [hx2]
     dsimp only [entT]
     refine wpAny_bind (wpAny_isSame_ref_self (wpAny_bind (wpAny_pure ?_)))
     rw [if_pos rfl]
     dsimp only
     rw [if_neg (by decide)]
     refine search_from ho hd T hK hb hu hN h1 h2 fuel (n0 + n + 1) (some next) ?_ e4 fun r hr=>?_
     ·have:n0 + n < N∨N≤n0 + n:=by omega
      rcases this with z | z
      ·omega
      ·by_cases zz:N=n0 + n
       ·rw [zz,← e1,e2] at hN
        cases hN
       ·obtain ⟨r,x,e,_⟩:=hall N (by omega)
        rw [hN] at e
        cases e
     ·by_cases hrn:r < n0 + n
      ·exact hall r hrn
      ·have:r=n0 + n:=by omega
       subst this
       exact ⟨i,x,by rw [← e1]; exact e2,hx1,hkk⟩
   by_cases hl:t.led=true
   ·rw [hl,if_neg (by decide)]
    exact wpAny_bind (wpAny_pure body)
   ·rw [Bool.not_eq_true] at hl
    rw [hl,if_pos (by decide)]
    refine wpAny_bind (m:=searchCouldBeSeen (.ref b) ((es.filter (·.1 == tupleKeyHash (mixKind prog w) k)).toList.map (·.2))) (not_seen hb (fun v hv=>?_) ?_)
    ·obtain ⟨e,he,rfl⟩:=List.mem_map.mp hv
     have he2:e∈es.toList:=by
      have:=(Array.mem_filter.mp (Array.mem_toList_iff.mp he)).1
      exact Array.mem_toList_iff.mpr this
     rw [T.ents] at he2
     obtain ⟨y,hy,rfl⟩:=List.mem_map.mp he2
     exact ⟨y.1,y.2,rfl,hK y hy⟩
    ·rw [if_neg (by decide)]
     exact body
theorem hash_by {k:List Key} {b:Addr} {n:Nat} {Q:Bool→Shared→Prop} (hk:IsTupleKey (mixKind prog w) s.heap k b) (h:∀ c,Q c s):wpAny (model prog w) A (hashByValue (n + 2) (.ref b)) Q E s:=by
 have hT:=hk.typeIs
 obtain ⟨o,items,m,ho,_,hd,hi⟩:=hk
 unfold hashByValue
 refine wpAny_bind (wpAny_specialOf hT F.slot_tuple_hash.lookup ?_)
 show wpAny _ _ (seqItems? (.ref b) >>= _) _ _ s
 refine wpAny_bind (wpAny_seqItems ho hd ?_)
 refine wpAny_bind ?_
 show wpAny _ _ (forIn items _ _) _ _ s
 rw [← Array.forIn_toList]
 refine wpAny_forIn_list _ (fun rest r s'=>s'=s∧∀ v∈rest,carriedByValue v=true) _ ?_ ?_ _ _ ⟨rfl,hi.byValue⟩
 ·rintro v rest r s' ⟨rfl,hall⟩
  have hv:=hall v List.mem_cons_self
  have hrest:=fun u hu'=>hall u (List.mem_cons_of_mem _ hu')
  obtain ⟨c,e⟩:∃ c,hashByValue (n + 1) v=pure c:=by
   cases v with
   | ref x=>simp [carriedByValue] at hv
   | float bits x=>exact ⟨_,rfl⟩
   | _=>first | exact ⟨true,rfl⟩ | exact ⟨false,rfl⟩
  rw [e]
  refine wpAny_bind (wpAny_pure ?_)
  cases c with
  | true=>
   rw [if_neg (by decide)]
   exact wpAny_pure ⟨rfl,hrest⟩
  | false=>
   rw [if_pos (by decide)]
   exact wpAny_pure (wpAny_pure (h _))
 ·rintro ⟨r1,r2⟩ s' ⟨rfl,_⟩
  cases r1 with
  | none=>exact wpAny_pure (h _)
  | some c=>exact wpAny_pure (h _)
theorem grown_ok {n m:Nat} (hm:Msk m) (h1:n * 5 < m * 3) (h2:(n + 1) * 5≥m * 3) (h64:n + 1≤64):∃ m',SetTable.sizeAbove (SetTable.grown (n + 1))=m' + 1∧Msk m'∧(n + 1) * 5 < m' * 3:=by
 rcases hm with rfl | rfl | rfl
 ·have:n=4:=by omega
  subst this
  exact ⟨31,by decide +kernel,.inr (.inl rfl),by decide⟩
 ·have:n=18:=by omega
  subst this
  exact ⟨127,by decide +kernel,.inr (.inr rfl),by decide⟩
 ·omega
theorem put_atG {h:Heap} {o:Obj} {xs:List (List Key×Addr)} {es es':Array (Int×Value)} {ep:Nat} {t t':SetTable} (ho:h.get? a=some o) (hx:o.ExactSet) (hd:o.data=.set es ep t) (T:TabT prog w xs es' t') :
  (h.update a (Obj.putSet es' t')).get? a=some { o with data:=.set es' (ep + 1) t' }∧SetT prog w (h.update a (Obj.putSet es' t')) a xs:=by
 have e:=putSet_of es' t' hd
 have g:(h.update a (Obj.putSet es' t')).get? a=some { o with data:=.set es' (ep + 1) t' }:=by
  rw [Heap.get?_update_self (Obj.putSet es' t') ho (by rw [e]; rfl),e]
 exact ⟨g,_,_,_,_,g,hx,rfl,T⟩
theorem order_map {α:Type} {es:Array α} {order:Array Nat} (hp:order.toList.Perm (List.range es.size)) (d:α):(order.filterMap (es[·]?)).toList=order.toList.map fun i=>es.toList.getD i d:=by
 rw [Array.toList_filterMap]
 have hall:∀ i∈order.toList,i < es.size:=fun i hi=>List.mem_range.mp (hp.mem_iff.mp hi)
 generalize order.toList=L at hall
 induction L with
 | nil=>rfl
 | cons i L ih=>
  have hi:=hall i (List.mem_cons_self ..)
  rw [List.filterMap_cons,Array.getElem?_eq_getElem hi,List.map_cons,ih fun j hj=>hall j (List.mem_cons_of_mem _ hj)]
  simp [hi]
theorem getD_range {α:Type} (L:List α) (d:α):(List.range L.length).map (fun i=>L.getD i d)=L:=by
 apply List.ext_getElem
 ·simp
 intro i h1 h2
 simp [h2]
theorem relay_t {xs:List (List Key×Addr)} {o:Obj} {ep:Nat} {t:SetTable} {es:Array (Int×Value)} {m' wanted:Nat} (ho:s.heap.get? a=some o) (hx:o.ExactSet) (hd:o.data=.set es ep t) (hE:es.toList=xs.map (entT prog w)) (hT:TabR t (es.toList.map (·.1))) (hled:t.led=!(w.params.followText "set-order")) (hm:SetTable.sizeAbove wanted=m' + 1) (hk:Msk m') (hnf:xs.length * 5 < m' * 3)
  {Q:Unit→Shared→Prop} (h:∀ h' xs',Heap.SameBut a s.heap h'→SetT prog w h' a xs'→xs'.Perm xs→Q () { s with heap:=h' }):wpAny (model prog w) A (setRelay a wanted) Q E s:=by
 have hsz:es.size=xs.length:=by
  have:=congrArg List.length hE
  rw [Array.length_toList,List.length_map] at this
  exact this
 have hfit:t.fits es.size=true:=by
  have:=hT.fits
  rw [List.length_map,Array.length_toList] at this
  exact this
 unfold setRelay
 refine wpAny_bind (wpAny_setState_of ho hd hfit ?_)
 dsimp only
 rw [hm]
 have hsl:¬ m' + 1 > sizeLine:=by
  have:m'≤127:=by rcases hk with rfl | rfl | rfl <;> omega
  have h2:(128:Nat)≤sizeLine:=by decide
  omega
 rw [if_neg hsl]
 have hms:(es.map (·.1)).size≤m':=by
  rw [Array.size_map,hsz]
  omega
 obtain ⟨t',order,e1,hp,hR,hl,hpl,hmk⟩:=laid_ok (f:=t.finger) (mv:=t.movedTo m') (led:=t.led) (plain:=t.plain) hk hms
 have e2:t.relaid (es.map (·.1)) wanted=some (t',order):=by
  unfold SetTable.relaid
  rw [hm,Nat.add_sub_cancel]
  exact e1
 rw [e2]
 rw [Array.size_map] at hp
 have hmap:=order_map hp (0,Value.none)
 have hsz2:(order.filterMap (es[·]?)).size=es.size:=by
  rw [← Array.length_toList,hmap,List.length_map,hp.length_eq,List.length_range]
 have hc:((order.filterMap (es[·]?)).size != es.size)=false:=by
  rw [hsz2]
  simp
 refine wpAny_bind (wpAny_of_eq (a:=(order.filterMap (es[·]?),t')) ?_ ?_)
 ·show (if ((order.filterMap (es[·]?)).size != es.size)=true then _ else _)=_
  rw [if_neg (by rw [hc]; decide)]
 dsimp only
 have hperm:(order.toList.map fun i=>xs.getD i ([],0)).Perm xs:=by
  have:=hp.map fun i=>xs.getD i ([],0)
  rw [hsz,getD_range] at this
  exact this
 have hE2:(order.filterMap (es[·]?)).toList=(order.toList.map fun i=>xs.getD i ([],0)).map (entT prog w):=by
  rw [hmap,List.map_map]
  refine List.map_congr_left fun i hi=>?_
  have hi':i < xs.length:=by
   have:=List.mem_range.mp (hp.mem_iff.mp hi)
   omega
  rw [hE]
  show (xs.map (entT prog w)).getD i (0,Value.none)=entT prog w (xs.getD i ([],0))
  rw [List.getD_eq_getElem?_getD,List.getElem?_map,List.getElem?_eq_getElem hi',List.getD_eq_getElem?_getD,List.getElem?_eq_getElem hi']
  rfl
 have hR2:TabR t' ((order.filterMap (es[·]?)).toList.map (·.1)):=by
  rw [hmap,List.map_map]
  have:(order.toList.map fun i=>(es.map (·.1)).toList.getD i 0)=order.toList.map ((·.1) ∘ fun i=>es.toList.getD i (0,Value.none)):=List.map_congr_left fun i hi=>by
   have hi':i < es.toList.length:=by
    have:=List.mem_range.mp (hp.mem_iff.mp hi)
    rw [Array.length_toList]
    exact this
   show (es.map (·.1)).toList.getD i 0=(es.toList.getD i (0,Value.none)).1
   rw [Array.toList_map,List.getD_eq_getElem?_getD,List.getElem?_map,List.getElem?_eq_getElem hi',List.getD_eq_getElem?_getD,List.getElem?_eq_getElem hi']
   rfl
  rw [← this]
  exact hR
 have T':TabT prog w (order.toList.map fun i=>xs.getD i ([],0)) (order.filterMap (es[·]?)) t':=⟨hE2,hR2,hl.trans hled,by rw [hperm.length_eq,hmk]; exact hnf⟩
 obtain ⟨_,S'⟩:=put_atG ho hx hd T'
 refine wpAny_storeSet_of ho hd (h _ _ (Heap.SameBut.update ..) S' hperm) ?_
 rw [hsz2,hsz]
 have:m'≤127:=by rcases hk with rfl | rfl | rfl <;> omega
 exact Nat.le_trans (show xs.length≤127 by omega) (by decide)
theorem add_t {xs:List (List Key×Addr)} {k:List Key} {b:Addr} {Q:Bool→Shared→Prop} (hS:SetT prog w s.heap a xs) (hK:KeysAt prog w s.heap xs) (hb:IsTupleKey (mixKind prog w) s.heap k b) (hu:A.units < cLine) (h64:xs.length + 1≤64)
  (h:∀ h' xs',Heap.SameBut a s.heap h'→SetT prog w h' a xs'→(xs'.Perm (xs++[(k,b)])∧k∉xs.map (·.1)∨xs'=xs∧k∈xs.map (·.1))→∀ c,Q c { s with heap:=h' }) :
  wpAny (model prog w) A (setAddHashed a (.ref b) (tupleKeyHash (mixKind prog w) k)) Q E s:=by
 obtain ⟨o,ep,t,es,ho,hx,hd,T⟩:=id hS
 unfold setAddHashed setAddHashedIn
 refine wpAny_holding (wpAny_bind (wpAny_setState_of ho hd T.fit ?_))
 dsimp only
 have hbs:byScan (.ref b) es=false:=rfl
 rw [hbs,if_neg (by decide)]
 have hroom:t.place.size≤t.mask:=by rw [T.tab.len]; exact T.tab.room
 obtain ⟨e,he,hne⟩:=free_ex T.tab.rz hroom
 obtain ⟨L,hL,N,hN1,_,hN2⟩:=visit T.tab.msk (p:=pst t.mask (tupleKeyHash (mixKind prog w) k)) (run_le t.mask _) (bits_lt _) he
 have hmk:t.mask≤127:=by
  have:=T.tab.msk
  rcases this with z | z | z <;> omega
 have hmk7:7≤t.mask:=by
  have:=T.tab.msk
  rcases this with z | z | z <;> omega
 refine wpAny_bind (m:=setSearch a (.ref b) (tupleKeyHash (mixKind prog w) k) true) (search_from ho hd T hK hb hu (N:=N) (by rw [hN2]; exact slot_out T.tab.rz hne) (fun hin=>?_) (fun hout n f1 f2=>?_) 100000 0 none (by omega) rfl fun i hi=>absurd hi (Nat.not_lt_zero _))
 ·exact wpAny_pure (h s.heap xs (Heap.SameBut.refl a s.heap) hS (.inr ⟨rfl,hin⟩) _)
 ·dsimp only
  refine wpAny_bind (wpAny_setState_of ho hd T.fit ?_)
  dsimp only
  have hT2:=T.tab.put f1 f2 (by rw [List.length_map,Array.length_toList,T.size]; have:=T.nf; omega)
  generalize hj:(stp t.mask n (pst t.mask (tupleKeyHash (mixKind prog w) k))).j=j at f1 hT2 ⊢
  have hsz:=T.size
  have hbl:SetTable.below t.place j≤xs.length:=by
   have:=(below_ok T.tab.rz.up j).1
   rw [T.tab.len,List.length_map,Array.length_toList] at this
   omega
  have hE2:(SetTable.insertAt es (SetTable.below t.place j) (tupleKeyHash (mixKind prog w) k,Value.ref b)).toList=(xs.take (SetTable.below t.place j)++(k,b)::xs.drop (SetTable.below t.place j)).map (entT prog w):=by
   rw [insert_list,T.ents,List.map_append,List.map_cons,List.map_take,List.map_drop]
   rfl
  have hperm:(xs.take (SetTable.below t.place j)++(k,b)::xs.drop (SetTable.below t.place j)).Perm (xs++[(k,b)]):=by
   refine List.perm_middle.trans ?_
   rw [List.take_append_drop]
   exact (List.perm_append_singleton _ _).symm
  have hT3:TabR (t.put j).1 ((SetTable.insertAt es (SetTable.below t.place j) (tupleKeyHash (mixKind prog w) k,Value.ref b)).toList.map (·.1)):=by
   rw [insert_list,List.map_append,List.map_cons,List.map_take,List.map_drop]
   exact hT2
  have hlen:(xs.take (SetTable.below t.place j)++(k,b)::xs.drop (SetTable.below t.place j)).length=xs.length + 1:=by
   rw [hperm.length_eq,List.length_append]
   rfl
  have hsz2:(SetTable.insertAt es (SetTable.below t.place j) (tupleKeyHash (mixKind prog w) k,Value.ref b)).size=xs.length + 1:=by
   rw [← Array.length_toList,hE2,List.length_map,hlen]
  have tail:∀ t2:SetTable,TabR t2 ((SetTable.insertAt es (SetTable.below t.place j) (tupleKeyHash (mixKind prog w) k,Value.ref b)).toList.map (·.1))→t2.led=t.led→t2.mask=t.mask→t2.place.size=xs.length + 1→t2.dummies=#[]→
    wpAny (model prog w) A (do
     storeSet a (SetTable.insertAt es (SetTable.below t.place j) (tupleKeyHash (mixKind prog w) k,Value.ref b)) t2
     if !false && t2.tooFull then setRelay a (SetTable.grown (es.size + 1))
     return true) Q E s:=fun t2 hR2 hl2 hm2 hp2 hd2=>by
   have g1:(s.heap.update a (Obj.putSet (SetTable.insertAt es (SetTable.below t.place j) (tupleKeyHash (mixKind prog w) k,Value.ref b)) t2)).get? a=some { o with data:=.set (SetTable.insertAt es (SetTable.below t.place j) (tupleKeyHash (mixKind prog w) k,Value.ref b)) (ep + 1) t2 }:=by
    have e:=putSet_of (SetTable.insertAt es (SetTable.below t.place j) (tupleKeyHash (mixKind prog w) k,Value.ref b)) t2 hd
    rw [Heap.get?_update_self (Obj.putSet _ t2) ho (by rw [e]; rfl),e]
   refine wpAny_bind (wpAny_storeSet_of ho hd ?_ (by rw [hsz2]; exact Nat.le_trans h64 (by decide)))
   have b1:=Heap.SameBut.update s.heap a (Obj.putSet (SetTable.insertAt es (SetTable.below t.place j) (tupleKeyHash (mixKind prog w) k,Value.ref b)) t2)
   have htf:t2.tooFull=decide ((xs.length + 1) * 5≥t.mask * 3):=by
    unfold SetTable.tooFull SetTable.fill
    rw [hd2,hp2,hm2]
    rfl
   by_cases c:(xs.length + 1) * 5≥t.mask * 3
   ·rw [htf,decide_eq_true c,if_pos (by decide)]
    obtain ⟨m',q1,q2,q3⟩:=grown_ok T.tab.msk T.nf c h64
    refine wpAny_bind (relay_t (s:={ s with heap:=s.heap.update a (Obj.putSet (SetTable.insertAt es (SetTable.below t.place j) (tupleKeyHash (mixKind prog w) k,Value.ref b)) t2) }) g1 hx rfl hE2 hR2 (hl2.trans T.led) (by rw [hsz]; exact q1) q2 (by rw [hlen]; exact q3) fun h' xs' sb S' p'=>?_)
    exact wpAny_pure (h h' xs' (b1.trans sb) S' (.inl ⟨p'.trans hperm,hout⟩) _)
   ·rw [htf,decide_eq_false c,if_neg (by decide)]
    exact wpAny_pure (h _ _ b1 ⟨_,_,_,_,g1,hx,rfl,⟨hE2,hR2,hl2.trans T.led,by rw [hlen,hm2]; omega⟩⟩ (.inl ⟨hperm,hout⟩) _)
  have hpp:(t.put j).1.place.size=xs.length + 1:=by
   rw [hT3.len,List.length_map,Array.length_toList,hsz2]
  have hdd:(t.put j).1.dummies=#[]:=hT3.rz.no
  by_cases hp:(t.put j).1.plain=true
  ·rw [if_pos hp]
   refine wpAny_bind (hash_by hb fun c=>?_)
   cases c with
   | true=>
    rw [if_pos rfl]
    exact tail (t.put j).1 hT3 rfl rfl hpp hdd
   | false=>
    rw [if_neg (by decide)]
    exact tail { (t.put j).1 with plain:=false } ⟨⟨hT3.rz.up,hT3.rz.le,hT3.rz.no⟩,hT3.len,hT3.msk,hT3.room,hT3.fnd⟩ rfl rfl hpp hdd
  ·rw [if_neg hp]
   refine wpAny_bind (wpAny_pure ?_)
   rw [if_pos rfl]
   exact tail (t.put j).1 hT3 rfl rfl hpp hdd
end
section
variable {prog:Program} {w:World} {A:Around} {R:Result→Shared→Prop} {I:Addr} {fp wr:List Addr} {G:Array GenState→Array GenState→Prop} {n:Nat} {P:Nat→Value→Prop} {St:Nat→Shared→Prop}
structure PutT (prog:Program) (w:World) (h:Heap) (S:Addr) (val:Nat→List Key×Addr) (i:Nat) (L:List (List Key×Addr)):Prop where
 at_:SetT prog w h S L
 nd:(L.map (·.1)).Nodup
 le:L.length≤i
 of:∀ x∈L,∃ j,j < i∧val j=x
 all:∀ j,j < i→(val j).1∈L.map (·.1)
theorem PutT.stay {h h':Heap} {S:Addr} {val:Nat→List Key×Addr} {i:Nat} {L:List (List Key×Addr)} (x:PutT prog w h S val i L) (k:∀ o,h.get? S=some o→h'.get? S=some o):PutT prog w h' S val i L:=⟨x.at_.stay k,x.nd,x.le,x.of,x.all⟩
theorem PutT.next {h h':Heap} {S:Addr} {val:Nat→List Key×Addr} {i:Nat} {L L':List (List Key×Addr)} (x:PutT prog w h S val i L) (hs:SetT prog w h' S L') (hl:L'.Perm (L++[((val i).1,(val i).2)])∧(val i).1∉L.map (·.1)∨L'=L∧(val i).1∈L.map (·.1)):PutT prog w h' S val (i + 1) L':=by
 rcases hl with ⟨p,hn⟩ | ⟨rfl,hm⟩
 ·have pm:=p.map (·.1)
  rw [List.map_append] at pm
  refine ⟨hs,?_,?_,fun y hy=>?_,fun j hj=>?_⟩
  ·rw [pm.nodup_iff,List.nodup_append]
   refine ⟨x.nd,by simp,fun a ha b hb=>?_⟩
   rw [List.mem_singleton.mp hb]
   exact fun z=>hn (by rw [show (val i).1=a from z.symm]; exact ha)
  ·rw [p.length_eq,List.length_append]
   exact Nat.succ_le_succ x.le
  ·rcases List.mem_append.mp (p.mem_iff.mp hy) with z | z
   ·obtain ⟨j,hj,e⟩:=x.of y z
    exact ⟨j,by omega,e⟩
   ·exact ⟨i,by omega,(List.mem_singleton.mp z).symm⟩
  ·rw [pm.mem_iff]
   by_cases e:j=i
   ·subst e
    exact List.mem_append_right _ (List.mem_singleton.mpr rfl)
   ·exact List.mem_append_left _ (x.all j (by omega))
 ·refine ⟨hs,x.nd,Nat.le_succ_of_le x.le,fun y hy=>?_,fun j hj=>?_⟩
  ·obtain ⟨j,hj,e⟩:=x.of y hy
   exact ⟨j,by omega,e⟩
  ·by_cases e:j=i
   ·subst e
    exact hm
   ·exact x.all j (by omega)
theorem fill_t (W:WalksS prog w A.in1 I fp wr G n P St) {S:Addr} (hS:S∉fp) (hu:A.units + 3 < cLine) {val:Nat→List Key×Addr} (hv:∀ i v,P i v→v=.ref (val i).2) (hb:n≤64) (hnw:∀ i,i < n→(val i).2∉S::wr) :
  ∀ (k i:Nat) (s:Shared) (L:List (List Key×Addr)),n - i=k→i≤n→St i s→PutT prog w s.heap S val i L→(∀ i,i < n→IsTupleKey (mixKind prog w) s.heap (val i).1 (val i).2)→
   (∀ s' L',Moved (S::wr) G s s'→PutT prog w s'.heap S val n L'→R (.ok (.ret .none)) s')→
   codeAny (model prog w) A (.builtin "set.update.loop" ⟨[.ref S,.ref I],[]⟩) R s:=by
 have hw:S∉wr:=fun z=>hS (W.sub _ z)
 have up:∀ b∈wr,b∈S::wr:=fun b hb=>List.mem_cons_of_mem _ hb
 have keep:∀ {h h':Heap} {k:List Key} {b:Addr},IsTupleKey (mixKind prog w) h k b→(∀ o,h.get? b=some o→h'.get? b=some o)→IsTupleKey (mixKind prog w) h' k b:=fun x k=>by
  obtain ⟨o,items,m,ho,r⟩:=x
  exact ⟨o,items,m,k o ho,r⟩
 intro k
 induction k with
 | zero=>
  intro i s L hk hi st X _ q
  obtain rfl:i=n:=by omega
  refine codeAny_builtin F.entry_set_update_loop ?_
  rw [Around.under_plainId F.plain_set_update_loop _]
  refine wpAny_bind (m:=pyNext (.ref I)) (W.done s _ _ st fun s' mv=>?_)
  exact wpAny_pure (q s' L (mv.mono up) (X.stay fun o e=>mv.heap S o hw e))
 | succ k ih=>
  intro i s L hk hi st X KK q
  refine codeAny_builtin F.entry_set_update_loop ?_
  rw [Around.under_plainId F.plain_set_update_loop _]
  refine wpAny_bind (m:=pyNext (.ref I)) (W.item i s _ _ (by omega) st fun v s1 hP st1 mv=>?_)
  obtain rfl:=hv i v hP
  have X1:=X.stay fun o e=>mv.heap S o hw e
  have KK1:∀ i,i < n→IsTupleKey (mixKind prog w) s1.heap (val i).1 (val i).2:=fun i hi=>keep (KK i hi) fun o e=>mv.heap _ o (fun z=>hnw i hi (List.mem_cons_of_mem _ z)) e
  refine wpAny_bind (m:=holding [Value.ref (val i).2] (setAdd S (.ref (val i).2))) (wpAny_holding ?_)
  unfold setAdd
  refine wpAny_holding (wpAny_bind (wpAny_pyHash_tuple (show A.units + 1 < cLine by omega) (KK1 i (by omega)) ?_))
  refine add_t (s:={ s1 with toks:=s1.toks + ((val i).1.length + 1) }) X1.at_ (fun x hx=>?_) (KK1 i (by omega)) (show A.units + 1 < cLine by omega) (by have:=X1.le; omega) fun h' L' sb hs' hl _=>?_
  ·obtain ⟨j,hj,rfl⟩:=X1.of x hx
   exact KK1 j (by omega)
  have X2:=X1.next hs' hl
  refine wpAny_pure ⟨plainId_quiet F.plain_set_update_loop _,ih (i + 1) { s1 with heap:=h',toks:=s1.toks + ((val i).1.length + 1) } L' (by omega) (by omega) (W.frame _ s1 _ _ st1 (Nat.le_add_right _ _) fun b hb' o e=>?_) X2 (fun j hj=>keep (KK1 j hj) fun o e=>(sb.2 _ fun z=>hnw j hj (by rw [z]; exact List.mem_cons_self ..)).trans e) fun s'' L'' mv2 X3=>?_⟩
  ·rw [sb.2 b fun z=>hS (z▸hb')]
   exact e
  ·refine q s'' L'' (Moved.trans W.gtrans ((mv.mono up).then_heap (Nat.le_add_right _ _) fun b o hb' e=>?_) mv2) X3
   rw [sb.2 b fun z=>hb' (z▸List.mem_cons_self)]
   exact e
end
section
variable {prog:Program} {w:World} {A:Around} {E:Value→Shared→Prop} {s:Shared}
theorem set_list_t {l:Addr} {items:Array Value} {vals:List (List Key×Addr)} {Q:Value→Shared→Prop} (hh:A.handled=none) (hu:A.units + 8 < cLine) (hl:s.heap.IsList l items) (hi:items.toList=vals.map fun x=>Value.ref x.2) (hk:∀ x∈vals,IsTupleKey (mixKind prog w) s.heap x.1 x.2) (hb:vals.length≤64)
  (h:∀ (h':Heap) (tk:Nat) (L:List (List Key×Addr)),SetT prog w h' s.heap.objs.size L→(L.map (·.1)).Nodup→(∀ x∈L,x∈vals)→(∀ x∈vals,x.1∈L.map (·.1))→L.length≤vals.length→(∀ b o,s.heap.get? b=some o→h'.get? b=some o)→Q (.ref s.heap.objs.size) { s with heap:=h',toks:=tk }) :
  wpAny (model prog w) A (call (.type "set") [.ref l]) Q E s:=by
 refine set_call_lG ?_
 generalize hled:(!(w.params.followText "set-order"))=led
 have hlt:l < s.heap.objs.size:=by
  obtain ⟨o,ho,_⟩:=hl
  exact Heap.lt_size ho
 have hsz:items.size=vals.length:=by
  rw [← Array.length_toList,hi,List.length_map]
 have hl1:(s.heap.push (set0 led)).IsList l items:=hl.push _
 have hS:(s.heap.push (set0 led)).get? s.heap.objs.size=some (set0 led):=Heap.get?_push_size _ rfl
 have hR:SetT prog w (s.heap.push (set0 led)) s.heap.objs.size []:=⟨set0 led,0,_,#[],hS,⟨rfl,rfl,rfl⟩,rfl,⟨rfl,⟨fresh_rz 0 0 led,rfl,.inl rfl,Nat.zero_le _,fun x hx=>nomatch hx⟩,hled.symm,by show 0 * 5 < 7 * 3; decide⟩⟩
 have f1:=PySem.F.sub_list_set; have f2:=PySem.F.sub_list_frozenset
 have f3:(Value.type "list" == Value.type "dict")=false:=by decide
 obtain ⟨o,ho,hc,nl,hd⟩:=id hl1
 obtain ⟨oc,od,odt,osl⟩:=o
 simp only at hc hd
 subst hc hd
 unfold Builtin.«set.__init__» noKeywords Builtin.Frozenset.updateFrom
 generalize hI:pyIter=I0
 wp_walk
 subst hI
 refine wpAny_pyIter_list hl1 (wpAny_bind (wpAny_runValue ?_))
 have e1:(s.heap.push (set0 led)).objs.size=s.heap.objs.size + 1:=Heap.size_push ..
 have nf:s.heap.objs.size∉[(s.heap.push (set0 led)).objs.size,l]:=by
  rw [e1]
  intro z
  rcases List.mem_cons.mp z with z | z
  ·exact Nat.ne_of_lt (Nat.lt_succ_self _) z
  ·exact Nat.ne_of_gt hlt (List.mem_singleton.mp z)
 have nI:l≠(s.heap.push (set0 led)).objs.size:=by rw [e1]; exact Nat.ne_of_lt (Nat.lt_succ_of_lt hlt)
 have hval:∀ (i:Nat) (v:Value),items[i]?=some v→v=.ref ((fun i=>vals.getD i ([],0)) i).2:=fun i v hv=>by
  rw [← Array.getElem?_toList,hi,List.getElem?_map] at hv
  obtain ⟨x,hx,rfl⟩:=Option.map_eq_some_iff.mp hv
  show Value.ref x.2=.ref (vals.getD i ([],0)).2
  rw [List.getD_eq_getElem?_getD,hx]
  rfl
 have hmem:∀ i,i < items.size→vals.getD i ([],0)∈vals:=fun i hi'=>by
  rw [List.getD_eq_getElem?_getD,List.getElem?_eq_getElem (show i < vals.length by omega)]
  exact List.getElem_mem _
 have hkl:∀ i,i < items.size→(vals.getD i ([],0)).2 < s.heap.objs.size:=fun i hi'=>by
  obtain ⟨o,_,_,ho,_⟩:=hk _ (hmem i hi')
  exact Heap.lt_size ho
 refine fill_t ((Walks.list (show A.in1.in1.in1.handled=none by simp [hh]) _ l nI items).toS) nf (show A.units + 2 + 3 < cLine by omega) hval (by omega) (fun i hi' z=>?_) (items.size - 0) 0 _ [] rfl (Nat.zero_le _) ⟨⟨_,Heap.get?_push_size _ rfl,rfl,rfl⟩,hl1.push _⟩ ⟨hR.stay fun o e=>Heap.get?_push_of_some _ e,List.nodup_nil,Nat.zero_le _,fun x hx=>(nomatch hx),fun j hj=>absurd hj (Nat.not_lt_zero _)⟩ (fun i hi'=>?_) ?_
 ·have:=hkl i hi'
  rw [e1] at z
  rcases List.mem_cons.mp z with z | z
  ·exact Nat.ne_of_lt this z
  ·exact Nat.ne_of_lt (Nat.lt_succ_of_lt this) (List.mem_singleton.mp z)
 ·obtain ⟨o,it,m,ho,r⟩:=hk _ (hmem i hi')
  exact ⟨o,it,m,Heap.get?_push_of_some _ (Heap.get?_push_of_some _ ho),r⟩
 intro s' L' hm X
 obtain ⟨h',g',d',tk',os'⟩:=s'
 obtain rfl:g'=s.gens:=hm.gens
 obtain rfl:d'=s.drawn:=hm.drawn
 obtain rfl:os'=s.os:=hm.os
 refine wpAny_pure (wpAny_pure ⟨rfl,h h' tk' L' X.at_ X.nd (fun x hx=>?_) (fun x hx=>?_) (by have:=X.le; omega) fun b o hbo=>?_⟩)
 ·obtain ⟨j,hj,rfl⟩:=X.of x hx
  exact hmem j hj
 ·obtain ⟨j,hj,rfl⟩:=List.mem_iff_getElem.mp hx
  have:=X.all j (by omega)
  rw [List.getD_eq_getElem?_getD,List.getElem?_eq_getElem hj] at this
  exact this
 ·have b1:=Heap.lt_size hbo
  refine hm.heap b o (fun z=>?_) (Heap.get?_push_of_some _ (Heap.get?_push_of_some _ hbo))
  rw [e1] at z
  rcases List.mem_cons.mp z with z | z
  ·exact Nat.ne_of_lt b1 z
  ·exact Nat.ne_of_lt (Nat.lt_succ_of_lt b1) (List.mem_singleton.mp z)
end
def kRw (b:List Nat):List Key:=b.map fun x=>.inl ((x:Nat):Int)
theorem kRw_v (b:List Nat):(kRw b).map kV=nats b:=by
 unfold kRw
 rw [List.map_map]
 rfl
def unRw (k:List Key):List Nat:=k.map fun x=>match x with | .inl i=>i.toNat | .inr _=>0
theorem unRw_k (b:List Nat):unRw (kRw b)=b:=by
 unfold unRw kRw
 rw [List.map_map]
 exact (List.map_congr_left fun x _=>Int.toNat_natCast x).trans (List.map_id b)
theorem kRw_inj {a b:List Nat} (h:kRw a=kRw b):a=b:=by rw [← unRw_k a,h,unRw_k]
def adV:V→Addr
 | .ref a=>a
 | _=>0
def tsL:List V→List (List Nat)→List (List Key×Addr)
 | v::vs,b::bs=>(kRw b,adV v)::tsL vs bs
 | _,_=>[]
def TsO (P:Program) (w:World) (a:Addr) (ws:List V) (cs:List (List Nat)):HO:=.ext fun h=>SetT P w h a (tsL ws cs)
theorem tsL_len {H:Hp}:∀ {vs:List V} {bs:List (List Nat)},TpAt H vs bs→(tsL vs bs).length=bs.length
 | [],[],_=>rfl
 | _::_,_::_,⟨_,t⟩=>by rw [tsL,List.length_cons,List.length_cons,tsL_len t]
theorem tsL_fst {H:Hp}:∀ {vs:List V} {bs:List (List Nat)},TpAt H vs bs→(tsL vs bs).map (·.1)=bs.map kRw
 | [],[],_=>rfl
 | _::_,_::_,⟨_,t⟩=>by rw [tsL,List.map_cons,List.map_cons,tsL_fst t]
theorem tsL_mem {H:Hp}:∀ {vs:List V} {bs:List (List Nat)},TpAt H vs bs→∀ x∈tsL vs bs,∃ b∈bs,x.1=kRw b∧H x.2=some (.tup (nats b))∧V.ref x.2∈vs
 | [],[],_,x,hx=>nomatch hx
 | _::_,b::_,⟨⟨a,e,q⟩,t⟩,x,hx=>by
  rcases List.mem_cons.mp hx with rfl | hx
  ·subst e
   exact ⟨b,List.mem_cons_self ..,rfl,q,List.mem_cons_self ..⟩
  ·obtain ⟨b',h1,h2,h3,h4⟩:=tsL_mem t x hx
   exact ⟨b',List.mem_cons_of_mem _ h1,h2,h3,List.mem_cons_of_mem _ h4⟩
theorem tp_of {H:Hp}:∀ {L:List (List Key×Addr)},(∀ x∈L,∃ b,x.1=kRw b∧H x.2=some (.tup (nats b)))→TpAt H (L.map fun x=>V.ref x.2) (L.map fun x=>unRw x.1)∧tsL (L.map fun x=>V.ref x.2) (L.map fun x=>unRw x.1)=L
 | [],_=>⟨trivial,rfl⟩
 | x::L,h=>by
  obtain ⟨b,e,q⟩:=h x (List.mem_cons_self ..)
  obtain ⟨h1,h2⟩:=tp_of fun y hy=>h y (List.mem_cons_of_mem _ hy)
  have eb:unRw x.1=b:=by rw [e,unRw_k]
  refine ⟨⟨⟨x.2,rfl,by show H x.2=some (.tup (nats (unRw x.1))); rw [eb]; exact q⟩,h1⟩,?_⟩
  rw [List.map_cons,List.map_cons,tsL,h2,eb,← e]
  rfl
section
variable {X:Cx} {pins:List (Addr×Obj)} {σ:St} {H:Hp} {s:Shared}
theorem key_ofT (I:Inv X pins σ H s) {b:List Nat} {a:Addr} (q:H a=some (.tup (nats b))):IsTupleKey (mixKind X.prog X.w) s.heap (kRw b) a:=by
 obtain ⟨its,rv,⟨o,ho,hc,n,hd⟩,_⟩:=I.tuple (SqT.of q)
 rw [← kRw_v] at rv
 exact ⟨o,its.toArray,n,ho,hc,hd,items_are rv⟩
end
def rSetTs (P:Program) (w:World) (K:PySem.W.Frag):List V→Hp→VK→Prop:=fun xs H Q=>∃ (a:Addr) (vs:List V) (bs:List (List Nat)),xs=[.ref a]∧SqL K H a vs∧TpAt H vs bs∧bs.length≤64∧
 ∀ (l:Addr) (ws:List V) (cs:List (List Nat)),H l=none→TpAt H ws cs→cs.Nodup→(∀ c∈cs,c∈bs)→(∀ b∈bs,b∈cs)→cs.length≤bs.length→Q (.ref l) (upd H l (TsO P w l ws cs))
theorem call_setTs {X:Cx} (hc:X.calm=true) (hu:X.A.units + 64 < cLine):CallR X (.type "set") (rSetTs X.prog X.w X.K):=by
 intro pins s σ H xs us Q I r h
 obtain ⟨a,vs,bs,rfl,hq,hP,h64,q⟩:=h
 obtain ⟨u,rfl,rx⟩:=vals1 r
 cases rx
 obtain ⟨its,r',pl,hz⟩:=I.list hq
 have hits:its=(tsL vs bs).map fun x=>Value.ref x.2:=by
  clear q hq pl hz
  induction r' generalizing bs with
  | nil=>
   cases bs with
   | nil=>rfl
   | cons _ _=>exact hP.elim
  | @cons v u vs us h t ih=>
   cases bs with
   | nil=>exact hP.elim
   | cons b bs=>
    obtain ⟨⟨x,e,_⟩,hr⟩:=hP
    subst e
    cases h
    rw [tsL,List.map_cons,← ih bs hr (by simp at h64; omega)]
    rfl
 have hlen:=tsL_len hP
 refine set_list_t (vals:=tsL vs bs) (I.ok.hd hc) (by omega) pl.isList (by rw [← hits]) (fun x hx=>?_) (by omega) fun h' tk L hS nd hof hall hle kp=>?_
 ·obtain ⟨b,_,e,hb,_⟩:=tsL_mem hP x hx
  rw [e]
  exact key_ofT I hb
 ·obtain ⟨t1,t2⟩:=tp_of (H:=H) (L:=L) fun x hx=>by
   obtain ⟨b,_,e,hb,_⟩:=tsL_mem hP x (hof x hx)
   exact ⟨b,e,hb⟩
  have eC:(L.map fun x=>unRw x.1).map kRw=L.map (·.1):=by
   rw [List.map_map]
   refine List.map_congr_left fun x hx=>?_
   obtain ⟨b,_,e,_⟩:=tsL_mem hP x (hof x hx)
   show kRw (unRw x.1)=x.1
   rw [e,unRw_k]
  refine ⟨.ref s.heap.objs.size,_,I.laid (t':=tk) (o:=TsO X.prog X.w s.heap.objs.size (L.map fun x=>V.ref x.2) (L.map fun x=>unRw x.1)) (fun b o e=>kp b o e) (Nat.le_refl _) ⟨by rw [t2]; exact hS,?_,fun _ _ p k=>p.stay k⟩,rfl,q _ _ _ (I.hok.fresh (Nat.le_refl _)) t1 ?_ (fun c hc'=>?_) (fun b hb=>?_) (by rw [List.length_map]; omega)⟩
  ·obtain ⟨o,_,_,_,ho,_⟩:=hS
   exact ⟨o,ho⟩
  ·rw [← eC,List.nodup_iff_pairwise_ne,List.pairwise_map] at nd
   exact nd.imp fun h e=>h (by rw [e])
  ·obtain ⟨x,hx,rfl⟩:=List.mem_map.mp hc'
   obtain ⟨b,hb,e,_⟩:=tsL_mem hP x (hof x hx)
   rw [e,unRw_k]
   exact hb
  ·have h1:kRw b∈(tsL vs bs).map (·.1):=by
    rw [tsL_fst hP]
    exact List.mem_map_of_mem hb
   obtain ⟨x,hx,e⟩:=List.mem_map.mp h1
   have h2:=hall x hx
   rw [e,← eC] at h2
   obtain ⟨c,hc',e2⟩:=List.mem_map.mp h2
   rw [← kRw_inj e2]
   exact hc'
def rLenTs (P:Program) (w:World):List V→Hp→VK→Prop:=fun xs H Q=>∃ (a:Addr) (ws:List V) (cs:List (List Nat)),xs=[.ref a]∧H a=some (TsO P w a ws cs)∧TpAt H ws cs∧Q (.int ((cs.length:Nat):Int)) H
theorem call_lenTs {X:Cx}:CallR X (.builtin "len") (rLenTs X.prog X.w):=by
 intro pins s σ H xs us Q I r h
 obtain ⟨a,ws,cs,rfl,ha,hP,q⟩:=h
 obtain ⟨u,rfl,rx⟩:=vals1 r
 cases rx
 have hS:SetT X.prog X.w s.heap a (tsL ws cs):=(I.hok a _ ha).1
 obtain ⟨o,ep,t,es,ho,hex,hd,T⟩:=hS
 have e:es.size=cs.length:=by rw [T.size,tsL_len hP]
 refine call_len_set ho hex hd T.fit ?_ ⟨.int es.size,H,I.tok _,⟨_,rfl⟩,by rw [e]; exact q⟩
 rw [e]
 have:=T.tab.room
 rw [List.length_map,Array.length_toList,e] at this
 have h2:=T.tab.msk
 have h3:cs.length≤127:=by rcases h2 with z | z | z <;> omega
 omega
end L2
namespace L2
open PySem PySem.Spec PyProof.Rows
end L2
namespace L2
open PySem PySem.Spec PyProof.Rows
end L2
namespace L2
open PySem PySem.Spec PyProof.Rows
end L2
namespace L2
open PySem PySem.Spec PyProof.Rows
section
variable {prog:Program} {w:World} {A:Around} {E:Value→Shared→Prop} {s:Shared}
end
section
variable {prog:Program} {w:World} {A:Around} {E:Value→Shared→Prop} {s:Shared}
end
section
variable {X:Cx} {elts:List Expr} {k:Nat} {tp:Pos}
end
theorem comp_enum {K:PySem.W.Frag} {a:Addr} {xs:List V} {g:TG} {tc:TT} {te:TE} {σ':St} {H:Hp} {G:Addr→Hp→List V→Prop} (Pv:Nat→List V→Hp→Prop) (h0:Pv 0 [] H) (hl:∀ i ys H,i≤xs.length→Pv i ys H→SqL K H a xs)
  (hs:∀ i x t ys H (N:List V→Hp→Prop),xs[i]?=some x→Pv i ys H→H t=none→(∀ ys' H',Pv (i + 1) ys' H'→N ys' H')→g (.ref t) σ' (upd H t (.tup [.int (i:Nat),x])) fun σ2 H4=>Weak σ' σ2∧tc σ2 H4 fun b H5=>if b=true then te σ2 H5 fun y H6=>ys.length < sizeLine∧N (ys++[y]) H6 else N ys H5)
  (hd:∀ ys H,Pv xs.length ys H→ys.length≤sizeLine∧∀ p,H p=none→G p H ys) :
  ∃ W:Nat→Nat→List V→Hp→Prop,(∃ m,W 0 m [] H)∧∀ i m ys H2,W i m ys H2→
   ((Ite K a).stop i H2∧ys.length≤sizeLine∧∀ p,H2 p=none→G p H2 ys)∨
   ((Ite K a).go i H2∧∀ x H3,(Ite K a).yld i H2 x H3→g x σ' H3 fun σ2 H4=>Weak σ' σ2∧tc σ2 H4 fun b H5=>
    if b=true then te σ2 H5 fun y H6=>ys.length < sizeLine∧∃ m',m' < m∧W (i + 1) m' (ys++[y]) H6 else ∃ m',m' < m∧W (i + 1) m' ys H5):=by
 refine ⟨fun i m ys H=>m=xs.length - i∧i≤xs.length∧Pv i ys H,⟨xs.length,rfl,Nat.zero_le _,h0⟩,?_⟩
 rintro i m ys H2 ⟨rfl,hi,p⟩
 have q:=hl i ys H2 hi p
 by_cases hlt:i < xs.length
 ·refine .inr ⟨⟨xs,xs[i],q,by simp [hlt]⟩,fun v H' y=>?_⟩
  obtain ⟨t,x,hx,ht,rfl,rfl⟩:=y
  exact hs i x t ys _ (fun ys' H''=>∃ m',m' < xs.length - i∧m'=xs.length - (i + 1)∧i + 1≤xs.length∧Pv (i + 1) ys' H'') (hx xs q) p ht (fun ys' H'' p'=>⟨_,by omega,rfl,hlt,p'⟩)
 ·have e:i=xs.length:=by omega
  subst e
  exact .inl ⟨⟨xs,q,Nat.le_refl _⟩,hd ys H2 p⟩
end L2
namespace L2
open PySem PySem.Spec PyProof.Rows
section
variable {X:Cx} {pins:List (Addr×Obj)} {σ:St} {H:Hp} {s:Shared}
theorem name_goneK {n:Str} {i:Nat} {pos:Pos} {Q:Unit→Shared→Prop} {E:Value→Shared→Prop} (I:Inv X pins σ H s) (hN:X.N.Nodup) (hi:X.N[i]?=some n) (hl:X.env.scope.names.lookup n=some .local) (h:∀ s',Inv X pins (σ.set i none) H s'→Q () s') :
  wpAny (model X.prog X.w) X.A (do bindName X.env n .none; unbindBehindTheSuite X.env n pos) Q E s:=by
 obtain ⟨m,hn,hrel⟩:=I.loc
 refine wpAny_nameGoes_keeps hl hn (by rw [I.ok.kind]; rfl) fun h' v0 hn' hs=>h _ ?_
 have k:∀ b o,b≠X.env.locals→s.heap.get? b=some o→h'.get? b=some o:=fun b o hb e=>(hs.2 b hb).trans e
 have cellK:∀ c v,c≠X.env.locals→s.heap.IsCell c v→h'.IsCell c v:=fun c v hc z=>z.sameBut hs hc
 have nL:∀ b o,X.s₀.heap.get? b=some o→b≠X.env.locals:=fun b o e=>Nat.ne_of_lt (Nat.lt_of_lt_of_le (Heap.lt_size e) I.ok.above)
 refine ⟨I.ok,I.os,I.bare,⟨fun b o e n' hb hx=>k b o (nL b o e) (I.base.keep b o e n' hb hx),fun b o e n' hb hx=>?_,I.base.free,fun b o e hx=>?_,I.base.tups,I.base.frzs,I.base.tbls⟩,⟨_,hn',fun j x v e1 e2 e3=>?_⟩,fun x c e=>?_,I.free,I.freeC,fun p hp=>?_,fun a o e=>?_,by rw [List.length_set]; exact I.len⟩
 ·obtain ⟨sl,e1⟩:=I.base.slot b o e n' hb hx
  exact ⟨sl,k b _ (nL b o e) e1⟩
 ·obtain ⟨o',e1⟩:=I.base.there b o e hx
  exact ⟨o',k b o' (nL b o e) e1⟩
 ·have hji:j≠i:=fun z=>by
   rw [z] at e2
   by_cases hlt:i < σ.length
   ·rw [List.getElem?_set_self hlt] at e2
    cases e2
   ·rw [List.getElem?_eq_none (by rw [List.length_set]; omega)] at e2
    cases e2
  rw [List.getElem?_set_ne (Ne.symm hji)] at e2
  obtain ⟨u,r,lk⟩:=hrel j x v e1 e2 e3
  have hxn:x≠n:=fun z=>by
   subst z
   obtain ⟨h1,g1⟩:=List.getElem?_eq_some_iff.mp e1
   obtain ⟨h2,g2⟩:=List.getElem?_eq_some_iff.mp hi
   exact hji ((List.getElem_inj hN).mp (g1.trans g2.symm))
  refine ⟨u,r,?_⟩
  rcases lk with ⟨l1,l2⟩ | ⟨l1,c,l2,l3⟩
  ·exact .inl ⟨l1,(if_neg hxn).trans l2⟩
  ·exact .inr ⟨l1,c,l2,cellK c _ (I.cne x c l2) l3⟩
 ·obtain ⟨v,z⟩:=I.cell x c e
  exact ⟨v,cellK c v (I.cne x c e) z⟩
 ·obtain ⟨e,n',ne,r⟩:=I.pin p hp
  exact ⟨k _ _ ne e,n',ne,r⟩
 ·refine (I.hok a o e).stay (fun b u hb q=>k b u (fun z=>?_) q) (fun _ q=>q) fun _ _ q=>q
  have n':=I.free
  rcases hb with rfl | hb
  ·rw [z,n'] at e; cases e
  ·rw [z,n'] at hb; cases hb
end
def Ends.gone (D:Ends) (i:Nat):Ends:={ nx:=fun σ H=>D.nx (σ.set i none) H,rt:=D.rt,bk:=fun σ H=>D.bk (σ.set i none) H,ct:=fun σ H=>D.ct (σ.set i none) H }
end L2
namespace L2
open PySem PySem.Spec PyProof.Rows
section
variable {prog:Program} {w:World} {A:Around} {E:Value→Shared→Prop} {s:Shared}
end
section
variable {prog:Program} {w:World} {A:Around} {E:Value→Shared→Prop} {s:Shared}
end
end L2
namespace L2
open PySem PySem.Spec PyProof.Rows
section
variable {X:Cx} {CX:CXT} {k:Nat} {C:Addr} {m:Str} {ps:List Str} {sp:Sp} {E:XK} {pos apos:Pos} {e o:Expr} {es:List Expr} {ta:TE} {t:TA}
end
end L2
namespace L2
open PySem PySem.Spec PyProof.Rows
section
variable {prog:Program} {w:World} {A:Around} {E:Value→Shared→Prop} {s:Shared}
theorem collect_rng {Q:List Value→Shared→Prop} {r:Addr} {a b c:Int} {t u v:Tok} {n:Nat} (hh:A.handled=none) (hr:IsRange s.heap r a b c t u v) (hsmall:Builtin.Range.small a b c=true) (hn:Builtin.Range.rangeSize a b c=n) (hlen:n≤2 ^ 24)
  (hQ:∀ (h':Heap) (tk:Nat) (acc:Array Value),(∀ b o,s.heap.get? b=some o→h'.get? b=some o)→ItemsOf (fun i v=>∃ t,v=.int (a + i * c) t) acc n→Q acc.toList { s with heap:=h',toks:=tk }):wpAny (model prog w) A (collect (.ref r)) Q E s:=by
 unfold collect
 refine wpAny_bind (wpAny_runValue (codeAny_builtin PySem.F.entry_proto_collect ?_))
 rw [Around.under_plainId PySem.F.plain_proto_collect _]
 show wpAny _ A.in1 (newList [] >>= fun l=>again (.builtin "list.__iadd__" ⟨[l,.ref r],[]⟩)) _ _ s
 refine wpAny_bind (wpAny_newObj_type (wpAny_pure ⟨plainId_quiet PySem.F.plain_list_iadd _,codeAny_builtin PySem.F.entry_list_iadd ?_⟩))
 rw [Around.under_plainId PySem.F.plain_list_iadd _]
 show wpAny _ A.in1 (Builtin.List.listExtendWith (.ref s.heap.objs.size) (.ref r) (.ref s.heap.objs.size)) _ _ _
 have hS:(s.heap.push { cls:=.type "list",data:=.seq ([]:List Value).toArray }).get? s.heap.objs.size=some { cls:=.type "list",data:=.seq #[] 0 }:=Heap.get?_push_size _ rfl
 refine wpAny_mono (wpAny_extend_range (A:=A) (R:=fun res s'=>res=.ok (.ret (.ref s.heap.objs.size))∧∃ h' tk acc c',s'={ s with heap:=h',toks:=tk }∧(∀ b o,s.heap.get? b=some o→h'.get? b=some o)∧h'.get? s.heap.objs.size=some { cls:=.type "list",dict:=none,data:=.seq acc c',slots:=#[] }∧ItemsOf (fun i v=>∃ t,v=.int (a + i * c) t) acc n)
  (s:={ s with heap:=s.heap.push { cls:=.type "list",data:=.seq ([]:List Value).toArray } }) hh (Heap.get?_push_of_some _ hr) hsmall hn hlen s.heap.objs.size (.ref s.heap.objs.size) 0 hS fun h' tk acc c' hk hS' hit=>⟨rfl,h',tk,acc,c',rfl,fun b o e=>hk b o (Nat.ne_of_lt (Heap.lt_size e)) (Heap.get?_push_of_some _ e),hS',hit⟩) (fun fin s' h=>?_) (fun e s' h=>?_)
 ·have fin':∀ s'',(∃ h' tk acc c',s''={ s with heap:=h',toks:=tk }∧(∀ b o,s.heap.get? b=some o→h'.get? b=some o)∧h'.get? s.heap.objs.size=some { cls:=.type "list",dict:=none,data:=.seq acc c',slots:=#[] }∧ItemsOf (fun i v=>∃ t,v=.int (a + i * c) t) acc n)→wpAny (model prog w) A (match Value.ref s.heap.objs.size with
    | Value.ref a=>do
     match (← load a).data with
      | Data.seq xs _=>pure xs.toList
      | _=>unsupported "internal:collect"
    | _=>unsupported "internal:collect") Q E s'':=by
   rintro s'' ⟨h',tk,acc,c',rfl,kp,hg,hit⟩
   show wpAny _ A (load s.heap.objs.size >>= _) _ _ _
   exact wpAny_bind (wpAny_load hg (wpAny_pure (hQ h' tk acc kp hit)))
  cases fin with
  | done f=>
   obtain ⟨e,z⟩:=h
   cases e
   exact fin' _ z
  | again c'=>exact ⟨h.1,codeAny_mono h.2 fun r s'' hr=>by obtain ⟨rfl,z⟩:=hr; exact fin' _ z⟩
 ·exact absurd h.1 (by simp)
theorem tuple_rng_new {Q₁:Value→Shared→Prop} {r:Addr} {a b c:Int} {t u v:Tok} {n:Nat} (hh:A.handled=none) (hr:IsRange s.heap r a b c t u v) (hsmall:Builtin.Range.small a b c=true) (hn:Builtin.Range.rangeSize a b c=n) (hlen:n≤2 ^ 20)
  (h:∀ (h':Heap) (tk:Nat) (acc:Array Value),(∀ b o,s.heap.get? b=some o→h'.get? b=some o)→ItemsOf (fun i v=>∃ t,v=.int (a + i * c) t) acc n→Q₁ (.ref h'.objs.size) { s with heap:=h'.push { cls:=.type "tuple",data:=.seq acc },toks:=tk }) :
  codeAny (model prog w) A (.call (.builtin "tuple.__new__") ⟨[.type "tuple",.ref r],[]⟩) (wants Q₁ E) s:=by
 refine codeAny_of_tree ?_
 show wpAny _ A.in1 (do checkBuiltinCall "tuple.__new__" ⟨[.type "tuple",.ref r],[]⟩; again (.builtin "tuple.__new__" ⟨[.type "tuple",.ref r],[]⟩)) _ _ s
 refine wpAny_bind (wpAny_of_eq (PySem.F.newCall_tuple_1 _) (wpAny_pure ⟨plainId_quiet PySem.F.plain_tuple_new _,codeAny_builtin PySem.F.entry_tuple_new ?_⟩))
 rw [Around.under_plainId PySem.F.plain_tuple_new _]
 have hsub:=sub_tuple_self
 have hinit:=init_tuple_lookup
 have hmh:=madeHere_tuple
 have hTI:s.TypeIs (.ref r) "range":=⟨_,hr,rfl⟩
 have hl2:n≤2 ^ 24:=Nat.le_trans hlen (by decide)
 wp_walk using wpAny_typeOf hTI,collect_rng (A:=A.in1) hh hr hsmall hn hl2
 intro h' tk acc kp hit
 show wpAny _ _ (Builtin.Tuple.tupleExact acc.toList.toArray >>= fun v=>ret v) _ _ _
 unfold Builtin.Tuple.tupleExact
 refine wpAny_bind (wpAny_newObj_type (wpAny_pure ?_) (by show acc.toList.toArray.size≤sizeLine; simp only [Array.toArray_toList]; rw [hit.1]; exact Nat.le_trans hlen (by decide)))
 have e:acc.toList.toArray=acc:=by simp
 rw [e]
 exact h h' tk acc kp hit
theorem tuple_rng {Q:Value→Shared→Prop} {r:Addr} {a b c:Int} {t u v:Tok} {n:Nat} (hh:A.handled=none) (hr:IsRange s.heap r a b c t u v) (hsmall:Builtin.Range.small a b c=true) (hn:Builtin.Range.rangeSize a b c=n) (hlen:n≤2 ^ 20)
  (h:∀ (h':Heap) (tk:Nat) (acc:Array Value),(∀ b o,s.heap.get? b=some o→h'.get? b=some o)→ItemsOf (fun i v=>∃ t,v=.int (a + i * c) t) acc n→Q (.ref h'.objs.size) { s with heap:=h'.push { cls:=.type "tuple",data:=.seq acc },toks:=tk }):wpAny (model prog w) A (call (.type "tuple") [.ref r]) Q E s:=by
 refine callType_codes (Q₁:=fun obj s₁=>s₁.TypeIs obj "tuple"∧Q obj s₁) PySem.F.called_tuple (PySem.F.typeCall_tuple_1 _) PySem.F.entry_object_init (tuple_rng_new hh hr hsmall hn hlen fun h' tk acc kp hit=>⟨⟨_,Heap.get?_push_size _ rfl,rfl⟩,h h' tk acc kp hit⟩) fun obj s₁ h₁=>?_
 exact ⟨h₁.1,PySem.F.args_object_init_2 obj _,object_init_meets PySem.F.called_tuple.init.lookup PySem.F.called_tuple.made (by decide) prog w A.in1 _ s₁ ⟨h₁.1,rfl,h₁.2⟩⟩
end
def rTrng:List V→Hp→VK→Prop:=fun xs H Q=>∃ (r:Addr) (lo n:Nat),xs=[.ref r]∧H r=some (.rng ((lo:Nat):Int) ((lo + n:Nat):Int))∧lo≤100000∧n≤100000∧∀ l,H l=none→Q (.ref l) (upd H l (.tup ((List.range n).map fun p=>V.int ((lo + p:Nat):Int))))
theorem items_from {acc:Array Value} {lo n:Nat} (h:ItemsOf (fun i v=>∃ t,v=.int (((lo:Nat):Int) + (i:Nat) * 1) t) acc n):Vals ((List.range n).map fun p=>V.int ((lo + p:Nat):Int)) acc.toList:=by
 obtain ⟨hs,hv⟩:=h
 have key:∀ (k:Nat) (l:List Value),(∀ (j:Nat) (v:Value),l[j]?=some v→∃ t,v=Value.int (((lo + k:Nat):Int) + (j:Int)) t)→Vals ((List.range' k l.length).map fun p=>V.int ((lo + p:Nat):Int)) l:=by
  intro k l
  induction l generalizing k with
  | nil=>intro _; exact .nil
  | cons x l ih=>
   intro h
   rw [List.length_cons,List.range'_succ,List.map_cons]
   refine .cons ?_ (ih (k + 1) fun j v e=>?_)
   ·obtain ⟨t,e⟩:=h 0 x rfl
    exact ⟨t,by rw [e]; simp⟩
   ·obtain ⟨t,e'⟩:=h (j + 1) v e
    exact ⟨t,by rw [e']; congr 1; omega⟩
 have:=key 0 acc.toList fun j v e=>by
  obtain ⟨t,e'⟩:=hv j v (by simpa using e)
  exact ⟨t,by rw [e']; congr 1; omega⟩
 rw [Array.length_toList,hs] at this
 rw [List.range_eq_range']
 exact this
theorem call_tuple_rng {X:Cx} (hc:X.calm=true):CallR X (.type "tuple") rTrng:=by
 intro pins s σ H xs us Q I r h
 obtain ⟨a,lo,n,rfl,ha,hlo,hn,q⟩:=h
 obtain ⟨u,rfl,rx⟩:=vals1 r
 cases rx
 obtain ⟨t,u,v,ho⟩:=(show ∃ t u v,s.heap.get? a=some { cls:=.type "range",data:=.fields #[.int ((lo:Nat):Int) t,.int ((lo + n:Nat):Int) u,.int 1 v] } from I.hok a _ ha)
 refine tuple_rng (n:=n) (I.ok.hd hc) ho (small_one (by omega) (by omega) (by omega) (by omega)) (by rw [rangeSize_one]; split <;> omega) (Nat.le_trans hn (by decide)) fun h' tk acc kp hit=>?_
 have I1:Inv X pins σ H { s with heap:=h',toks:=tk }:=I.kept (t':=tk) kp
 exact ⟨.ref h'.objs.size,_,I1.laid (t':=tk) (o:=.tup ((List.range n).map fun p=>V.int ((lo + p:Nat):Int))) (fun b o e=>Heap.get?_push_of_some _ e) (Nat.le_refl _) ⟨by rw [List.length_map,List.length_range]; exact Nat.le_trans hn (by decide),acc.toList,items_from hit,by have:=IsTup.new h' acc; rw [Array.toArray_toList]; exact this⟩,rfl,q _ (I1.hok.fresh (Nat.le_refl _))⟩
theorem call_rng2 {X:Cx}:CallR X (.type "range") (fun xs H Q=>∃ i j:Int,xs=[.int i,.int j]∧∀ r,H r=none→Q (.ref r) (upd H r (.rng i j))):=by
 intro pins s σ H xs us Q I r h
 obtain ⟨i,j,rfl,q⟩:=h
 cases r with
 | cons r1 r2=>
  cases r2 with
  | cons r3 r4=>
   cases r4
   obtain ⟨t,rfl⟩:=r1
   obtain ⟨u,rfl⟩:=r3
   exact call_range_2 ⟨.ref s.heap.objs.size,_,I.laid (t':=s.toks + 1) (o:=.rng i j) (fun b o e=>Heap.get?_push_of_some _ e) (Nat.le_refl _) ⟨_,_,_,Heap.get?_push_size _ rfl⟩,rfl,q _ (I.hok.fresh (Nat.le_refl _))⟩
end L2
namespace L2
open PySem PySem.Spec PyProof.Rows
def RgO (r:Addr) (i j k:Int):HO:=.ext fun h=>∃ t u v,IsRange h r i j k t u v
theorem call_rng3 {X:Cx}:CallR X (.type "range") (fun xs H Q=>∃ i j k:Int,xs=[.int i,.int j,.int k]∧k≠0∧k.natAbs < 1073741824∧∀ r,H r=none→Q (.ref r) (upd H r (RgO r i j k))):=by
 intro pins s σ H xs us Q I r h
 obtain ⟨i,j,k,rfl,k0,kb,q⟩:=h
 cases r with
 | cons r1 r2=>
  cases r2 with
  | cons r3 r4=>
   cases r4 with
   | cons r5 r6=>
    cases r6
    obtain ⟨t,rfl⟩:=r1
    obtain ⟨u,rfl⟩:=r3
    obtain ⟨v,rfl⟩:=r5
    exact call_range_3 k0 ⟨.ref s.heap.objs.size,_,I.laid (t':=s.toks) (o:=RgO s.heap.objs.size i j k) (fun b o e=>Heap.get?_push_of_some _ e) (Nat.le_refl _) ⟨⟨_,_,_,Heap.get?_push_size _ rfl⟩,⟨_,Heap.get?_push_size _ rfl⟩,fun g1 g2 ⟨t,u,v,z⟩ st=>⟨t,u,v,st _ z⟩⟩,rfl,q _ (I.hok.fresh (Nat.le_refl _))⟩ (.inl (PyProof.noPylong_small kb))
def rTrng3:List V→Hp→VK→Prop:=fun xs H Q=>∃ (r:Addr) (i j k:Int) (n:Nat),xs=[.ref r]∧H r=some (RgO r i j k)∧Builtin.Range.small i j k=true∧Builtin.Range.rangeSize i j k=(n:Int)∧n≤100000∧∀ l,H l=none→Q (.ref l) (upd H l (.tup ((List.range n).map fun p=>V.int (i + ((p:Nat):Int) * k))))
theorem items_by {acc:Array Value} {i k:Int} {n:Nat} (h:ItemsOf (fun p v=>∃ t,v=.int (i + (p:Nat) * k) t) acc n):Vals ((List.range n).map fun p=>V.int (i + ((p:Nat):Int) * k)) acc.toList:=by
 obtain ⟨hs,hv⟩:=h
 have key:∀ (m:Nat) (l:List Value),(∀ (j:Nat) (v:Value),l[j]?=some v→∃ t,v=Value.int (i + ((m + j:Nat):Int) * k) t)→Vals ((List.range' m l.length).map fun p=>V.int (i + ((p:Nat):Int) * k)) l:=by
  intro m l
  induction l generalizing m with
  | nil=>intro _; exact .nil
  | cons x l ih=>
   intro h
   rw [List.length_cons,List.range'_succ,List.map_cons]
   refine .cons ?_ (ih (m + 1) fun j v e=>?_)
   ·obtain ⟨t,e⟩:=h 0 x rfl
    exact ⟨t,by rw [e]; rfl⟩
   ·obtain ⟨t,e'⟩:=h (j + 1) v e
    exact ⟨t,by rw [e',show m + (j + 1)=m + 1 + j by omega]⟩
 have:=key 0 acc.toList fun j v e=>by
  obtain ⟨t,e'⟩:=hv j v (by simpa using e)
  exact ⟨t,by rw [e',Nat.zero_add]⟩
 rw [Array.length_toList,hs] at this
 rw [List.range_eq_range']
 exact this
theorem call_tuple_rng3 {X:Cx} (hc:X.calm=true):CallR X (.type "tuple") rTrng3:=by
 intro pins s σ H xs us Q I r h
 obtain ⟨a,i,j,k,n,rfl,ha,sm,rs,hn,q⟩:=h
 obtain ⟨u,rfl,rx⟩:=vals1 r
 cases rx
 obtain ⟨t,u,v,ho⟩:=(show ∃ t u v,IsRange s.heap a i j k t u v from (I.hok a _ ha).1)
 refine tuple_rng (n:=n) (I.ok.hd hc) ho sm rs (Nat.le_trans hn (by decide)) fun h' tk acc kp hit=>?_
 have I1:Inv X pins σ H { s with heap:=h',toks:=tk }:=I.kept (t':=tk) kp
 exact ⟨.ref h'.objs.size,_,I1.laid (t':=tk) (o:=.tup ((List.range n).map fun p=>V.int (i + ((p:Nat):Int) * k))) (fun b o e=>Heap.get?_push_of_some _ e) (Nat.le_refl _) ⟨by rw [List.length_map,List.length_range]; exact Nat.le_trans hn (by decide),acc.toList,items_by hit,by have:=IsTup.new h' acc; rw [Array.toArray_toList]; exact this⟩,rfl,q _ (I1.hok.fresh (Nat.le_refl _))⟩
end L2
namespace L2
open PySem PySem.Spec PyProof.Rows
def rSlA:V→Option Int→Option Int→Hp→VK→Prop:=fun x lo hi H Q=>∃ a xs,x=.ref a∧H a=some (.tup xs)∧∀ (p:Addr) (H':Hp),Same H H'→H' p=some (.tup (cutV xs lo hi))→Q (.ref p) H'
theorem sl_tupA {X:Cx}:SlR X rSlA:=by
 intro pins s σ H x v vl vu lo hi sl Q I rx hs pl pu h
 obtain ⟨a,xs,e,hx,q⟩:=h
 refine sl_tupW pins s σ H x v vl vu lo hi sl Q I rx hs pl pu ⟨a,xs,e,SqT.of hx,fun hw=>q a H (Same.refl _) ?_,fun _ p hp=>q p _ (fun b o hb=>by rw [upd_ne (fun z=>by rw [z,hp] at hb; cases hb)]; exact hb) upd_same⟩
 have:cutV xs lo hi=xs:=by
  unfold cutV
  rw [hw.1,hw.2,List.drop_zero,Nat.sub_zero,List.take_length]
 rw [this]
 exact hx
end L2
namespace L2
open PySem PySem.Spec PyProof.Rows
theorem ext_tup (l:Addr) (items:Array Value) (n:Nat) (b:Addr) (od:Option Addr) (osl:Array (Option Value)) (items2:Array Value) (n2:Nat) (hs0:¬(!items.isEmpty && Builtin.List.listTooLong (items.size + items2.size))=true) (hs1:items.size≤sizeLine) (hs2:items.size + items2.size≤sizeLine + 1) :
  Meets (Builtin.«list.extend» ⟨[.ref l,.ref b],[]⟩) (fun _ R s=>s.heap.get? l=some { cls:=.type "list",dict:=none,data:=.seq items n,slots:=#[] }∧s.heap.get? b=some { cls:=.type "tuple",dict:=od,data:=.seq items2 n2,slots:=osl }∧R (.ok (.ret Value.none)) { s with heap:=s.heap.update l (Obj.mapSeq fun x=>x++items2),toks:=s.toks }):=
 .of_wp fun prog w A R s h=>by
  obtain ⟨hp,g,d,tk,os⟩:=s; obtain ⟨hl,hb,h⟩:=h; have f1:=AutoSeq1.idx_int; have f2:=AutoSeq1.sub_tuple_tuple; have f3:=AutoSeq1.sub_list_list; have f4:=AutoSeq1.sub_tuple_list; have f5:=AutoSeq1.sub_list_tuple;
  have hz':(items++items2).size≤sizeLine + 1:=by rw [Array.size_append]; exact hs2
  wp_walk using (wpAny_updateSeq hl rfl (hz:=hs1) (_hz':=hz')),AutoSeq1.wpAny_loadPart' hl,AutoSeq1.wpAny_loadPart' hb; exact ⟨_,rfl,h⟩
def rExtT:V→List V→Hp→VK→Prop:=fun x vs H Q=>∃ l b xs zs,x=.ref l∧vs=[.ref b]∧H l=some (.lst xs)∧H b=some (.tup zs)∧xs.length + zs.length≤sizeLine∧Q .non (upd H l (.lst (xs++zs)))
theorem mt_extendT {X:Cx}:MtM X "list.extend" rExtT:=by
 intro pins s σ H x vs v us Q I rx rv h
 obtain ⟨l,b,xs,zs,rfl,rfl,hH,hB,hz,q⟩:=h
 cases rx
 obtain ⟨u,rfl,ru⟩:=rv.one
 cases ru
 obtain ⟨z,its,n,r,hl,e⟩:=I.lstM hH
 obtain ⟨_,its2,r2,o,ho,hc,n2,hd⟩:=(show ObjOk X.prog X.w H s.heap b (.tup zs) from I.hok b _ hB)
 obtain ⟨oc,od,oda,osl⟩:=o
 dsimp only at hc hd
 subst hc hd
 have hl2:=r2.length
 have hsz:its.toArray.size + its2.toArray.size≤sizeLine:=by rw [List.size_toArray,List.size_toArray]; omega
 have hlong:¬ (!its.toArray.isEmpty && Builtin.List.listTooLong (its.toArray.size + its2.toArray.size))=true:=by
  rw [notLongL hsz,Bool.and_false]
  exact Bool.false_ne_true
 refine call_meets F.slot_list_extend ⟨_,e,rfl⟩ F.entry_list_extend (F.args_list_extend_2 _ _)
  (ext_tup l its.toArray n b od osl its2.toArray n2 hlong (by rw [List.size_toArray]; omega) (Nat.le_succ_of_le hsz)) ⟨e,ho,?_⟩
 refine ⟨.non,_,I.lset (its':=its++its2) hH e (by simp) (r.append r2) ?_,rfl,q⟩
 rw [List.length_append]
 omega
end L2
namespace PySem
open PySem.Spec PyProof.Rows
def LeftD (base:Heap) (l:List Env) (e:Addr) (cls a0:Value) (dx:Option Addr) (h h':Heap):Prop:=base.LeftW l e cls a0 h h'∧∃ oe,h'.get? e=some oe∧oe.dict=dx
theorem mapFields_dict (f:Array Value→Array Value) (o:Obj):(Obj.mapFields f o).dict=o.dict:=by
 unfold Obj.mapFields
 split <;> rfl
theorem left_of {base h h1:Heap} {l:List Env} {e:Addr} {oe:Obj} {vs:Array Value} {a0:Value} {dx:Option Addr} {tb:Obj} {ts:Array Value} (hl:h.FunFrames base l) (he:h.get? e=some oe) (hkb:base.StaysIn h) (hen:base.get? e=none) (hd:oe.data=.fields vs) (hsz:1 < vs.size) (h0:vs[0]?=some a0) (hdx:oe.dict=dx)
  (S:Heap.SlotsOnly (List.filterMap (fun x=>x.frame) l) h h1) (ht:tb.data=.fields ts) (h3:3 < ts.size) :
  LeftD base l e oe.cls a0 dx h (((h1.push tb).update e (Obj.mapFields fun x=>x.setIfInBounds 1 (.ref h1.objs.size))).update h1.objs.size (Obj.mapFields fun x=>x.setIfInBounds 3 .none)):=by
 have hene:e∉List.filterMap (fun x=>x.frame) l:=fun hm=>by
  obtain ⟨_,o,ho,hnf⟩:=hl.mem hm
  rw [he] at ho
  cases ho
  exact hnf vs hd
 have he1:h1.get? e=some oe:=(S.2.1 e hene).trans he
 have he2:=Heap.get?_push_of_some tb he1
 have hTe:h1.objs.size≠e:=Nat.ne_of_gt (Heap.lt_size he1)
 have hd3:=Obj.data_mapFields hd fun x=>x.setIfInBounds 1 (.ref h1.objs.size)
 have he3:=Heap.get?_update_self (Obj.mapFields fun x=>x.setIfInBounds 1 (.ref h1.objs.size)) he2 (Obj.isFreed_of_fields hd3)
 have hT2:(h1.push tb).get? h1.objs.size=some tb:=Heap.get?_push_size h1 (Obj.isFreed_of_fields ht)
 have hT3:((h1.push tb).update e (Obj.mapFields fun x=>x.setIfInBounds 1 (.ref h1.objs.size))).get? h1.objs.size=some tb:=(Heap.get?_update_other _ _ (Ne.symm hTe)).trans hT2
 have hdT:=Obj.data_mapFields ht fun x=>x.setIfInBounds 3 .none
 have hT4:=Heap.get?_update_self (Obj.mapFields fun x=>x.setIfInBounds 3 .none) hT3 (Obj.isFreed_of_fields hdT)
 have he4:(((h1.push tb).update e (Obj.mapFields fun x=>x.setIfInBounds 1 (.ref h1.objs.size))).update h1.objs.size (Obj.mapFields fun x=>x.setIfInBounds 3 .none)).get? e=some (Obj.mapFields (fun x=>x.setIfInBounds 1 (.ref h1.objs.size)) oe):=(Heap.get?_update_other _ _ hTe).trans he3
 have other:∀ b o,h1.get? b=some o→b≠e→(((h1.push tb).update e (Obj.mapFields fun x=>x.setIfInBounds 1 (.ref h1.objs.size))).update h1.objs.size (Obj.mapFields fun x=>x.setIfInBounds 3 .none)).get? b=some o:=fun b o ho hb=>by
  have hbT:h1.objs.size≠b:=Nat.ne_of_gt (Heap.lt_size ho)
  rw [Heap.get?_update_other _ _ hbT,Heap.get?_update_other _ _ (Ne.symm hb)]
  exact Heap.get?_push_of_some _ ho
 have baseF:∀ b,b∈List.filterMap (fun x=>x.frame) l→base.get? b=none:=fun b hm=>(hl.mem hm).1
 refine ⟨⟨fun b o hbo=>?_,?_,?_,fun b o ho hnf=>?_⟩,_,he4,(mapFields_dict _ _).trans hdx⟩
 ·have hb:b≠e:=fun z=>by
   rw [z,hen] at hbo
   cases hbo
  refine other b o ?_ hb
  rw [S.2.1 b fun hm=>by rw [baseF b hm] at hbo; cases hbo]
  exact hkb b o hbo
 ·refine Heap.FunFrames.of_keeps (fun b o ho hnf=>?_) (Heap.FunFrames.of_slotsOnly S hl)
  have hb:b≠e:=fun z=>by
   rw [z,he1] at ho
   cases ho
   exact hnf vs hd
  exact ⟨o,other b o ho hb,rfl⟩
 ·refine ⟨_,_,h1.objs.size,_,_,he4,⟨Obj.cls_mapFields _ _,?_⟩,hd3,?_,?_,hTe,hT4,hdT,?_⟩
  ·rw [Array.getElem?_setIfInBounds_ne (by decide)]
   exact h0
  ·rw [Array.getElem?_setIfInBounds_self_of_lt hsz]
  ·cases hq:base.get? h1.objs.size with
   | none=>rfl
   | some o=>
    have:=hkb _ _ hq
    have hlt:=Heap.lt_size this
    rw [S.1] at hlt
    exact absurd hlt (Nat.lt_irrefl _)
  ·rw [Array.getElem?_setIfInBounds_self_of_lt h3]
 ·obtain ⟨sl,hsl⟩:=S.2.2 b o ho
  have hb:b≠e:=fun z=>by
   rw [z,he] at ho
   cases ho
   exact hnf vs hd
  exact ⟨sl,other b _ hsl hb⟩
theorem place_len {L:Nat} {pl:List Value} (h:IsPlace pl) (x:Value):([x,Value.ref L,Value.none,rawInt (L:Int),Value.none]++if pl.isEmpty=true then List.replicate 6 Value.none else pl).toArray.size=11:=by
 rcases h with rfl | ⟨a,b,c,d,c9,b10,_,rfl⟩ <;> rfl
theorem note_next {M:Model} {A:Around} {E:Value→Shared→Prop} {s:Shared} {base:Heap} {env:Env} {outer:List Env} {L e T:Addr} {oe oT:Obj} {vs ts:Array Value} {a0:Value} {dx:Option Addr} {Q:Unit→Shared→Prop} (hfr:A.frames=some (env::outer)) (hl:s.heap.FunFrames base (env::outer)) (hf:env.frame=some L) (he:s.heap.get? e=some oe) (hkb:base.StaysIn s.heap) (hen:base.get? e=none) (hd:oe.data=.fields vs) (h1:vs[1]?=some (.ref T)) (h0:vs[0]?=some a0) (hdx:oe.dict=dx)
  (hbT:base.get? T=none) (hTe0:T≠e) (hT:s.heap.get? T=some oT) (hdT:oT.data=.fields ts) (h3:ts[3]?=some .none)
  (h:∀ h':Heap,LeftD base (env::outer) e oe.cls a0 dx s.heap h'→Q () { s with heap:=h' }):wpAny M A (noteFrame (.ref e) env) (fun _ s'=>wpAny M A (setFlight (.ref e) none) Q E s') E s:=by
 have hsz:1 < vs.size:=(Array.getElem?_eq_some_iff.mp h1).1
 unfold noteFrame
 simp only [hf]
 refine wpAny_bind (wpAny_field he hd h1 ?_)
 rw [if_pos (by rfl)]
 refine wpAny_bind (wpAny_field hT hdT h3 ?_)
 rw [if_neg (by unfold rawInt; intro z; cases z)]
 refine wpAny_bind (wpAny_setField hT hdT (Array.getElem?_eq_some_iff.mp h3).1 ?_)
 have hdT2:=Obj.data_mapFields hdT fun x=>x.setIfInBounds 3 .none
 have keep:∀ b o,b≠T→s.heap.get? b=some o→(s.heap.update T (Obj.mapFields fun x=>x.setIfInBounds 3 .none)).get? b=some o:=fun b o hb ho=>(Heap.get?_update_other _ _ (Ne.symm hb)).trans ho
 have he':=keep e oe (Ne.symm hTe0) he
 have hkb':base.StaysIn (s.heap.update T (Obj.mapFields fun x=>x.setIfInBounds 3 .none)):=fun b o hb=>keep b o (fun z=>by rw [z,hbT] at hb; cases hb) (hkb b o hb)
 have hl':(s.heap.update T (Obj.mapFields fun x=>x.setIfInBounds 3 .none)).FunFrames base (env::outer):=Heap.FunFrames.of_keeps (fun b o ho hnf=>⟨o,keep b o (fun z=>by
  rw [z,hT] at ho
  cases ho
  exact hnf ts hdT) ho,rfl⟩) hl
 have keepN:∀ b o,s.heap.get? b=some o→(∀ vs:Array Value,o.data≠.fields vs)→(s.heap.update T (Obj.mapFields fun x=>x.setIfInBounds 3 .none)).get? b=some o:=fun b o ho hnf=>keep b o (fun z=>by
  rw [z,hT] at ho
  cases ho
  exact hnf ts hdT) ho
 replace he:=he'
 replace hkb:=hkb'
 replace hl:=hl'
 clear he' hkb' hl' keep
 generalize s.heap.update T (Obj.mapFields fun x=>x.setIfInBounds 3 .none)=hp at he hkb hl keepN ⊢
 refine wpAny_bind (wpAny_frameOf_fun (s:={ s with heap:=hp }) hfr hl hf fun hh S=>wpAny_bind (wpAny_entryPlaceOf fun pl hpl=>wpAny_bind ?_))
 unfold EntryCells.newEntry newFields
 have hlen:∀ x:Value,([x,Value.ref L,Value.none,rawInt (L:Int),Value.none]++if pl.isEmpty=true then List.replicate 6 Value.none else pl).toArray.size=11:=place_len hpl
 refine wpAny_newObj_type ?_ (by show Array.size _≤sizeLine + 2; rw [hlen]; decide)
 have hene:e∉List.filterMap (fun x=>x.frame) (env::outer):=fun hm=>by
  obtain ⟨_,o,ho,hnf⟩:=hl.mem hm
  rw [he] at ho
  cases ho
  exact hnf vs hd
 have he1:hh.get? e=some oe:=(S.2.1 e hene).trans he
 refine wpAny_setField (Heap.get?_push_of_some _ he1) hd hsz ?_
 unfold setFlight
 have hd3:=Obj.data_mapFields hd fun x=>x.setIfInBounds 1 (.ref hh.objs.size)
 refine wpAny_bind (wpAny_field (Heap.get?_update_self (Obj.mapFields fun x=>x.setIfInBounds 1 (.ref hh.objs.size)) (Heap.get?_push_of_some _ he1) (Obj.isFreed_of_fields hd3)) hd3 (Array.getElem?_setIfInBounds_self_of_lt hsz) ?_)
 rw [if_pos (by rfl)]
 have hTe:hh.objs.size≠e:=Nat.ne_of_gt (Heap.lt_size he1)
 refine wpAny_setField ((Heap.get?_update_other _ _ (Ne.symm hTe)).trans (Heap.get?_push_size hh rfl)) rfl ?_ ?_
 ·rw [hlen]
  decide
 ·obtain ⟨⟨l1,l2,l3,l4⟩,l5⟩:=left_of hl he hkb hen hd hsz h0 hdx S (tb:={ cls:=.type "traceback",data:=.fields ([Value.ref T,Value.ref L,Value.none,rawInt (L:Int),Value.none]++if pl.isEmpty=true then List.replicate 6 Value.none else pl).toArray }) rfl (by rw [hlen]; decide)
  exact h _ ⟨⟨l1,l2,l3,fun b o ho hnf=>l4 b o (keepN b o ho hnf) hnf⟩,l5⟩
theorem land_again {M:Model} {A:Around} {E:Value→Shared→Prop} {s:Shared} {base:Heap} {l:List Env} {e:Addr} {oe:Obj} {cls a0:Value} {dx:Option Addr} {Q:Unit→Shared→Prop} (F:base.FlyingW l e cls a0 s.heap) (he:s.heap.get? e=some oe) (hdx:oe.dict=dx)
  (h:∀ h':Heap,base.FlyingW l e cls a0 h'→s.heap.UpToSlots h'→h'.get? e=some oe→Q () { s with heap:=h' }):wpAny M A (setFlight (.ref e) none) Q E s:=by
 obtain ⟨f1,f2,f3,oe2,vs,T,oT,ts,he2,⟨hc,h0⟩,hd,h1,hbT,hTe,hT,hdT,h3⟩:=F
 rw [he] at he2
 cases he2
 unfold setFlight
 refine wpAny_bind (wpAny_field he hd h1 ?_)
 rw [if_pos (by rfl)]
 have h3s:=(Array.getElem?_eq_some_iff.mp h3).1
 have hdT2:=Obj.data_mapFields hdT fun x=>x.setIfInBounds 3 .none
 have hT2:=Heap.get?_update_self (Obj.mapFields fun x=>x.setIfInBounds 3 .none) hT (Obj.isFreed_of_fields hdT2)
 have keep:∀ b o,b≠T→s.heap.get? b=some o→(s.heap.update T (Obj.mapFields fun x=>x.setIfInBounds 3 .none)).get? b=some o:=fun b o hb ho=>(Heap.get?_update_other _ _ (Ne.symm hb)).trans ho
 have nT:∀ b o,s.heap.get? b=some o→(∀ vs:Array Value,o.data≠.fields vs)→b≠T:=fun b o ho hnf z=>by
  rw [z,hT] at ho
  cases ho
  exact hnf ts hdT
 have he3:=keep e oe (Ne.symm hTe) he
 refine wpAny_setField hT hdT h3s (h _ ⟨fun b o hb=>keep b o (fun z=>by rw [z,hbT] at hb; cases hb) (f1 b o hb),f2,Heap.FunFrames.of_keeps (fun b o ho hnf=>⟨o,keep b o (nT b o ho hnf) ho,rfl⟩) f3,oe,vs,T,_,_,he3,⟨hc,h0⟩,hd,h1,hbT,hTe,hT2,hdT2,?_⟩ (fun b o ho hnf=>⟨o.slots,keep b o (nT b o ho hnf) ho⟩) he3)
 rw [Array.getElem?_setIfInBounds_self_of_lt h3s]
end PySem
namespace L2
open PySem PySem.Spec PyProof.Rows
structure FlyD (h0:Heap) (H:Hp) (a T:Addr) (C:Value) (dx:Option Addr) (h:Heap):Prop where
 na:h0.get? a=none
 fa:H a=none
 nT:h0.get? T=none
 fT:H T=none
 ob:∃ oe vs a0 oT ts,h.get? a=some oe∧oe.cls=C∧oe.dict=dx∧oe.data=.fields vs∧vs[0]?=some a0∧vs[1]?=some (.ref T)∧T≠a∧h.get? T=some oT∧oT.data=.fields ts∧ts[3]?=some .none
structure FlyE (h0:Heap) (H:Hp) (a:Addr) (C:Value) (dx:Option Addr) (h:Heap):Prop where
 na:h0.get? a=none
 fa:H a=none
 ob:∃ oe vs a0,h.get? a=some oe∧oe.cls=C∧oe.dict=dx∧oe.data=.fields vs∧vs[0]?=some a0∧vs[1]?=some .none
def CXD (P:Program) (w:World):CXT:=fun outer H s E e s'=>∃ (a T:Addr) (C:Value) (dx:Option Addr) (H':Hp),e=.ref a∧s'.os=s.os∧AllBare s'.gens∧Un (frs outer) [] H H' s.heap s'.heap∧HOk P w H' s'.heap∧
 FlyD s.heap H' a T C dx s'.heap∧E C dx H'
def XED (X:Cx) (E:XK):Value→Shared→Prop:=fun e s'=>∃ (a:Addr) (C:Value) (dx:Option Addr) (H':Hp) (σ:St),e=.ref a∧Inv X [] σ H' s'∧(FlyE X.s₀.heap H' a C dx s'.heap∨∃ T,FlyD X.s₀.heap H' a T C dx s'.heap)∧E C dx H'
section
variable {X:Cx} {pins:List (Addr×Obj)} {σ:St} {H H':Hp} {s s':Shared}
theorem passED {E:XK} (hex:X.ex=[]):Passes (CXD X.prog X.w) (X.wish (XED X E)) E:=fun pins σ H s e s' I q=>by
 obtain ⟨a,T,C,dx,H',rfl,os,bare,un,hok,fl,qE⟩:=q
 have I0:Inv X pins σ H s:=I.unwish
 refine ⟨a,C,dx,H',σ,rfl,(I0.call' os un hok bare (fun b z=>absurd z (by simp))).nopins,.inr ⟨T,?_⟩,qE⟩
 exact ⟨I0.new0 hex fl.na,fl.fa,I0.new0 hex fl.nT,fl.fT,fl.ob⟩
end
section
variable {P:Program} {w:World} {K:PySem.W.Frag} {mg:Str→Option Value} {base:Heap} {N:List Str} {qual:Str} {scope:Scope} {f:Addr} {cd:Value} {A:Around} {outer:List Env} {s:Shared} {H:Hp} {E:XK}
end
end L2
namespace PySem
end PySem
namespace PySem.W
open PySem PySem.Calls PyProof.Rows Builtin Builtin.ObjectAttr Builtin.Getset_descriptor
section
variable {prog:Program} {w:World} {A:Around} {E:Value→Shared→Prop} {s:Shared} {K:Frag} {x C D:Addr} {ox:Obj}
end
end PySem.W
namespace L2
open PySem PySem.Spec PyProof.Rows
section
variable {X:Cx} {pins:List (Addr×Obj)} {σ:St} {H:Hp} {s:Shared}
end
def XD (a C:Addr) (dx:Option Addr):HO:=.ext fun h=>∃ o vs,h.get? a=some o∧o.cls=.ref C∧o.dict=dx∧o.data=.fields vs
theorem XD.at {P:Program} {w:World} {H:Hp} {h:Heap} {a C:Addr} {dx:Option Addr} (ok:HOk P w H h) (e:H a=some (XD a C dx)):∃ o vs,h.get? a=some o∧o.cls=.ref C∧o.dict=dx∧o.data=.fields vs:=(ok a _ e).1
theorem up_trans {h1 h2 h3:Heap} (a:∀ (b:Addr) (o:Obj),h1.get? b=some o→(∀ vs:Array Value,o.data≠.fields vs)→∃ sl,h2.get? b=some { o with slots:=sl }) (c:h2.UpToSlots h3):h1.UpToSlots h3:=fun b o ho hnf=>by
 obtain ⟨sl,e⟩:=a b o ho hnf
 obtain ⟨sl2,e2⟩:=c b _ e hnf
 exact ⟨sl2,e2⟩
end L2
namespace L2
open PySem PySem.Spec PyProof.Rows
section
variable {P:Program} {w:World} {K:PySem.W.Frag} {mg:Str→Option Value} {base:Heap} {x qual:Str} {st:Stmt} {f:Addr} {fd:FuncData} {N ps:List Str} {k:Nat} {sp:Sp}
end
section
variable {X:Cx}
end
end L2
namespace PySem
def NotedD (base:Heap) (l:List Env) (e:Addr) (cls a0 fl:Value) (dx:Option Addr) (h h':Heap):Prop:=base.NotedW l e cls a0 fl h h'∧∃ oe,h'.get? e=some oe∧oe.dict=dx
theorem noted_of {base h h1:Heap} {l:List Env} {e:Addr} {oe:Obj} {vs:Array Value} {a0 fl:Value} {dx:Option Addr} {tb:Obj} {ts:Array Value} (hl:h.FunFrames base l) (he:h.get? e=some oe) (hkb:base.StaysIn h) (hen:base.get? e=none) (hd:oe.data=.fields vs) (hsz:1 < vs.size) (h0:vs[0]?=some a0) (hdx:oe.dict=dx)
  (S:Heap.SlotsOnly (List.filterMap (fun x=>x.frame) l) h h1) (ht:tb.data=.fields ts) (h3:ts[3]?=some fl) :
  NotedD base l e oe.cls a0 fl dx h ((h1.push tb).update e (Obj.mapFields fun x=>x.setIfInBounds 1 (.ref h1.objs.size))):=by
 have hene:e∉List.filterMap (fun x=>x.frame) l:=fun hm=>by
  obtain ⟨_,o,ho,hnf⟩:=hl.mem hm
  rw [he] at ho
  cases ho
  exact hnf vs hd
 have he1:h1.get? e=some oe:=(S.2.1 e hene).trans he
 have he2:=Heap.get?_push_of_some tb he1
 have hTe:h1.objs.size≠e:=Nat.ne_of_gt (Heap.lt_size he1)
 have hd3:=Obj.data_mapFields hd fun x=>x.setIfInBounds 1 (.ref h1.objs.size)
 have he3:=Heap.get?_update_self (Obj.mapFields fun x=>x.setIfInBounds 1 (.ref h1.objs.size)) he2 (Obj.isFreed_of_fields hd3)
 have hT2:(h1.push tb).get? h1.objs.size=some tb:=Heap.get?_push_size h1 (Obj.isFreed_of_fields ht)
 have hT3:((h1.push tb).update e (Obj.mapFields fun x=>x.setIfInBounds 1 (.ref h1.objs.size))).get? h1.objs.size=some tb:=(Heap.get?_update_other _ _ (Ne.symm hTe)).trans hT2
 have other:∀ b o,h1.get? b=some o→b≠e→((h1.push tb).update e (Obj.mapFields fun x=>x.setIfInBounds 1 (.ref h1.objs.size))).get? b=some o:=fun b o ho hb=>by
  rw [Heap.get?_update_other _ _ (Ne.symm hb)]
  exact Heap.get?_push_of_some _ ho
 have baseF:∀ b,b∈List.filterMap (fun x=>x.frame) l→base.get? b=none:=fun b hm=>(hl.mem hm).1
 refine ⟨⟨fun b o hbo=>?_,?_,?_,fun b o ho hnf=>?_⟩,_,he3,(mapFields_dict _ _).trans hdx⟩
 ·have hb:b≠e:=fun z=>by
   rw [z,hen] at hbo
   cases hbo
  refine other b o ?_ hb
  rw [S.2.1 b fun hm=>by rw [baseF b hm] at hbo; cases hbo]
  exact hkb b o hbo
 ·refine Heap.FunFrames.of_keeps (fun b o ho hnf=>?_) (Heap.FunFrames.of_slotsOnly S hl)
  have hb:b≠e:=fun z=>by
   rw [z,he1] at ho
   cases ho
   exact hnf vs hd
  exact ⟨o,other b o ho hb,rfl⟩
 ·refine ⟨_,_,h1.objs.size,_,_,he3,⟨Obj.cls_mapFields _ _,?_⟩,hd3,?_,?_,hTe,hT3,ht,h3⟩
  ·rw [Array.getElem?_setIfInBounds_ne (by decide)]
   exact h0
  ·rw [Array.getElem?_setIfInBounds_self_of_lt hsz]
  ·cases hq:base.get? h1.objs.size with
   | none=>rfl
   | some o=>
    have:=hkb _ _ hq
    have hlt:=Heap.lt_size this
    rw [S.1] at hlt
    exact absurd hlt (Nat.lt_irrefl _)
 ·obtain ⟨sl,hsl⟩:=S.2.2 b o ho
  have hb:b≠e:=fun z=>by
   rw [z,he] at ho
   cases ho
   exact hnf vs hd
  exact ⟨sl,other b _ hsl hb⟩
theorem place_at {L:Nat} (pl:List Value) (x:Value):([x,Value.ref L,Value.none,rawInt (L:Int),Value.none]++if pl.isEmpty=true then List.replicate 6 Value.none else pl).toArray[3]?=some (rawInt (L:Int)):=by simp
inductive FliesAs (base h:Heap) (L e:Addr) (vs:Array Value):Prop where
 | new (h1:vs[1]?=some .none)
 | next {T:Addr} {oT:Obj} {ts:Array Value} {x:Value} (h1:vs[1]?=some (.ref T)) (hbT:base.get? T=none) (hTe:T≠e) (hT:h.get? T=some oT) (hdT:oT.data=.fields ts) (h3:ts[3]?=some x) (hx:x≠rawInt L)
 | here {T:Addr} {oT:Obj} {ts:Array Value} (h1:vs[1]?=some (.ref T)) (hbT:base.get? T=none) (hTe:T≠e) (hT:h.get? T=some oT) (hdT:oT.data=.fields ts) (h3:ts[3]?=some (rawInt L))
theorem note_own {M:Model} {A:Around} {E:Value→Shared→Prop} {s:Shared} {base:Heap} {env:Env} {outer:List Env} {L e:Addr} {oe:Obj} {vs:Array Value} {a0:Value} {dx:Option Addr} {Q:Unit→Shared→Prop} (hfr:A.frames=some (env::outer)) (hl:s.heap.FunFrames base (env::outer)) (hf:env.frame=some L) (he:s.heap.get? e=some oe) (hkb:base.StaysIn s.heap) (hen:base.get? e=none) (hd:oe.data=.fields vs) (h0:vs[0]?=some a0) (hdx:oe.dict=dx)
  (fl:FliesAs base s.heap L e vs) (h:∀ h':Heap,NotedD base (env::outer) e oe.cls a0 (rawInt L) dx s.heap h'→Q () { s with heap:=h' }):wpAny M A (noteFrame (.ref e) env) Q E s:=by
 unfold noteFrame
 simp only [hf]
 cases fl with
 | new h1=>
  have hsz:1 < vs.size:=(Array.getElem?_eq_some_iff.mp h1).1
  refine wpAny_bind (wpAny_field he hd h1 ?_)
  rw [if_neg (by decide)]
  refine wpAny_bind (wpAny_frameOf_fun hfr hl hf fun hh S=>wpAny_bind (wpAny_entryPlaceOf fun pl hpl=>wpAny_bind ?_))
  unfold EntryCells.newEntry newFields
  have hlen:∀ x:Value,([x,Value.ref L,Value.none,rawInt (L:Int),Value.none]++if pl.isEmpty=true then List.replicate 6 Value.none else pl).toArray.size=11:=place_len hpl
  refine wpAny_newObj_type ?_ (by show Array.size _≤sizeLine + 2; rw [hlen]; decide)
  have hene:e∉List.filterMap (fun x=>x.frame) (env::outer):=fun hm=>by
   obtain ⟨_,o,ho,hnf⟩:=hl.mem hm
   rw [he] at ho
   cases ho
   exact hnf vs hd
  have he1:hh.get? e=some oe:=(S.2.1 e hene).trans he
  refine wpAny_setField (Heap.get?_push_of_some _ he1) hd hsz ?_
  exact h _ (noted_of hl he hkb hen hd hsz h0 hdx S rfl (place_at pl _))
 | @next T oT ts x h1 hbT hTe0 hT hdT h3 hx=>
  have hsz:1 < vs.size:=(Array.getElem?_eq_some_iff.mp h1).1
  refine wpAny_bind (wpAny_field he hd h1 ?_)
  rw [if_pos (by rfl)]
  refine wpAny_bind (wpAny_field hT hdT h3 ?_)
  rw [if_neg (by simpa using hx)]
  refine wpAny_bind (wpAny_setField hT hdT (Array.getElem?_eq_some_iff.mp h3).1 ?_)
  have keep:∀ b o,b≠T→s.heap.get? b=some o→(s.heap.update T (Obj.mapFields fun x=>x.setIfInBounds 3 .none)).get? b=some o:=fun b o hb ho=>(Heap.get?_update_other _ _ (Ne.symm hb)).trans ho
  have he':=keep e oe (Ne.symm hTe0) he
  have hkb':base.StaysIn (s.heap.update T (Obj.mapFields fun x=>x.setIfInBounds 3 .none)):=fun b o hb=>keep b o (fun z=>by rw [z,hbT] at hb; cases hb) (hkb b o hb)
  have hl':(s.heap.update T (Obj.mapFields fun x=>x.setIfInBounds 3 .none)).FunFrames base (env::outer):=Heap.FunFrames.of_keeps (fun b o ho hnf=>⟨o,keep b o (fun z=>by
   rw [z,hT] at ho
   cases ho
   exact hnf ts hdT) ho,rfl⟩) hl
  have keepN:∀ b o,s.heap.get? b=some o→(∀ vs:Array Value,o.data≠.fields vs)→(s.heap.update T (Obj.mapFields fun x=>x.setIfInBounds 3 .none)).get? b=some o:=fun b o ho hnf=>keep b o (fun z=>by
   rw [z,hT] at ho
   cases ho
   exact hnf ts hdT) ho
  replace he:=he'
  replace hkb:=hkb'
  replace hl:=hl'
  clear he' hkb' hl' keep
  generalize s.heap.update T (Obj.mapFields fun x=>x.setIfInBounds 3 .none)=hp at he hkb hl keepN ⊢
  refine wpAny_bind (wpAny_frameOf_fun (s:={ s with heap:=hp }) hfr hl hf fun hh S=>wpAny_bind (wpAny_entryPlaceOf fun pl hpl=>wpAny_bind ?_))
  unfold EntryCells.newEntry newFields
  have hlen:∀ x:Value,([x,Value.ref L,Value.none,rawInt (L:Int),Value.none]++if pl.isEmpty=true then List.replicate 6 Value.none else pl).toArray.size=11:=place_len hpl
  refine wpAny_newObj_type ?_ (by show Array.size _≤sizeLine + 2; rw [hlen]; decide)
  have hene:e∉List.filterMap (fun x=>x.frame) (env::outer):=fun hm=>by
   obtain ⟨_,o,ho,hnf⟩:=hl.mem hm
   rw [he] at ho
   cases ho
   exact hnf vs hd
  have he1:hh.get? e=some oe:=(S.2.1 e hene).trans he
  refine wpAny_setField (Heap.get?_push_of_some _ he1) hd hsz ?_
  obtain ⟨⟨l1,l2,l3,l4⟩,l5⟩:=noted_of hl he hkb hen hd hsz h0 hdx S (tb:={ cls:=.type "traceback",data:=.fields ([Value.ref T,Value.ref L,Value.none,rawInt (L:Int),Value.none]++if pl.isEmpty=true then List.replicate 6 Value.none else pl).toArray }) rfl (place_at pl _)
  exact h _ ⟨⟨l1,l2,l3,fun b o ho hnf=>l4 b o (keepN b o ho hnf) hnf⟩,l5⟩
 | @here T oT ts h1 hbT hTe0 hT hdT h3=>
  refine wpAny_bind (wpAny_field he hd h1 ?_)
  rw [if_pos (by rfl)]
  refine wpAny_bind (wpAny_field hT hdT h3 ?_)
  rw [if_pos (by simp)]
  exact wpAny_pure (h _ ⟨⟨hkb,hl,⟨oe,vs,T,oT,ts,he,⟨rfl,h0⟩,hd,h1,hbT,hTe0,hT,hdT,h3⟩,fun b o ho _=>⟨o.slots,ho⟩⟩,oe,he,hdx⟩)
theorem flight_own {M:Model} {A:Around} {E:Value→Shared→Prop} {s:Shared} {base:Heap} {l:List Env} {e:Addr} {cls a0 fl:Value} {dx:Option Addr} {fr:Option Addr} {h1:Heap} {Q:Unit→Shared→Prop} (N:NotedD base l e cls a0 fl dx h1 s.heap)
  (h:∀ h':Heap,NotedD base l e cls a0 (fr.elim .none fun f=>rawInt f) dx h1 h'→Q () { s with heap:=h' }):wpAny M A (setFlight (.ref e) fr) Q E s:=by
 obtain ⟨⟨f1,f2,⟨oe,vs,T,oT,ts,he,⟨hc,h0⟩,hd,h1',hbT,hTe,hT,hdT,h3⟩,f4⟩,oe2,he2,hdx⟩:=N
 rw [he] at he2
 cases he2
 unfold setFlight
 refine wpAny_bind (wpAny_field he hd h1' ?_)
 rw [if_pos (by rfl)]
 generalize (fr.elim Value.none fun f=>rawInt f)=x at h ⊢
 have h3s:=(Array.getElem?_eq_some_iff.mp h3).1
 have hdT2:=Obj.data_mapFields hdT fun y=>y.setIfInBounds 3 x
 have hT2:=Heap.get?_update_self (Obj.mapFields fun y=>y.setIfInBounds 3 x) hT (Obj.isFreed_of_fields hdT2)
 have keep:∀ b o,b≠T→s.heap.get? b=some o→(s.heap.update T (Obj.mapFields fun y=>y.setIfInBounds 3 x)).get? b=some o:=fun b o hb ho=>(Heap.get?_update_other _ _ (Ne.symm hb)).trans ho
 have nT:∀ b o,s.heap.get? b=some o→(∀ vs:Array Value,o.data≠.fields vs)→b≠T:=fun b o ho hnf z=>by
  rw [z,hT] at ho
  cases ho
  exact hnf ts hdT
 have he3:=keep e oe (Ne.symm hTe) he
 refine wpAny_setField hT hdT h3s (h _ ⟨⟨fun b o hb=>keep b o (fun z=>by rw [z,hbT] at hb; cases hb) (f1 b o hb),Heap.FunFrames.of_keeps (fun b o ho hnf=>⟨o,keep b o (nT b o ho hnf) ho,rfl⟩) f2,⟨oe,vs,T,_,_,he3,⟨hc,h0⟩,hd,h1',hbT,hTe,hT2,hdT2,?_⟩,fun b o ho hnf=>?_⟩,oe,he3,hdx⟩)
 ·rw [Array.getElem?_setIfInBounds_self_of_lt h3s]
 ·obtain ⟨sl,e2⟩:=f4 b o ho hnf
  exact ⟨sl,keep b _ (nT b _ e2 hnf) e2⟩
theorem back_own {M:Model} {A:Around} {E:Value→Shared→Prop} {s:Shared} {base:Heap} {env:Env} {l:List Env} {e L:Addr} {cls a0 fl:Value} {dx:Option Addr} {h1:Heap} (hf:env.frame=some L) (N:NotedD base l e cls a0 fl dx h1 s.heap)
  (h:∀ h':Heap,NotedD base l e cls a0 (rawInt L) dx h1 h'→E (.ref e) { s with heap:=h' }):cameBackBy M A env E (.ref e) s:=by
 unfold cameBackBy
 obtain ⟨oe,vs,T,oT,ts,he,_,hd,h1',_⟩:=N.1.2.2.1
 refine wpAny_bind (wpAny_field he hd h1' ?_)
 rw [if_neg (by intro z; cases z)]
 rw [hf]
 exact flight_own N h
end PySem
namespace L2
open PySem PySem.Spec PyProof.Rows
structure FlyN (h0:Heap) (H:Hp) (x:Value) (a T:Addr) (C:Value) (dx:Option Addr) (h:Heap):Prop where
 na:h0.get? a=none
 fa:H a=none
 nT:h0.get? T=none
 fT:H T=none
 ob:∃ oe vs a0 oT ts,h.get? a=some oe∧oe.cls=C∧oe.dict=dx∧oe.data=.fields vs∧vs[0]?=some a0∧vs[1]?=some (.ref T)∧T≠a∧h.get? T=some oT∧oT.data=.fields ts∧ts[3]?=some x
def XEF (X:Cx) (E:XK):Value→Shared→Prop:=fun e s'=>∃ (a:Addr) (C:Value) (dx:Option Addr) (H':Hp) (σ:St),e=.ref a∧Inv X [] σ H' s'∧(FlyE X.s₀.heap H' a C dx s'.heap∨(∃ T,FlyD X.s₀.heap H' a T C dx s'.heap)∨∃ T x,FlyN X.s₀.heap H' x a T C dx s'.heap)∧E C dx H'
theorem xef_of {X:Cx} {E:XK} {e:Value} {s:Shared} (h:XED X E e s):XEF X E e s:=by
 obtain ⟨a,C,dx,H',σ,e1,I,fl,q⟩:=h
 refine ⟨a,C,dx,H',σ,e1,I,?_,q⟩
 rcases fl with fl | fl
 ·exact .inl fl
 ·exact .inr (.inl fl)
section
variable {X:Cx} {pins:List (Addr×Obj)} {σ:St} {H H':Hp} {s s':Shared} {E:XK}
theorem noted_fly {ts:List Addr} {h':Heap} {a:Addr} {C a0:Value} {dx:Option Addr} (I:Inv X pins σ H s) (hex:X.ex=[]) (hts:∀ b∈ts,X.s₀.heap.get? b=none∧H b=none) (ha:a∈ts) {fl:Value}
  (N:NotedD (PySem.W.hideAll s.heap (ts++frs X.stack)) X.stack a C a0 fl dx s.heap h'):∃ T,X.s₀.heap.get? T=none∧H T=none∧∃ oe vs oT tv,h'.get? a=some oe∧oe.cls=C∧oe.dict=dx∧oe.data=.fields vs∧vs[0]?=some a0∧vs[1]?=some (.ref T)∧T≠a∧h'.get? T=some oT∧oT.data=.fields tv∧tv[3]?=some fl:=by
 obtain ⟨⟨k1,hf,⟨oe,vs,T,oT,tv,he,⟨hc,h0⟩,hd,h1,hnT,hTe,hT,hdT,h3⟩,k4⟩,oe2,he2,hdx⟩:=N
 rw [he] at he2
 cases he2
 have key:X.s₀.heap.get? T=none∧H T=none:=by
  by_cases z:T∈ts
  ·exact hts T z
  ·have nf:T∉frs X.stack:=fun q=>by
    obtain ⟨_,o,ho,nf⟩:=hf.mem q
    rw [hT] at ho; cases ho
    exact nf _ hdT
   have nn:s.heap.get? T=none:=by
    cases q:s.heap.get? T with
    | none=>rfl
    | some o=>
     rw [PySem.W.hideAll_get _ q fun y=>(List.mem_append.mp y).elim z nf] at hnT
     cases hnT
   exact ⟨I.new0 hex nn,I.newH nn⟩
 exact ⟨T,key.1,key.2,oe,vs,oT,tv,he,hc,hdx,hd,h0,h1,hTe,hT,hdT,h3⟩
theorem fl_as {a:Addr} {C:Value} {dx:Option Addr} {L:Addr} (hf:X.env.frame=some L) {h:Heap} (fl:FlyE X.s₀.heap H a C dx h∨(∃ T,FlyD X.s₀.heap H a T C dx h)∨∃ T x,FlyN X.s₀.heap H x a T C dx h) :
  ∃ ts:List Addr,(∀ b∈ts,X.s₀.heap.get? b=none∧H b=none)∧a∈ts∧∃ oe vs a0,h.get? a=some oe∧oe.cls=C∧oe.dict=dx∧oe.data=.fields vs∧vs[0]?=some a0∧FliesAs (PySem.W.hideAll h (ts++frs X.stack)) h L a vs:=by
 rcases fl with fl | ⟨T,fl⟩ | ⟨T,x,fl⟩
 ·obtain ⟨oe,vs,a0,he,hc,hdx,hd,h0,h1⟩:=fl.ob
  exact ⟨[a],fun b hb=>by cases (List.mem_singleton.mp hb); exact ⟨fl.na,fl.fa⟩,by simp,oe,vs,a0,he,hc,hdx,hd,h0,.new h1⟩
 ·obtain ⟨oe,vs,a0,oT,tv,he,hc,hdx,hd,h0,h1,hTe,hT,hdT,h3⟩:=fl.ob
  refine ⟨[a,T],fun b hb=>?_,by simp,oe,vs,a0,he,hc,hdx,hd,h0,.next h1 (PySem.W.hideAll_none _ (List.mem_append_left _ (by simp))) hTe hT hdT h3 (by unfold rawInt; intro z; cases z)⟩
  rcases List.mem_cons.mp hb with z | z
  ·subst z; exact ⟨fl.na,fl.fa⟩
  ·cases (List.mem_singleton.mp z); exact ⟨fl.nT,fl.fT⟩
 ·obtain ⟨oe,vs,a0,oT,tv,he,hc,hdx,hd,h0,h1,hTe,hT,hdT,h3⟩:=fl.ob
  refine ⟨[a,T],fun b hb=>?_,by simp,oe,vs,a0,he,hc,hdx,hd,h0,?_⟩
  ·rcases List.mem_cons.mp hb with z | z
   ·subst z; exact ⟨fl.na,fl.fa⟩
   ·cases (List.mem_singleton.mp z); exact ⟨fl.nT,fl.fT⟩
  ·by_cases hx:x=rawInt L
   ·rw [hx] at h3
    exact .here h1 (PySem.W.hideAll_none _ (List.mem_append_left _ (by simp))) hTe hT hdT h3
   ·exact .next h1 (PySem.W.hideAll_none _ (List.mem_append_left _ (by simp))) hTe hT hdT h3 hx
theorem passesF {M:Model} (hst:X.stack=X.env::X.outer) (hfr:∃ L,X.env.frame=some L) (hex:X.ex=[]) (hpn:X.pn=[]):PassesOwn M X.A X.env (XEF X E):=by
 obtain ⟨L,hf⟩:=hfr
 rintro e s' ⟨a,C,dx,H',σ,rfl,J,fl,q⟩
 obtain ⟨ts,hts,ha,oe,vs,a0,he,hc,hdx,hd,h0,fa⟩:=fl_as hf fl
 have hfrs:X.A.frames=some (X.env::X.outer):=by rw [J.ok.frames,hst]
 have hts':∀ b∈ts,X.s₀.heap.get? b=none∧H' b=none∧∀ p∈X.pn++[],p.1≠b:=fun b hb=>⟨(hts b hb).1,(hts b hb).2,fun p hp=>by rw [hpn] at hp; cases hp⟩
 refine note_own (base:=PySem.W.hideAll s'.heap (ts++frs X.stack)) hfrs (by rw [← hst]; exact fun_hide J ts) hf he (hide_stays _ _) (PySem.W.hideAll_none _ (List.mem_append_left _ ha)) hd h0 hdx fa fun h1 N1=>?_
 refine back_own (s:={ s' with heap:=h1 }) hf N1 fun h2 N2=>?_
 rw [← hst,hc] at N2
 have S:Shift X ts s'.heap h2:=⟨N2.1.1,N2.1.2.2.2⟩
 have J2:Inv X [] σ H' { s' with heap:=h2 }:=S.inv (tk:=s'.toks) J hts'
 obtain ⟨T,nT,fT,oe2,vs2,oT,tv,g1,g2,g3,g4,g5,g6,g7,g8,g9,g10⟩:=noted_fly J hex hts ha N2
 exact ⟨a,C,dx,H',σ,rfl,J2,.inr (.inr ⟨T,_,(hts a ha).1,(hts a ha).2,nT,fT,oe2,vs2,a0,oT,tv,g1,g2,g3,g4,g5,g6,g7,g8,g9,g10⟩),q⟩
end
section
variable {P:Program} {w:World} {K:PySem.W.Frag} {mg:Str→Option Value} {base:Heap} {N:List Str} {qual:Str} {scope:Scope} {f:Addr} {cd:Value} {A:Around} {outer:List Env} {s:Shared} {H:Hp} {E:XK}
theorem xe_ofF {e:Value} {s':Shared} (h:XEF (cxOf (CXD P w) P w K mg base N qual scope f cd A outer s H E) E e s'):(cxOf (CXD P w) P w K mg base N qual scope f cd A outer s H E).xe e s':=by
 obtain ⟨a,C,dx,H',σ,rfl,I,fl,q⟩:=h
 obtain ⟨ts,hts,ha,oe,vs,a0,he,hc,hdx,hd,h0,fa⟩:=fl_as (X:=cxOf (CXD P w) P w K mg base N qual scope f cd A outer s H E) rfl fl
 have hfr:(A.deeper (envOfC qual scope s.heap.objs.size f cd)).frames=some (envOfC qual scope s.heap.objs.size f cd::outer):=I.ok.frames
 refine wpAny_bind (note_own (base:=PySem.W.hideAll s'.heap (ts++frs (envOfC qual scope s.heap.objs.size f cd::outer))) hfr (fun_hide I ts) rfl he (hide_stays _ _) (PySem.W.hideAll_none _ (List.mem_append_left _ ha)) hd h0 hdx fa fun h1 N1=>?_)
 refine flight_own (s:={ s' with heap:=h1 }) N1 fun h2 N2=>?_
 rw [hc] at N2
 have S:Shift (cxOf (CXD P w) P w K mg base N qual scope f cd A outer s H E) ts s'.heap h2:=⟨N2.1.1,N2.1.2.2.2⟩
 obtain ⟨T,nT,fT,oe2,vs2,oT,tv,g1,g2,g3,g4,g5,g6,g7,g8,g9,g10⟩:=noted_fly I rfl hts ha N2
 exact ⟨a,T,C,dx,H',rfl,I.os,I.bare,S.un I fun b z=>(hts b z).1,S.hok I fun b z=>(hts b z).2,⟨(hts a ha).1,(hts a ha).2,nT,fT,oe2,vs2,a0,oT,tv,g1,g2,g3,g4,g5,g6,g7,g8,g9,g10⟩,q⟩
end
theorem Fun.okXFQ {P:Program} {w:World} {K:PySem.W.Frag} {mg:Str→Option Value} {base:Heap} {x qual:Str} {st:Stmt} {f:Addr} {fd:FuncData} {N ps:List Str} {k:Nat} {sp:Sp} (F:Fun K x qual st f fd) (S:FnScope N ps (defScope st))
  (len:∀ vs H Q E,sp vs H Q E→vs.length=ps.length)
  (hbody:∀ (cdv:Value) (A:Around) (outer:List Env) (s:Shared) (H:Hp) (vs:List V) (Q:VK) (E:XK),Room k (A.deeper (envOfC qual (defScope st) s.heap.objs.size f cdv))→sp vs H Q E→
   ∃ t,QSs ((cxOf (CXD P w) P w K mg base N qual (defScope st) f cdv A outer s H E).wish (XEF (cxOf (CXD P w) P w K mg base N qual (defScope st) f cdv A outer s H E) E)) (defBody st) t∧t { nx:=fun _ H'=>Q .non H',rt:=Q } (start N vs) H) :
  FnOk P w K mg base (CXD P w) (k + 1) f fd ps sp:=by
 obtain ⟨oc,od,kV,doc,pm,an,cdv,ct,osl,rfl,lk,hcd⟩:=F.ex
 refine fn_of lk hcd S len fun A outer s H vs Q E hr hsp=>?_
 obtain ⟨t,h,q⟩:=hbody cdv A outer s H vs Q E hr hsp
 refine ⟨t,fun pins s1 σ H1 D I hw=>?_,q⟩
 exact wpAny_mono (h.h pins s1 σ H1 D (I.wish _) hw) (fun _ _ z=>z.unwish) fun e s2 z=>xe_ofF z
end L2
namespace L2
open PySem PySem.Spec PyProof.Rows
def XTK (X:Cx) (σ:St) (E:XK):Value→Shared→Prop:=fun e s'=>∃ (a T:Addr) (C:Value) (dx:Option Addr) (H':Hp),e=.ref a∧Inv X [] σ H' s'∧FlyD X.s₀.heap H' a T C dx s'.heap∧(∀ p∈X.pn,p.1≠a∧p.1≠T)∧E C dx H'
def PassK (CX:CXT) (X:Cx) (σ:St) (E:XK):Prop:=∀ pins H s e s',Inv X pins σ H s→CX X.stack H s E e s'→X.xe e s'
theorem passTK {X:Cx} {σ:St} {E:XK} (hex:X.ex=[]):PassK (CXD X.prog X.w) (X.wish (XTK X σ E)) σ E:=fun pins H s e s' I q=>by
 obtain ⟨a,T,C,dx,H',rfl,os,bare,un,hok,fl,qE⟩:=q
 have I0:Inv X pins σ H s:=I.unwish
 refine ⟨a,T,C,dx,H',rfl,(I0.call' os un hok bare (fun b z=>absurd z (by simp))).nopins,⟨I0.new0 hex fl.na,fl.fa,I0.new0 hex fl.nT,fl.fT,fl.ob⟩,fun p hp=>?_,qE⟩
 have e:=(I0.pin p (List.mem_append_left _ hp)).1
 exact ⟨fun z=>(by rw [z,fl.na] at e; cases e),fun z=>(by rw [z,fl.nT] at e; cases e)⟩
section
variable {X:Cx} {CX:CXT} {k:Nat} {f C:Addr} {fd:FuncData} {ps:List Str} {sp:Sp} {E:XK} {x:Str} {p pos:Pos} {e:Expr} {es:List Expr} {t:TA} {σ0:St}
end
def EHK (K:PySem.W.Frag) (M:Addr) (i:Nat) (th:TS) (D:Ends) (σ:St):XK:=fun C dx H=>∃ c,C=.ref c∧PySem.W.mroIn K c (.ref M)=some true∧∀ a,H a=none→th (D.gone i) (σ.set i (some (.ref a))) (upd H a (XD a c dx))
def tTryK (K:PySem.W.Frag) (M:Addr) (i:Nat) (tb:XK→St→TS) (th:TS):TS:=fun D σ H=>tb (EHK K M i th D σ) σ D σ H
theorem ps_tryK {X:Cx} {body:List Stmt} {tb:XK→St→TS} {th:TS} {x n:Str} {M:Addr} {i:Nat} {b0:Stmt} {suite:List Stmt} {np hpos pos:Pos} (hex:X.ex=[]) (hst:X.stack=X.env::X.outer) (hfr:X.env.frame=some X.env.locals)
  (hb:∀ (pn:List (Addr×Obj)) (E:XK) (σ0:St),PSs ((X.pinned pn).wish (XTK (X.pinned pn) σ0 E)) body (tb E σ0)) (hg:Gl X x) (hm:X.mg x=some (.ref M)) (TM:PySem.W.ExcK X.K M) (hN:X.N.Nodup) (hi:X.N[i]?=some n) (hl:X.env.scope.names.lookup n=some .local)
  (hh:∀ a,PSs (X.inH a) (b0::suite) th) (hdb:(x == ("__debug__":Str))=false:=by decide) :
  PS X (.Try body [.ExceptHandler (some (.Name x np)) (some n) (b0::suite) hpos] [] [] pos) (tTryK X.K M i tb th):=by
 intro pins s σ H D I h
 have okX:=I.ok
 refine wpAny_Try_except (wpAny_mono (hb (X.pn++pins) (EHK X.K M i th D σ) σ [] s σ H D (I.toPn.wish _) h) (fun f s1 q=>?_) fun e s1 q=>?_)
 ·have back:∀ {σ':St} {H':Hp},Inv ((X.pinned (X.pn++pins)).wish (XTK (X.pinned (X.pn++pins)) σ (EHK X.K M i th D σ))) [] σ' H' s1→Inv X pins σ' H' s1:=fun J=>Inv.ofPn okX J.unwish
  cases f with
  | next=>
   obtain ⟨σ',H',J,z⟩:=q
   exact wpAny_execs_nil ⟨σ',H',back J,z⟩
  | brk=>
   obtain ⟨σ',H',J,z⟩:=q
   exact ⟨σ',H',back J,z⟩
  | cont=>
   obtain ⟨σ',H',J,z⟩:=q
   exact ⟨σ',H',back J,z⟩
  | ret u=>
   obtain ⟨v,σ',H',J,r,z⟩:=q
   exact ⟨v,σ',H',back J,r,z⟩
 ·obtain ⟨a,T,C,dx,H1,rfl,J0,fl,hpn,c,rfl,hmro,hth⟩:=q
  have J:Inv X pins σ H1 s1:=Inv.ofPn okX J0
  have hpn':∀ p∈X.pn++pins,p.1≠a∧p.1≠T:=hpn
  have hfrs:X.A.frames=some (X.env::X.outer):=by rw [okX.frames,hst]
  have ne1:∀ p∈X.pn++pins,p.1∉frs X.stack:=fun p hp z=>by
   obtain ⟨_,_,ne,nf,_⟩:=J.pin p hp
   exact (List.mem_cons.mp (J.stkSub p.1 z)).elim ne nf
  obtain ⟨oe,vs,a0,oT,tv,he,hc,hdx,hd,h0,h1,hTe,hT,hdT,h3⟩:=fl.ob
  have hts:∀ b∈[a,T],X.s₀.heap.get? b=none∧H1 b=none∧∀ p∈X.pn++pins,p.1≠b:=fun b hb=>by
   rcases List.mem_cons.mp hb with z | z
   ·subst z; exact ⟨fl.na,fl.fa,fun p hp=>(hpn' p hp).1⟩
   ·cases (List.mem_singleton.mp z); exact ⟨fl.nT,fl.fT,fun p hp=>(hpn' p hp).2⟩
  refine note_next (base:=PySem.W.hideAll s1.heap ([a,T]++frs X.stack)) hfrs (by rw [← hst]; exact fun_hide J [a,T]) hfr he (hide_stays _ _) (PySem.W.hideAll_none _ (List.mem_append_left _ (by simp))) hd h1 h0 hdx (PySem.W.hideAll_none _ (List.mem_append_left _ (by simp))) hTe hT hdT h3 fun h5 ⟨⟨k1,k2,k3,k4⟩,oe5,ge5,gd5⟩=>?_
  have fly5:Heap.FlyingW (PySem.W.hideAll s1.heap ([a,T]++frs X.stack)) (X.env::X.outer) a (.ref c) a0 h5:=⟨k1,PySem.W.hideAll_none _ (List.mem_append_left _ (by simp)),k2,by rw [← hc]; exact k3⟩
  have S5:Shift X [a,T] s1.heap h5:=⟨fly5.1,k4⟩
  have J5:Inv X pins σ H1 { s1 with heap:=h5 }:=S5.inv (tk:=s1.toks) J hts
  obtain ⟨o5,g5,c5⟩:=fly5.there
  refine wpAny_handleBy_cons (codeAny_handlers_test (ld_glob (X:=X.inH a) (J5.inH a) hg hm ?_ hdb)) (by intro z; cases z)
  refine PySem.W.exc_matches J5.kIn g5 c5 TM hmro (codeAny_handlers_suite_as ?_)
  refine land_again fly5 ge5 gd5 fun h6 fly6 up6 ge6=>?_
  have S6:Shift X [a,T] s1.heap h6:=⟨fly6.1,up_trans k4 up6⟩
  have J6:Inv X pins σ H1 { s1 with heap:=h6 }:=S6.inv (tk:=s1.toks) J hts
  obtain ⟨o6,v6,g6,c6,d6,_⟩:=fly6.first
  have nL:a≠X.env.locals:=fun z=>by
   obtain ⟨m,⟨oL,es,ep,eL,dL,_⟩,_⟩:=J6.loc
   rw [← z,g6] at eL; cases eL
   rw [d6] at dL; cases dL
  have nC:∀ x c,X.env.cells.lookup x=some c→c≠a:=fun x c' e z=>by
   obtain ⟨v,oc,ec,dc⟩:=J6.cell x c' e
   rw [z,g6] at ec; cases ec
   rw [d6] at dc; cases dc
  have J7:Inv X pins σ (upd H1 a (XD a c dx)) { s1 with heap:=h6 }:=(J6.track (o:=XD a c dx) fl.fa fl.na nL nC (fun p hp=>(hpn' p hp).1)
   (show ObjOk X.prog X.w (upd H1 a (XD a c dx)) h6 a (XD a c dx) from ⟨⟨o6,v6,g6,c6,by rw [ge6] at g6; cases g6; exact gd5,d6⟩,⟨o6,g6⟩,fun g1 g2 ⟨o,vs',z1,z2⟩ st=>⟨o,vs',st o z1,z2⟩⟩))
  refine store_ok (X:=X.inH a) (J7.inH a) hN hi (.inl hl) (v:=.ref a) rfl (fun s8 J8=>?_) (.inr hl)
  refine wpAny_mono (hh a pins s8 _ _ (D.gone i) J8 (hth a fl.fa)) (fun f s9 z=>?_) fun _ _ z=>z.elim
  have back:∀ {σ':St} {H':Hp},Inv (X.inH a) pins σ' H' s9→Inv X pins σ' H' s9:=fun J=>Inv.ofH okX J
  cases f with
  | next=>
   obtain ⟨σ',H',J9,z⟩:=z
   exact name_goneK (back J9) hN hi hl fun s' J'=>⟨_,H',J',z⟩
  | brk=>
   obtain ⟨σ',H',J9,z⟩:=z
   exact name_goneK (back J9) hN hi hl fun s' J'=>⟨_,H',J',z⟩
  | cont=>
   obtain ⟨σ',H',J9,z⟩:=z
   exact name_goneK (back J9) hN hi hl fun s' J'=>⟨_,H',J',z⟩
  | ret u=>
   obtain ⟨v,σ',H',J9,r,z⟩:=z
   exact name_goneK (back J9) hN hi hl fun s' J'=>⟨v,_,H',J',r,z⟩
theorem qs_tryK {X:Cx} {body:List Stmt} {tb:XK→St→TS} {th:TS} {x n:Str} {M:Addr} {i:Nat} {b0:Stmt} {suite:List Stmt} {np hpos pos:Pos} (hex:X.ex=[]) (hst:X.stack=X.env::X.outer) (hfr:X.env.frame=some X.env.locals)
  (hb:∀ (pn:List (Addr×Obj)) (E:XK) (σ0:St),QSs ((X.pinned pn).wish (XTK (X.pinned pn) σ0 E)) body (tb E σ0)) (hg:Gl X x) (hm:X.mg x=some (.ref M)) (TM:PySem.W.ExcK X.K M) (hN:X.N.Nodup) (hi:X.N[i]?=some n) (hl:X.env.scope.names.lookup n=some .local)
  (hh:∀ a,QSs (X.inH a) (b0::suite) th) (hdb:(x == ("__debug__":Str))=false:=by decide) :
  QS X (.Try body [.ExceptHandler (some (.Name x np)) (some n) (b0::suite) hpos] [] [] pos) (tTryK X.K M i tb th):=⟨ps_tryK hex hst hfr (fun pn E σ0=>(hb pn E σ0).h) hg hm TM hN hi hl (fun a=>(hh a).h) hdb⟩
end L2
namespace PySem
theorem noteFrame_congr {x:Value} {env env':Env} (h:env.frame=env'.frame):noteFrame x env=noteFrame x env':=by
 unfold noteFrame frameOf
 rw [h]
end PySem
namespace L2
open PySem PySem.Spec PyProof.Rows
section
variable {X:Cx} {pins:List (Addr×Obj)} {σ:St} {H H':Hp} {s s':Shared} {E:XK}
theorem Shift.unE {ts:List Addr} {h':Heap} (S:Shift X ts s.heap h') (I:Inv X pins σ H s) (hts:∀ b∈ts,X.s₀.heap.get? b=none∨b∈X.ex):Un X.fs X.ex X.H₀ H X.s₀.heap h':=by
 have nts:∀ b o,X.s₀.heap.get? b=some o→b∉X.ex→b∉ts:=fun b o e hx z=>by
  rcases hts b z with y | y
  ·rw [y] at e; cases e
  ·exact hx y
 have nL:∀ b o,X.s₀.heap.get? b=some o→b≠X.env.locals:=fun b o e=>Nat.ne_of_lt (Nat.lt_of_lt_of_le (Heap.lt_size e) I.ok.above)
 have nst:∀ b o,X.s₀.heap.get? b=some o→b∉X.fs→b∉frs X.stack:=fun b o e hb z=>(List.mem_cons.mp (I.stkSub b z)).elim (nL b o e) hb
 refine ⟨fun b o e n hb hx=>S.get (I.base.keep b o e n hb hx) (nts b o e hx) (nst b o e hb),fun b o e n hb hx=>?_,fun b o e n hx=>I.base.free b o e n hx,fun b o e hx=>?_,I.base.tups,I.base.frzs,I.base.tbls⟩
 ·obtain ⟨sl,e1⟩:=I.base.slot b o e n hb hx
  obtain ⟨_,o',e',nf⟩:=I.funs.mem hb
  rw [e1] at e'; cases e'
  obtain ⟨sl2,e2⟩:=S.up b _ e1 nf
  exact ⟨sl2,e2⟩
 ·obtain ⟨o',e1⟩:=I.base.there b o e hx
  by_cases z:b∈frs X.stack
  ·obtain ⟨sl,e2⟩:=S.frame I z e1
   exact ⟨_,e2⟩
  ·exact ⟨o',S.get e1 (nts b o e hx) z⟩
theorem Shift.invE {ts:List Addr} {h':Heap} {tk:Nat} (S:Shift X ts s.heap h') (I:Inv X pins σ H s) (hts:∀ b∈ts,(X.s₀.heap.get? b=none∨b∈X.ex)∧H b=none∧∀ p∈X.pn++pins,p.1≠b):Inv X pins σ H { s with heap:=h',toks:=tk }:=by
 have cellK:∀ c v,s.heap.IsCell c v→h'.IsCell c v:=fun c v ⟨o,ho,hd⟩=>by
  obtain ⟨sl,e⟩:=S.up c o ho (fun vs q=>by rw [hd] at q; cases q)
  exact ⟨_,e,hd⟩
 refine ⟨I.ok,I.os,I.bare,S.unE I fun b z=>(hts b z).1,?_,fun x c e=>?_,I.free,I.freeC,fun p hp=>?_,S.hok I fun b z=>(hts b z).2.1,I.len⟩
 ·obtain ⟨m,hn,hl⟩:=I.loc
  refine ⟨m,S.up.ns hn,fun i x v e1 e2 e3=>?_⟩
  obtain ⟨u,r,l⟩:=hl i x v e1 e2 e3
  refine ⟨u,r,?_⟩
  rcases l with l | ⟨k,c,e,z⟩
  ·exact .inl l
  ·exact .inr ⟨k,c,e,cellK c _ z⟩
 ·obtain ⟨v,z⟩:=I.cell x c e
  exact ⟨v,cellK c v z⟩
 ·obtain ⟨e,n,ne,nf,d⟩:=I.pin p hp
  exact ⟨S.get e (fun z=>(hts p.1 z).2.2 p hp rfl) fun z=>(List.mem_cons.mp (I.stkSub p.1 z)).elim ne nf,n,ne,nf,d⟩
def XCF (X:Cx) (E:XK) (Y:Cx):Value→Shared→Prop:=fun e s'=>∃ (a T:Addr) (C:Value) (dx:Option Addr) (H':Hp) (σ':St),e=.ref a∧Inv Y [] σ' H' s'∧FlyD X.s₀.heap H' a T C dx s'.heap∧(∀ b∈[a,T],Y.s₀.heap.get? b=none∨b∈Y.ex)∧E C dx H'
theorem passC {Y:Cx} (hex:X.ex=[]) (hpn:Y.pn=[]) (hP:Y.prog=X.prog) (hW:Y.w=X.w) (old:X.ex=[]→∀ b o,X.s₀.heap.get? b=some o→b∉Y.ex∧∃ o',Y.s₀.heap.get? b=some o'):Passes (CXD X.prog X.w) (Y.wish (XCF X E Y)) E:=fun pins σ H s e s' I q=>by
 obtain ⟨a,T,C,dx,H',rfl,os,bare,un,hok,fl,qE⟩:=q
 have I0:Inv Y pins σ H s:=I.unwish
 have nY:∀ b,s.heap.get? b=none→Y.s₀.heap.get? b=none∨b∈Y.ex:=fun b n=>by
  by_cases hb:b∈Y.ex
  ·exact .inr hb
  ·cases q:Y.s₀.heap.get? b with
   | none=>exact .inl rfl
   | some o=>
    obtain ⟨o',e'⟩:=I0.base.there b o q hb
    rw [n] at e'
    cases e'
 have nX:∀ b,s.heap.get? b=none→X.s₀.heap.get? b=none:=fun b n=>by
  cases q:X.s₀.heap.get? b with
  | none=>rfl
  | some o=>
   obtain ⟨nf,o',e'⟩:=old hex b o q
   obtain ⟨o2,e2⟩:=I0.base.there b o' e' nf
   rw [n] at e2
   cases e2
 rw [← hP,← hW] at hok
 refine ⟨a,T,C,dx,H',σ,rfl,(I0.call' os un hok bare (fun b z=>absurd z (by simp))).nopins,⟨nX a fl.na,fl.fa,nX T fl.nT,fl.fT,fl.ob⟩,fun b hb=>?_,qE⟩
 rcases List.mem_cons.mp hb with z | z
 ·subst z; exact nY _ fl.na
 ·cases (List.mem_singleton.mp z); exact nY _ fl.nT
end
theorem comp_bad {X:Cx} {E:XK} {pins:List (Addr×Obj)} {σ:St} {scope:Scope} {N:List Str} {use:Option (Value→Sem Unit)} {Post:Value→Shared→Prop} (hex:X.ex=[]) (hpn:X.pn=[]) (hst:X.stack=X.env::X.outer) (hfr:∃ L,X.env.frame=some L) (s2:Shared) (H2:Hp) (cl:List (Str×Addr)) (C:Addr) (fp:List Addr) (acc e:Value) (s':Shared)
  (key:∀ σ' H' s',Inv (cxC (X.wish (XEF X E)) s2 H2 scope cl C N fp) [] σ' H' s'→∀ h',Heap.SameBut C s'.heap h'→Inv (X.wish (XEF X E)) pins σ H' { s' with heap:=h' })
  (old:(X.wish (XEF X E)).ex=[]→∀ b o,(X.wish (XEF X E)).s₀.heap.get? b=some o→b∉fp∧∃ o',s2.heap.get? b=some o') (h:XCF X E (cxC (X.wish (XEF X E)) s2 H2 scope cl C N fp) e s') :
  notedBy (model X.prog X.w) X.A (compEnvC scope cl C X.env) (fun x s''=>compPost (model X.prog X.w) X.A (XEF X E) use Post acc C (.error x) s'') e s':=by
 obtain ⟨a,T,Cc,dx,H',σ',rfl,J,fl,hY,q⟩:=h
 obtain ⟨L,hf⟩:=hfr
 unfold notedBy
 rw [noteFrame_congr (env:=compEnvC scope cl C X.env) (env':=X.env) rfl]
 obtain ⟨oe,vs,a0,oT,tv,he,hc,hdx,hd,h0,h1,hTe,hT,hdT,h3⟩:=fl.ob
 have hfrs:X.A.frames=some (X.env::X.outer):=by
  rw [← hst]
  exact J.ok.frames
 have hfh:s'.heap.FunFrames (PySem.W.hideAll s'.heap ([a,T]++frs X.stack)) (X.env::X.outer):=by
  rw [← hst]
  exact fun_hide J [a,T]
 refine note_own (base:=PySem.W.hideAll s'.heap ([a,T]++frs X.stack)) hfrs hfh hf he (hide_stays _ _) (PySem.W.hideAll_none _ (List.mem_append_left _ (by simp))) hd h0 hdx (.next h1 (PySem.W.hideAll_none _ (List.mem_append_left _ (by simp))) hTe hT hdT h3 (by unfold rawInt; intro z; cases z)) fun h5 N5=>?_
 have S5:Shift (cxC (X.wish (XEF X E)) s2 H2 scope cl C N fp) [a,T] s'.heap h5:=⟨N5.1.1,N5.1.2.2.2⟩
 have htsY:∀ b∈[a,T],((cxC (X.wish (XEF X E)) s2 H2 scope cl C N fp).s₀.heap.get? b=none∨b∈(cxC (X.wish (XEF X E)) s2 H2 scope cl C N fp).ex)∧H' b=none∧∀ p∈(cxC (X.wish (XEF X E)) s2 H2 scope cl C N fp).pn++[],p.1≠b:=fun b hb=>by
  refine ⟨hY b hb,?_,fun p hp=>by cases hp⟩
  rcases List.mem_cons.mp hb with z | z
  ·subst z; exact fl.fa
  ·cases (List.mem_singleton.mp z); exact fl.fT
 have J5:Inv (cxC (X.wish (XEF X E)) s2 H2 scope cl C N fp) [] σ' H' { s' with heap:=h5 }:=S5.invE (tk:=s'.toks) J htsY
 obtain ⟨⟨k1,k2,⟨oe5,vs5,T5,oT5,ts5,he5,⟨hc5,h05⟩,hd5,h15,hnT5,hTe5,hT5,hdT5,h35⟩,k4⟩,oe6,he6,hdx6⟩:=N5
 rw [he5] at he6
 cases he6
 have newT:X.s₀.heap.get? T5=none∧H' T5=none:=by
  by_cases z:T5∈[a,T]
  ·rcases List.mem_cons.mp z with z | z
   ·subst z; exact ⟨fl.na,fl.fa⟩
   ·cases (List.mem_singleton.mp z); exact ⟨fl.nT,fl.fT⟩
  ·have nf:T5∉frs X.stack:=fun y=>by
    have y':T5∈List.filterMap (fun x=>x.frame) (X.env::X.outer):=by rw [← hst]; exact y
    obtain ⟨_,o,ho,nf⟩:=k2.mem y'
    rw [hT5] at ho; cases ho
    exact nf _ hdT5
   have nn:s'.heap.get? T5=none:=by
    cases y:s'.heap.get? T5 with
    | none=>rfl
    | some o=>
     rw [PySem.W.hideAll_get _ y fun y'=>(List.mem_append.mp y').elim z nf] at hnT5
     cases hnT5
   refine ⟨?_,J.newH nn⟩
   cases y:X.s₀.heap.get? T5 with
   | none=>rfl
   | some o=>
    obtain ⟨nfp,o',e'⟩:=old hex T5 o y
    obtain ⟨o2,e2⟩:=J.base.there T5 o' e' nfp
    rw [nn] at e2
    cases e2
 obtain ⟨m,hn,_⟩:=J5.loc
 refine ⟨m,hn,fun h' hsb cenv _=>?_⟩
 have K:=key _ _ _ J5 h' hsb
 have K0:Inv X [] σ H' { s' with heap:=h' }:=K.unwish.nopins
 obtain ⟨oC,es,ep,eC,dC,_⟩:=hn
 have naC:a≠C:=fun z=>by
  have:h5.get? a=some oC:=by rw [z]; exact eC
  rw [he5] at this
  cases this
  rw [hd5] at dC
  cases dC
 have nTC:T5≠C:=fun z=>by
  have:h5.get? T5=some oC:=by rw [z]; exact eC
  rw [hT5] at this
  cases this
  rw [hdT5] at dC
  cases dC
 have he':h'.get? a=some oe5:=(hsb.2 a naC).trans he5
 have hT':h'.get? T5=some oT5:=(hsb.2 T5 nTC).trans hT5
 have N':NotedD (PySem.W.hideAll h' ([a,T5]++frs X.stack)) (X.env::X.outer) a Cc a0 (rawInt L) dx h' h':=by
  refine ⟨⟨hide_stays _ _,?_,⟨oe5,vs5,T5,oT5,ts5,he',⟨hc5.trans hc,h05⟩,hd5,h15,PySem.W.hideAll_none _ (List.mem_append_left _ (by simp)),hTe5,hT',hdT5,h35⟩,fun b o ho _=>⟨o.slots,ho⟩⟩,oe5,he',hdx6⟩
  rw [← hst]
  exact fun_hide (s:={ s' with heap:=h' }) K0 [a,T5]
 unfold PySem.passOn
 refine wpAny_bind (wpAny_field (s:={ s' with heap:=h' }) he' hd5 h15 ?_)
 rw [if_neg (by intro z; cases z)]
 refine wpAny_bind (flight_own (s:={ s' with heap:=h' }) N' fun h6 N6=>?_)
 refine wpAny_throw ?_
 have S6:Shift X [a,T5] h' h6:=⟨N6.1.1,N6.1.2.2.2⟩
 have htsX:∀ b∈[a,T5],X.s₀.heap.get? b=none∧H' b=none∧∀ p∈X.pn++[],p.1≠b:=fun b hb=>by
  refine ⟨?_,?_,fun p hp=>by rw [hpn] at hp; cases hp⟩
  ·rcases List.mem_cons.mp hb with z | z
   ·subst z; exact fl.na
   ·cases (List.mem_singleton.mp z); exact newT.1
  ·rcases List.mem_cons.mp hb with z | z
   ·subst z; exact fl.fa
   ·cases (List.mem_singleton.mp z); exact newT.2
 have J6:Inv X [] σ H' { s' with heap:=h6 }:=S6.inv (s:={ s' with heap:=h' }) (tk:=s'.toks) K0 htsX
 have hts2:∀ b∈[a,T5],X.s₀.heap.get? b=none∧H' b=none:=fun b hb=>⟨(htsX b hb).1,(htsX b hb).2.1⟩
 rw [← hst] at N6
 obtain ⟨T6,nT,fT,oe7,vs7,oT7,tv7,g1,g2,g3,g4,g5,g6,g7,g8,g9,g10⟩:=noted_fly (s:={ s' with heap:=h' }) K0 hex hts2 (by simp) N6
 exact ⟨a,Cc,dx,H',σ,rfl,J6,.inr (.inr ⟨T6,_,fl.na,fl.fa,nT,fT,oe7,vs7,a0,oT7,tv7,g1,g2,g3,g4,g5,g6,g7,g8,g9,g10⟩),q⟩
section
variable {X:Cx} {E:XK} {elt tg iter:Expr} {ifs:List Expr} {scope:Scope} {pos spos pos':Pos} {x:Str} {i:Nat} {N:List Str} {src:List (Option Nat)} {wi:TI} {g:TG} {tc:TT} {te:TE}
theorem qs_setCompX (hex:X.ex=[]) (hpn:X.pn=[]) (hst:X.stack=X.env::X.outer) (hfr:∃ L,X.env.frame=some L) (hc:X.calm=true) (S:CompScope (X.wish (XEF X E)) scope N src) (hi:QI (X.wish (XEF X E)) tg iter wi)
  (hg:∀ s H cl C fp,QG (cxC (X.wish (XEF X E)) s H scope cl C N fp) tg g) (hf:∀ s H cl C fp,QIf (cxC (X.wish (XEF X E)) s H scope cl C N fp) ifs tc)
  (he:∀ s H cl C fp,Passes (CXD X.prog X.w) ((cxC (X.wish (XEF X E)) s H scope cl C N fp).wish (XCF X E (cxC (X.wish (XEF X E)) s H scope cl C N fp))) E→QE ((cxC (X.wish (XEF X E)) s H scope cl C N fp).wish (XCF X E (cxC (X.wish (XEF X E)) s H scope cl C N fp))) elt te)
  (ht:QG (X.wish (XEF X E)) (.Name x pos') (gName i))
  (hsw:swapsWith (.ListComp elt [⟨tg,iter,ifs,0⟩] scope pos) (some (.Name x pos')) spos.line X.env=pure true:=by rfl)
  (hs:∀ x,foldedSetIterable iter X.env x=pure x:=by intro _; rfl):QS (X.wish (XEF X E)) (.Assign [.Name x pos'] (.ListComp elt [⟨tg,iter,ifs,0⟩] scope pos) spos) (tAsg (tComp src wi g tc te) (gName i)):=by
 refine ⟨fun pins s σ H D I h=>?_⟩
 rw [exec_Assign_Name_used _ _ _ _ hsw]
 refine wpAny_bind (wpAny_standAt (wpAny_bind ?_))
 rw [arm_evalThenUse_ListComp]
 refine wpAny_bind ?_
 refine comp_coreX (use:=some (assign (.Name x pos') X.env)) hc S hi.h (fun s H cl C fp=>(hg s H cl C fp).h) (fun s H cl C fp=>(hf s H cl C fp).h) (fun Y=>XCF X E Y) (fun s H cl C fp old=>(he s H cl C fp (passC hex rfl rfl rfl old)).h) hs I h (fun C a H1 s' key fp ⟨m,o,es,ep,ho,hd,hk⟩ q=>?_)
  fun s2 H2 cl C fp acc e s' key old z=>comp_bad (use:=some (assign (.Name x pos') X.env)) hex hpn hst hfr s2 H2 cl C fp acc e s' key old z
 have I1:Inv (X.wish (XEF X E)) pins σ H1 s':=key s'.heap (Heap.SameBut.refl _ _)
 have I2:=I1.pinned (fp:=[C]) (fun b hb=>by rw [List.mem_singleton.mp hb]; exact fp) (fun b hb=>by rw [List.mem_singleton.mp hb]; exact ⟨o,ho,fun v z=>by rw [hd] at z; cases z⟩)
 refine thn (ht.h _ s' σ H1 (.ref a) (.ref a) _ I2 rfl q) fun _ s5 ⟨σ5,H5,I5,q5⟩=>?_
 have pC:=I5.pin (C,o) (List.mem_append_right _ (List.mem_append_right _ (mem_pinsAt (List.mem_singleton.mpr rfl) ho)))
 obtain ⟨f0,f1,f2,f3,f4,f5⟩:=fp
 refine ⟨m,⟨o,es,ep,pC.1,hd,hk⟩,fun h' sb=>?_⟩
 exact wpAny_pure (wpAny_pure ⟨σ5,H5,I5.unpinned.turned (it:=C) (t':=s5.toks) (fun b o' hb e=>(sb.2 b hb).trans e) pC.2.1 f1 f3 f4 f5,q5⟩)
end
def tRaiseF (C:Addr) (E:XK) (t:TA):TS:=fun _ σ H=>t σ H fun vs H1=>vs.length≤sizeLine∧∀ dx,E (.ref C) dx H1
theorem ps_raiseF {X:Cx} {E:XK} {x:Str} {C:Addr} {np cpos pos:Pos} {e:Expr} {es:List Expr} {t:TA} (hx:PySem.W.excIn X.K C bmVE newVE=true) (hg:Gl X x) (hm:X.mg x=some (.ref C)) (hc:X.calm=true) (hex:X.ex=[])
  (ha:PA (X.wish (XEF X E)) (e::es) t) (hdb:(x == ("__debug__":Str))=false:=by decide) (he:starEach (e::es) X.env=(false,eval e X.env)::starEach es X.env:=by rfl) (hpl:(backTo cpos (starEach es X.env)).any (·.1)=false:=by rfl) :
  PS (X.wish (XEF X E)) (.Raise (some (.Call (.Name x np) (e::es) [] cpos)) none pos) (tRaiseF C E t):=by
 intro pins s σ H D I h
 have FB:=PySem.F.excBase_ValueError
 obtain ⟨tl,N,nm,q,bs,hdct,sn,sub,ab,col,dd,k0,k1,k2,k3,k5,mN,hC,hN,hni,T⟩:=exc_cls_of I.mod.kin hx
 have he':starEach (e::es) (X.wish (XEF X E)).env=(false,eval e (X.wish (XEF X E)).env)::starEach es (X.wish (XEF X E)).env:=he
 refine wpAny_Raise_call_subT (C:=C) (nm:=nm) (q:=q) (N:=N) (bs:=bs) (bm:=tl) (hdct:=hdct) (sn:=sn) (sub:=sub) (ab:=ab) (col:=col) (dd:=dd) (k0:=k0) (k1:=k1) (k2:=k2) (k3:=k3) (k5:=k5)
  FB (mN:=mN) (T.hasType FB.hasBase) (I.ok.hd hc) (by rw [he']; show (false || (backTo cpos (starEach es X.env)).any (·.1))=false; rw [hpl]; rfl) hni (ld_glob I hg hm ⟨rfl,?_⟩ hdb)
 have hA:=ha cpos pins s σ H _ I h
 rw [he'] at hA ⊢
 refine Calls.evalArgs_plain (wpAny_mono hA (fun us s2 h2=>?_) fun _ _ y=>y)
 obtain ⟨vs,H1,I1,r,hz,qE⟩:=h2
 refine ⟨rfl,by show us.length≤sizeLine; rw [← r.length]; exact hz,I1.bk _ _ hC,hN.keeps I1.bk,T.keeps I1.bk,fun h' a hm'=>?_⟩
 obtain ⟨t0,hta,_,_⟩:=hm'.there
 have I0:Inv X pins σ H1 s2:=I1.unwish
 exact ⟨a,.ref C,_,H1,σ,rfl,(I0.kept (t':=s2.toks) hm'.keeps).nopins,.inl ⟨I0.new0 hex hm'.new,I0.newH hm'.new,_,_,.ref t0,hta,rfl,rfl,rfl,rfl,rfl⟩,qE _⟩
theorem qs_raiseF {X:Cx} {E:XK} {x:Str} {C:Addr} {np cpos pos:Pos} {e:Expr} {es:List Expr} {t:TA} (hx:PySem.W.excIn X.K C bmVE newVE=true) (hg:Gl X x) (hm:X.mg x=some (.ref C)) (hc:X.calm=true) (hex:X.ex=[])
  (ha:QA (X.wish (XEF X E)) (e::es) t) (hdb:(x == ("__debug__":Str))=false:=by decide) (he:starEach (e::es) X.env=(false,eval e X.env)::starEach es X.env:=by rfl) (hpl:(backTo cpos (starEach es X.env)).any (·.1)=false:=by rfl) :
  QS (X.wish (XEF X E)) (.Raise (some (.Call (.Name x np) (e::es) [] cpos)) none pos) (tRaiseF C E t):=⟨ps_raiseF hx hg hm hc hex ha.h hdb he hpl⟩
theorem passF {X:Cx} {E:XK} (hex:X.ex=[]):Passes (CXD X.prog X.w) (X.wish (XEF X E)) E:=fun pins σ H s e s' I q=>xef_of (passED hex pins σ H s e s' (I.unwish.wish _) q)
section
variable {X:Cx} {CX:CXT} {k:Nat} {ps:List Str} {sp:Sp} {E:XK} {x:Str} {p pos:Pos} {e:Expr} {es:List Expr} {t:TA} {σ0:St}
def tCallR0 (σ0:St) (sp:Sp) (E:XK) (t:TA):TE:=fun σ H Q=>σ=σ0∧tCall sp [] E t σ H Q
theorem qe_callR0 (h:Pm X.prog X.w X.K X.mg X.base CX k x ps sp) (hr:Room k X.A) (hg:Gl X x) (hx:PassK CX X σ0 E) (ha:QA X (e::es) t) (hdb:(x == ("__debug__":Str))=false:=by decide)
  (he:starEach (e::es) X.env=(false,eval e X.env)::starEach es X.env:=by rfl) (hpl:(backTo pos (starEach es X.env)).any (·.1)=false:=by rfl):QE X (.Call (.Name x p) (e::es) [] pos) (tCallR0 σ0 sp E t):=by
 obtain ⟨f,fd,hm,hk,hb,F⟩:=h
 refine ⟨fun pins s σ H Q I h=>?_⟩
 obtain ⟨rfl,h⟩:=h
 refine wpAny_Call_Name_kw (ld_glob I hg hm ?_ hdb)
 refine PySem.W.callWith_K (h₀:=X.base) I.ok.mod.kin hk (thn (ha.h pos pins s σ H _ I h) fun us s1 ⟨vs,H1,I1,r,q⟩=>⟨I1.kIn,?_⟩) he hpl
 have r2:Vals (vs++[]) (us++[]):=r.append .nil
 have hl:(us++[]).length=ps.length:=by rw [← r2.length]; exact F.len _ _ _ _ q
 refine wpAny_call (codeAny_mono (F.run X.A X.stack s1 H1 ⟨us,[]⟩ (us++[]) (vs++[]) Q E hr I1.env0 (hb s1 us I1.kIn hl) r2 q) fun r s' hq=>?_)
 cases r with
 | error e=>exact hx pins H1 s1 e s' I1 hq
 | ok fl=>
  cases fl with
  | ret u=>exact I1.after hq
  | next=>exact False.elim hq
  | brk=>exact False.elim hq
  | cont=>exact False.elim hq
end
def rIsDP (K:PySem.W.Frag):List V→Hp→VK→Prop:=fun xs H Q=>∃ a C dx c b,xs=[.ref a,c]∧H a=some (XD a C dx)∧PySem.W.ExcK K C∧(∀ u,RelV c u→PySem.W.kitOne K (.ref C) u=some b)∧Q (.bl b) H
theorem call_isinstDP {X:Cx} (G:PySem.W.ClsK X.K):CallR X (.builtin "isinstance") (rIsDP X.K):=by
 intro pins s σ H xs us Q I r h
 obtain ⟨a,C,dx,c,b,rfl,e,T,k,q⟩:=h
 obtain ⟨u,w',rfl,r1,r2⟩:=vals2 r
 cases (show u=Value.ref a from r1)
 obtain ⟨o,_,z1,z2,_⟩:=XD.at I.hok e
 exact PySem.W.kia_one (PySem.W.kitx_exc T G) I.kIn ⟨o,z1,z2⟩ (k _ r2) (fun z=>nomatch z) fun tk=>⟨.bl b,H,I.tok tk,rfl,q⟩
end L2
namespace PySem
def IsZ (h:Heap) (z TI TO N:Addr):Prop:=(IsZip h z TI TO .none∧∃ a b,IsPair h TO a b)∨∃ (T:Addr) (f:Bool) (o:Obj),h.get? z=some { cls:=.type "zip",dict:=none,data:=.fields #[rawInt T,.bool f,.bool false,.ref TI,.ref TO],slots:=#[] }∧h.get? T=some o∧N≤T
structure Zpd (h:Heap) (N:Nat) (xs ys:Array Value) (ts:List Addr):Prop where
 pr:∀ (j:Nat) (t:Addr),ts[j]?=some t→∃ x y,xs[j]?=some x∧ys[j]?=some y∧IsPair h t x y
 up:ts.Pairwise (· < ·)
 lo:∀ t∈ts,N≤t
section
variable {prog:Program} {w:World} {A:Around} {E:Value→Shared→Prop} {s:Shared}
theorem zip_held {z TI TO T:Addr} {f:Bool} {o:Obj} {Q:Bool→Shared→Prop} (hz:s.heap.get? z=some { cls:=.type "zip",dict:=none,data:=.fields #[rawInt T,.bool f,.bool false,.ref TI,.ref TO],slots:=#[] }) (hT:s.heap.get? T=some o)
  (h:∀ h',h'.get? z=some { cls:=.type "zip",dict:=none,data:=.fields #[rawInt T,.bool true,.bool false,.ref TI,.ref TO],slots:=#[] }→Heap.SameBut z s.heap h'→Q false { s with heap:=h' }):wpAny (model prog w) A (Builtin.SmallTypes.ownedTupleIsFree (.ref z)) Q E s:=by
 unfold Builtin.SmallTypes.ownedTupleIsFree
 refine wpAny_bind (wpAny_field hz rfl (x:=rawInt T) rfl ?_)
 show wpAny _ _ (loadIfAlive ((T:Int).toNat) >>= _) _ _ _
 rw [Int.toNat_natCast]
 refine wpAny_bind (PySem.W.kdx_alive hT ?_)
 simp only [Option.isNone_some,Bool.false_eq_true,if_false]
 refine wpAny_bind (wpAny_field hz rfl (x:=.bool f) rfl ?_)
 cases f with
 | true=>
  rw [if_neg (show ¬ ((Value.bool true != Value.bool true)=true) from Bool.false_ne_true)]
  exact wpAny_pure (h s.heap hz (Heap.SameBut.refl _ _))
 | false=>
  rw [if_pos (show (Value.bool false != Value.bool true)=true from rfl)]
  exact wpAny_bind (wpAny_setField_rec hz (by simp) fun h₃ he₃ hs₃=>wpAny_pure (h h₃ he₃ hs₃))
theorem zip_item_held {z TI TO i1 i2 l1 l2 T:Addr} {f:Bool} {o:Obj} {k1 k2:Nat} {xs ys:Array Value} {x y:Value} {Q:Option Value→Shared→Prop} (D:ZipApart z TI TO i1 i2 l1 l2)
  (hz:s.heap.get? z=some { cls:=.type "zip",dict:=none,data:=.fields #[rawInt T,.bool f,.bool false,.ref TI,.ref TO],slots:=#[] }) (hT:s.heap.get? T=some o) (hTI:IsPair s.heap TI (.ref i1) (.ref i2))
  (h1:s.heap.IsListIter i1 l1 k1) (h2:s.heap.IsListIter i2 l2 k2) (hl1:s.heap.IsList l1 xs) (hl2:s.heap.IsList l2 ys) (hx:xs[k1]?=some x) (hy:ys[k2]?=some y)
  (hQ:∀ h',h'.get? z=some { cls:=.type "zip",dict:=none,data:=.fields #[rawInt T,.bool true,.bool false,.ref TI,.ref TO],slots:=#[] }→h'.IsListIter i1 l1 (k1 + 1)→h'.IsListIter i2 l2 (k2 + 1)→IsPair h' s.heap.objs.size x y→h'.objs.size=s.heap.objs.size + 1→
   (∀ c o,c≠z→c≠i1→c≠i2→s.heap.get? c=some o→h'.get? c=some o)→Q (some (.ref s.heap.objs.size)) { s with heap:=h' }) :
  wpAny (model prog w) A (pyNext (.ref z)) Q E s:=by
 have hTy:s.TypeIs (.ref z) "zip":=⟨_,hz,rfl⟩
 unfold pyNext
 refine wpAny_bind (wpAny_attempt (wpAny_callSpecial?_slot (name:=Str.ofString "__next__") hTy F.slot_zip_next (wpAny_call_entry F.slot_zip_next hTy F.entry_zip_next ?_ (F.args_zip_next_1 _))))
 show wpAny _ _ (field (.ref z) 2 >>= _) _ _ _
 refine wpAny_bind (wpAny_field hz rfl (x:=.bool false) rfl ?_)
 show wpAny _ _ (field (.ref z) 3 >>= _) _ _ _
 refine wpAny_bind (wpAny_field hz rfl (x:=.ref TI) rfl ?_)
 refine wpAny_bind (wpAny_seqItems hTI rfl ?_)
 show wpAny _ _ (Builtin.SmallTypes.ownedTupleIsFree (.ref z) >>= _) _ _ _
 refine wpAny_bind (zip_held hz hT fun h₁ hz₁ hs₁=>?_)
 simp only [Bool.false_eq_true,if_false]
 rw [show (#[Value.ref i1,Value.ref i2]:Array Value)=[Value.ref i1,Value.ref i2].toArray from rfl,List.forIn_toArray]
 simp only [List.forIn_cons,List.forIn_nil]
 have h1':=h1.extBut hs₁.extBut D.i1z
 have hl1':=hl1.extBut hs₁.extBut D.l1z
 refine wpAny_bind (wpAny_bind (wpAny_bind (wpAny_holding ?_)))
 show wpAny _ _ (Builtin.SmallTypes.nextOf (.ref i1) >>= _) _ _ _
 refine wpAny_bind (wpAny_nextOf_list_item h1' hl1' hx fun h₂ h1₂ hs₂=>wpAny_pure ?_)
 refine wpAny_pure (wpAny_bind (wpAny_bind (wpAny_holding ?_)))
 show wpAny _ _ (Builtin.SmallTypes.nextOf (.ref i2) >>= _) _ _ _
 have h2':=(h2.extBut hs₁.extBut D.i2z).extBut hs₂.extBut D.i12.symm
 have hl2':=(hl2.extBut hs₁.extBut D.l2z).extBut hs₂.extBut D.l2i1
 refine wpAny_bind (wpAny_nextOf_list_item h2' hl2' hy fun h₃ h2₃ hs₃=>wpAny_pure ?_)
 refine wpAny_pure (wpAny_pure ?_)
 refine wpAny_bind (wpAny_newTuple ?_ (by show 2≤sizeLine; decide))
 refine wpAny_pure ⟨_,rfl,wpAny_pure ?_⟩
 have hsz:h₃.objs.size=s.heap.objs.size:=by rw [hs₃.1,hs₂.1,hs₁.1]
 show Q (some (.ref h₃.objs.size)) _
 rw [hsz]
 have up:∀ c o,h₃.get? c=some o→(h₃.push { cls:=.type "tuple",data:=.seq (#[x,y]:Array Value) }).get? c=some o:=fun c o e=>Heap.get?_push_of_some _ e
 refine hQ _ (up _ _ (hs₃.extBut _ _ D.i2z.symm (hs₂.extBut _ _ D.i1z.symm hz₁))) ((h1₂.extBut hs₃.extBut D.i12).at fun o e=>up _ o e) (h2₃.at fun o e=>up _ o e) (by rw [← hsz]; exact Heap.get?_push_size _ rfl) (by show (h₃.push _).objs.size=_; rw [Heap.size_push,hsz]) fun c o c1 c2 c3 e=>up c o (hs₃.extBut _ _ c3 (hs₂.extBut _ _ c2 (hs₁.extBut _ _ c1 e)))
theorem zip_end_held {z TI TO i1 i2 l1 l2 T:Addr} {f:Bool} {o:Obj} {k1:Nat} {xs:Array Value} {Q:Option Value→Shared→Prop} (hh:A.handled=none) (D:ZipApart z TI TO i1 i2 l1 l2)
  (hz:s.heap.get? z=some { cls:=.type "zip",dict:=none,data:=.fields #[rawInt T,.bool f,.bool false,.ref TI,.ref TO],slots:=#[] }) (hT:s.heap.get? T=some o) (hTI:IsPair s.heap TI (.ref i1) (.ref i2))
  (h1:s.heap.IsListIter i1 l1 k1) (hl1:s.heap.IsList l1 xs) (hx:xs[k1]?=none)
  (hQ:∀ h',(∀ c o,c≠z→c≠i1→s.heap.get? c=some o→h'.get? c=some o)→Q none { s with heap:=h' }) :
  wpAny (model prog w) A (pyNext (.ref z)) Q E s:=by
 have hTy:s.TypeIs (.ref z) "zip":=⟨_,hz,rfl⟩
 unfold pyNext
 refine wpAny_bind (wpAny_attempt (wpAny_callSpecial?_slot (name:=Str.ofString "__next__") hTy F.slot_zip_next (wpAny_call_entry F.slot_zip_next hTy F.entry_zip_next ?_ (F.args_zip_next_1 _))))
 show wpAny _ _ (field (.ref z) 2 >>= _) _ _ _
 refine wpAny_bind (wpAny_field hz rfl (x:=.bool false) rfl ?_)
 show wpAny _ _ (field (.ref z) 3 >>= _) _ _ _
 refine wpAny_bind (wpAny_field hz rfl (x:=.ref TI) rfl ?_)
 refine wpAny_bind (wpAny_seqItems hTI rfl ?_)
 show wpAny _ _ (Builtin.SmallTypes.ownedTupleIsFree (.ref z) >>= _) _ _ _
 refine wpAny_bind (zip_held hz hT fun h₁ hz₁ hs₁=>?_)
 simp only [Bool.false_eq_true,if_false]
 rw [show (#[Value.ref i1,Value.ref i2]:Array Value)=[Value.ref i1,Value.ref i2].toArray from rfl,List.forIn_toArray]
 simp only [List.forIn_cons,List.forIn_nil]
 have h1':=h1.extBut hs₁.extBut D.i1z
 have hl1':=hl1.extBut hs₁.extBut D.l1z
 refine wpAny_bind (wpAny_bind (wpAny_bind (wpAny_holding ?_)))
 show wpAny _ _ (Builtin.SmallTypes.nextOf (.ref i1) >>= _) _ _ _
 refine wpAny_bind (wpAny_nextOf_list_end hh h1' hl1' hx fun h₂ e hs₂ he=>?_)
 obtain ⟨oe,hoe,hce⟩:=he
 refine wpAny_bind (wpAny_isInstance (T:="StopIteration") (b:=true) ⟨oe,hoe,hce⟩ (by rw [isSubtype_type]; kernel_rfl) ?_)
 rw [if_pos rfl]
 exact wpAny_pure (hQ h₂ fun c o c1 c2 x=>hs₂ _ _ c2 (hs₁.extBut _ _ c1 x))
theorem Zpd.keep {h h':Heap} {N:Nat} {xs ys:Array Value} {ts:List Addr} (Z:Zpd h N xs ys ts) (k:∀ t∈ts,∀ o,h.get? t=some o→h'.get? t=some o):Zpd h' N xs ys ts:=⟨fun j t e=>by
 obtain ⟨x,y,h1,h2,h3⟩:=Z.pr j t e
 exact ⟨x,y,h1,h2,k t (List.mem_of_getElem? e) _ h3⟩,Z.up,Z.lo⟩
theorem Zpd.lt {h:Heap} {N:Nat} {xs ys:Array Value} {ts:List Addr} (Z:Zpd h N xs ys ts) {t:Addr} (ht:t∈ts):t < h.objs.size:=by
 obtain ⟨j,hj,e⟩:=List.getElem_of_mem ht
 obtain ⟨x,y,_,_,h3⟩:=Z.pr j t (by rw [List.getElem?_eq_getElem hj,e])
 exact Heap.lt_size h3
theorem Zpd.snoc {h:Heap} {N:Nat} {xs ys:Array Value} {ts:List Addr} {T:Addr} {x y:Value} (Z:Zpd h N xs ys ts) (hx:xs[ts.length]?=some x) (hy:ys[ts.length]?=some y) (hT:IsPair h T x y) (hlt:∀ t∈ts,t < T) (hN:N≤T):Zpd h N xs ys (ts++[T]):=by
 refine ⟨fun j t e=>?_,?_,fun t ht=>?_⟩
 ·by_cases hj:j < ts.length
  ·rw [List.getElem?_append_left hj] at e
   exact Z.pr j t e
  ·have hjl:j=ts.length:=by
    have:=(List.getElem?_eq_some_iff.mp e).1
    rw [List.length_append,List.length_singleton] at this
    omega
   subst hjl
   rw [List.getElem?_append_right (Nat.le_refl _),Nat.sub_self] at e
   cases e
   exact ⟨x,y,hx,hy,hT⟩
 ·rw [List.pairwise_append]
  exact ⟨Z.up,List.pairwise_singleton ..,fun a ha b hb=>by rw [List.mem_singleton.mp hb]; exact hlt a ha⟩
 ·rcases List.mem_append.mp ht with h | h
  ·exact Z.lo t h
  ·rw [List.mem_singleton.mp h]; exact hN
theorem zl_loop {R:Result→Shared→Prop} {z TI TO i1 i2 l1 l2 S:Addr} {N:Nat} {xs ys:Array Value} (hh:A.handled=none) (D:ZipApart z TI TO i1 i2 l1 l2) (hlen:xs.size=ys.size) (hsz:xs.size≤1000) (res:Value) (hS:∀ b∈[z,TI,TO,i1,i2,l1,l2],b≠S) (hN:∀ b∈[S,z,TI,TO,i1,i2,l1,l2],b < N) :
  ∀ (k i:Nat) (s:Shared) (ts:List Addr) (c:Nat),xs.size - i=k→i≤xs.size→IsZ s.heap z TI TO N→IsPair s.heap TI (.ref i1) (.ref i2)→s.heap.IsListIter i1 l1 i→s.heap.IsListIter i2 l2 i→s.heap.IsList l1 xs→s.heap.IsList l2 ys→
   s.heap.get? S=some { cls:=.type "list",dict:=none,data:=.seq (ts.map Value.ref).toArray c,slots:=#[] }→ts.length=i→Zpd s.heap N xs ys ts→N≤s.heap.objs.size→
   (∀ h' ts' c',(∀ b o,b∉[S,z,TO,i1,i2]→s.heap.get? b=some o→h'.get? b=some o)→h'.get? S=some { cls:=.type "list",dict:=none,data:=.seq (ts'.map Value.ref).toArray c',slots:=#[] }→ts'.length=xs.size→Zpd h' N xs ys ts'→R (.ok (.ret res)) { s with heap:=h' })→
   codeAny (model prog w) A (.builtin "list.extend.loop" ⟨[.ref S,.ref z,res],[]⟩) R s:=by
 intro k
 induction k with
 | zero=>
  intro i s ts c hk hi hz hTI h1 h2 hl1 hl2 hSl hts Z hNs hR
  have hin:i=xs.size:=by omega
  refine codeAny_builtin F.entry_extend_loop ?_
  rw [Around.under_plainId F.plain_extend_loop _]
  show wpAny _ A.in1 (pyNext (.ref z) >>= _) _ _ s
  have hx:xs[i]?=none:=by simp [hin]
  refine wpAny_bind ?_
  have fin:∀ h',(∀ c o,c≠z→c≠TO→c≠i1→c≠i2→s.heap.get? c=some o→h'.get? c=some o)→R (.ok (.ret res)) { s with heap:=h' }:=fun h' kp=>by
   have kp':∀ b o,b∉[z,TO,i1,i2]→s.heap.get? b=some o→h'.get? b=some o:=fun b o hb e=>kp b o (fun q=>hb (by simp [q])) (fun q=>hb (by simp [q])) (fun q=>hb (by simp [q])) (fun q=>hb (by simp [q])) e
   refine hR h' ts c (fun b o hb e=>kp' b o (fun q=>hb (List.mem_cons_of_mem _ q)) e) (kp' S _ (fun q=>hS S (by simp only [List.mem_cons,List.not_mem_nil,or_false] at q ⊢; rcases q with q | q | q | q <;> simp [q]) rfl) hSl) (by omega) (Z.keep fun t ht o e=>kp' t o (fun q=>?_) e)
   have:=Z.lo t ht
   have l:t < N:=hN t (by simp only [List.mem_cons,List.not_mem_nil,or_false] at q ⊢; rcases q with q | q | q | q <;> simp [q])
   exact Nat.lt_irrefl _ (Nat.lt_of_lt_of_le l this)
  rcases hz with ⟨hz,a,b,hTO⟩ | ⟨T,f,o,hz,hT,hTS⟩
  ·exact wpAny_pyNext_zip_end hh D hz hTI hTO h1 h2 hl1 hl2 (.inl hx) fun h' kp=>wpAny_pure (fin h' kp)
  ·exact zip_end_held hh D hz hT hTI h1 hl1 hx fun h' kp=>wpAny_pure (fin h' fun c o c1 _ c3 _ e=>kp c o c1 c3 e)
 | succ k ih=>
  intro i s ts c hk hi hz hTI h1 h2 hl1 hl2 hSl hts Z hNs hR
  have hlt:i < xs.size:=by omega
  have hlt':i < ys.size:=by omega
  have hx:xs[i]?=some xs[i]:=by simp [hlt]
  have hy:ys[i]?=some ys[i]:=by simp [hlt']
  refine codeAny_builtin F.entry_extend_loop ?_
  rw [Around.under_plainId F.plain_extend_loop _]
  show wpAny _ A.in1 (pyNext (.ref z) >>= _) _ _ s
  refine wpAny_bind ?_
  have nn:∀ b∈[z,TO,i1,i2],∀ t∈ts,t≠b:=fun b hb t ht e=>by
   have:=Z.lo t ht
   have l:b < N:=hN b (by simp only [List.mem_cons,List.not_mem_nil,or_false] at hb ⊢; rcases hb with q | q | q | q <;> simp [q])
   rw [e] at this
   exact Nat.lt_irrefl _ (Nat.lt_of_lt_of_le l this)
  have step:∀ h',IsZ h' z TI TO N→h'.IsListIter i1 l1 (i + 1)→h'.IsListIter i2 l2 (i + 1)→IsPair h' s.heap.objs.size xs[i] ys[i]→h'.objs.size=s.heap.objs.size + 1→(∀ c o,c≠z→c≠TO→c≠i1→c≠i2→s.heap.get? c=some o→h'.get? c=some o)→
    wpAny (model prog w) A.in1 (updateSeq S (·.push (.ref s.heap.objs.size)) >>= fun _=>again (.builtin "list.extend.loop" ⟨[.ref S,.ref z,res],[]⟩)) (fun fin s'=>match fin with | .done f=>R (.ok f) s' | .again c'=>c'.quiet=true∧codeAny (model prog w) A c' R s') (fun e s'=>R (.error e) s') { s with heap:=h' }:=fun h' hz' j1 j2 hT hs' kp=>by
   have kp':∀ b o,b∉[z,TO,i1,i2]→s.heap.get? b=some o→h'.get? b=some o:=fun b o hb e=>kp b o (fun q=>hb (by simp [q])) (fun q=>hb (by simp [q])) (fun q=>hb (by simp [q])) (fun q=>hb (by simp [q])) e
   have hS':h'.get? S=some { cls:=.type "list",dict:=none,data:=.seq (ts.map Value.ref).toArray c,slots:=#[] }:=kp' S _ (fun q=>hS S (by simp only [List.mem_cons,List.not_mem_nil,or_false] at q ⊢; rcases q with q | q | q | q <;> simp [q]) rfl) hSl
   have hl:(ts.map Value.ref).toArray.size=i:=by simp [hts]
   have oth:∀ b o,b≠S→h'.get? b=some o→(h'.update S (Obj.mapSeq (·.push (Value.ref s.heap.objs.size)))).get? b=some o:=fun b o hb e=>(Heap.get?_update_other _ _ (Ne.symm hb)).trans e
   have nTS:s.heap.objs.size≠S:=fun e=>Nat.lt_irrefl _ (e▸Heap.lt_size hSl)
   have Z1:Zpd h' N xs ys ts:=Z.keep fun t ht o e=>kp' t o (fun q=>nn t q t ht rfl) e
   refine wpAny_bind (wpAny_updateSeq (s:={ s with heap:=h' }) hS' rfl (wpAny_pure ⟨plainId_quiet F.plain_extend_loop _,ih (i + 1) _ (ts++[s.heap.objs.size]) (c + 1) (by omega) hlt ?_ ?_ ?_ ?_ ?_ ?_ ?_ (by rw [List.length_append,hts]; rfl) ?_ ?_ fun h2 ts' c' k2 g2 l2' Z2=>?_⟩) (by rw [hl]; exact Nat.le_trans (show i≤1000 by omega) (by decide)) (by show ((ts.map Value.ref).toArray.push _).size≤sizeLine + 1; rw [Array.size_push,hl]; exact Nat.le_trans (show i + 1≤1001 by omega) (by decide)))
   ·rcases hz' with ⟨q1,a,b,q2⟩ | ⟨T,f,o,q1,q2,q3⟩
    ·exact .inl ⟨oth _ _ (hS z (by simp)) q1,a,b,oth _ _ (hS TO (by simp)) q2⟩
    ·exact .inr ⟨T,f,o,oth _ _ (hS z (by simp)) q1,oth _ _ (fun e=>Nat.lt_irrefl _ (Nat.lt_of_lt_of_le (hN S (by simp)) (e▸q3))) q2,q3⟩
   ·exact oth _ _ (hS TI (by simp)) (kp' TI _ (fun q=>by
     simp only [List.mem_cons,List.not_mem_nil,or_false] at q
     rcases q with q | q | q | q
     ·exact D.TIz q
     ·exact D.TITO q
     ·exact D.TIi1 q
     ·exact D.TIi2 q) hTI)
   ·exact j1.at fun o e=>oth _ o (hS i1 (by simp)) e
   ·exact j2.at fun o e=>oth _ o (hS i2 (by simp)) e
   ·obtain ⟨o,ho,r⟩:=hl1
    exact ⟨o,oth _ _ (hS l1 (by simp)) (kp' l1 _ (fun q=>by
     simp only [List.mem_cons,List.not_mem_nil,or_false] at q
     rcases q with q | q | q | q
     ·exact D.l1z q
     ·exact D.l1TO q
     ·exact D.l1i1 q
     ·exact D.l1i2 q) ho),r⟩
   ·obtain ⟨o,ho,r⟩:=hl2
    exact ⟨o,oth _ _ (hS l2 (by simp)) (kp' l2 _ (fun q=>by
     simp only [List.mem_cons,List.not_mem_nil,or_false] at q
     rcases q with q | q | q | q
     ·exact D.l2z q
     ·exact D.l2TO q
     ·exact D.l2i1 q
     ·exact D.l2i2 q) ho),r⟩
   ·have:=Heap.get?_update_self (Obj.mapSeq (·.push (Value.ref s.heap.objs.size))) hS' rfl
    rw [this]
    simp [Obj.mapSeq]
   ·have Z3:=(Z1.snoc (T:=s.heap.objs.size) (x:=xs[i]) (y:=ys[i]) (by rw [hts]; exact hx) (by rw [hts]; exact hy) hT (fun t ht=>Z.lt ht) hNs)
    refine Z3.keep fun t ht o e=>oth t o (fun q=>?_) e
    rcases List.mem_append.mp ht with y | y
    ·have:=Z.lo t y
     have l:S < N:=hN S (by simp)
     rw [q] at this
     exact Nat.lt_irrefl _ (Nat.lt_of_lt_of_le l this)
    ·rw [List.mem_singleton.mp y] at q
     exact nTS q
   ·show N≤(h'.update S _).objs.size
    rw [Heap.size_update,hs']
    exact Nat.le_succ_of_le hNs
   ·refine hR h2 ts' c' (fun b o hb e=>k2 b o hb (oth b o (fun q=>hb (by simp [q])) (kp' b o (fun q=>hb (List.mem_cons_of_mem _ q)) e))) g2 l2' Z2
  rcases hz with ⟨hz,a,b,hTO⟩ | ⟨T,f,o,hz,hT,hTS⟩
  ·refine wpAny_pyNext_zip_item D hz hTI hTO h1 h2 hl1 hl2 hx hy fun h' kz kO j1 j2 kT hs' kp=>?_
   exact step h' (.inr ⟨_,false,_,kz,kT,hNs⟩) j1 j2 kT hs' kp
  ·refine zip_item_held D hz hT hTI h1 h2 hl1 hl2 hx hy fun h' kz j1 j2 kT hs' kp=>?_
   have nT:∀ b∈[z,i1,i2],T≠b:=fun b hb e=>Nat.lt_irrefl _ (Nat.lt_of_lt_of_le (hN b (by simp only [List.mem_cons,List.not_mem_nil,or_false] at hb ⊢; rcases hb with q | q | q <;> simp [q])) (e▸hTS))
   exact step h' (.inr ⟨T,true,o,kz,kp T o (nT z (by simp)) (nT i1 (by simp)) (nT i2 (by simp)) hT,hTS⟩) j1 j2 kT hs' fun c o c1 _ c3 c4 e=>kp c o c1 c3 c4 e
theorem zip_no_len:typeLookup (.type "zip") "__len__"=pure none:=by rw [typeLookup_type,builtinLookup_eq_fast]; kernel_rfl
theorem zip_no_hint:typeLookup (.type "zip") "__length_hint__"=pure none:=by rw [typeLookup_type,builtinLookup_eq_fast]; kernel_rfl
theorem call_list_zip {z TI TO i1 i2 l1 l2:Addr} {xs ys:Array Value} {a b:Value} {Q:Value→Shared→Prop} (hh:A.handled=none) (D:ZipApart z TI TO i1 i2 l1 l2) (hlen:xs.size=ys.size) (hsz:xs.size≤1000) (hz:IsZip s.heap z TI TO .none) (hTI:IsPair s.heap TI (.ref i1) (.ref i2)) (hTO:IsPair s.heap TO a b)
  (h1:s.heap.IsListIter i1 l1 0) (h2:s.heap.IsListIter i2 l2 0) (hl1:s.heap.IsList l1 xs) (hl2:s.heap.IsList l2 ys)
  (hQ:∀ h' ts c',(∀ b o,b∉[z,TO,i1,i2]→s.heap.get? b=some o→h'.get? b=some o)→h'.get? s.heap.objs.size=some { cls:=.type "list",dict:=none,data:=.seq (ts.map Value.ref).toArray c',slots:=#[] }→ts.length=xs.size→Zpd h' (s.heap.objs.size + 1) xs ys ts→Q (.ref s.heap.objs.size) { s with heap:=h' }) :
  wpAny (model prog w) A (call (.type "list") [.ref z]) Q E s:=by
 refine callType_codes (Q₁:=fun obj s₁=>obj=.ref s.heap.objs.size∧s₁={ s with heap:=s.heap.push { cls:=.type "list",data:=.seq #[] } }) F.called_list (F.typeCall_list_1 _) F.entry_list_init (code_list_new _ ⟨rfl,rfl⟩) fun obj s₁ h₁=>?_
 obtain ⟨rfl,rfl⟩:=h₁
 have hS:(s.heap.push { cls:=.type "list",data:=.seq #[] }).get? s.heap.objs.size=some { cls:=.type "list",data:=.seq #[] }:=Heap.get?_push_size _ rfl
 refine ⟨⟨_,hS,rfl⟩,F.args_list_init_2 _ _,?_⟩
 have lt:∀ {c o},s.heap.get? c=some o→c < s.heap.objs.size:=fun q=>Heap.lt_size q
 have all:∀ c∈[z,TI,TO,i1,i2,l1,l2],c < s.heap.objs.size:=fun c hc=>by
  simp only [List.mem_cons,List.not_mem_nil,or_false] at hc
  rcases hc with rfl | rfl | rfl | rfl | rfl | rfl | rfl
  ·exact lt hz
  ·exact lt hTI
  ·exact lt hTO
  ·obtain ⟨_,q,_⟩:=h1; exact lt q
  ·obtain ⟨_,q,_⟩:=h2; exact lt q
  ·obtain ⟨_,q,_⟩:=hl1; exact lt q
  ·obtain ⟨_,q,_⟩:=hl2; exact lt q
 generalize hSS:s.heap.objs.size=S at hS all hQ ⊢
 have up:∀ c o,s.heap.get? c=some o→(s.heap.push { cls:=.type "list",data:=.seq #[] }).get? c=some o:=fun c o e=>Heap.get?_push_of_some _ e
 have szp:(s.heap.push { cls:=.type "list",data:=.seq #[] }).objs.size=S + 1:=by rw [Heap.size_push,hSS]
 show wpAny _ _ (do let old ← Builtin.List.listItems (.ref S); Builtin.List.listUpdate (.ref S) (fun _=>#[]); letGo old.toList.reverse; Builtin.List.listExtendWith (.ref S) (.ref z) .none) _ _ _
 refine wpAny_bind ?_
 unfold Builtin.List.listItems
 refine wpAny_bind (wpAny_seqItems (s:={ s with heap:=s.heap.push { cls:=.type "list",data:=.seq #[] } }) hS rfl (wpAny_pure ?_))
 show wpAny _ _ (updateSeq S (fun _=>#[]) >>= fun _=>letGo (#[]:Array Value).toList.reverse >>= fun _=>Builtin.List.listExtendWith (.ref S) (.ref z) .none) _ _ _
 refine wpAny_bind (wpAny_updateSeq (s:={ s with heap:=s.heap.push { cls:=.type "list",data:=.seq #[] } }) hS rfl ?_)
 have hS1:=Heap.get?_update_self (Obj.mapSeq (fun _=>(#[]:Array Value))) hS rfl
 have ot1:∀ b o,b≠S→(s.heap.push { cls:=.type "list",data:=.seq #[] }).get? b=some o→((s.heap.push { cls:=.type "list",data:=.seq #[] }).update S (Obj.mapSeq (fun _=>(#[]:Array Value)))).get? b=some o:=fun b o hb e=>(Heap.get?_update_other _ _ (Ne.symm hb)).trans e
 refine wpAny_bind (wpAny_letGo ?_)
 have old1:∀ b o,s.heap.get? b=some o→((s.heap.push { cls:=.type "list",data:=.seq #[] }).update S (Obj.mapSeq (fun _=>(#[]:Array Value)))).get? b=some o:=fun b o e=>ot1 b o (fun q=>by rw [q,← hSS] at e; exact Nat.lt_irrefl _ (lt e)) (up b o e)
 have sz1:((s.heap.push { cls:=.type "list",data:=.seq #[] }).update S (Obj.mapSeq (fun _=>(#[]:Array Value)))).objs.size=S + 1:=by rw [Heap.size_update,szp]
 dsimp only [Obj.mapSeq] at hS1
 generalize ((s.heap.push { cls:=.type "list",data:=.seq #[] }).update S (Obj.mapSeq (fun _=>(#[]:Array Value))))=H1 at hS1 old1 sz1 ⊢
 have nS:∀ b∈[z,TI,TO,i1,i2,l1,l2],b≠S:=fun b hb q=>Nat.lt_irrefl _ (q▸all b hb)
 have hTy:Shared.TypeIs { s with heap:=H1 } (.ref z) "zip":=⟨_,old1 _ _ hz,rfl⟩
 unfold Builtin.List.listExtendWith
 refine wpAny_bind (wpAny_typeOf hTy ?_)
 have e1:Builtin.List.listSameRef (.ref S) (.ref z)=false:=by simp [Builtin.List.listSameRef,(nS z (by simp)).symm]
 have e2:(Value.type "zip" == Value.type "list")=false:=by decide
 have e3:(Value.type "zip" == Value.type "tuple")=false:=by decide
 simp only [e1,e2,e3,Bool.or_false,Bool.false_eq_true,if_false]
 refine wpAny_bind (wpAny_pyIter_zip (s:={ s with heap:=H1 }) (old1 _ _ hz) ?_)
 refine wpAny_bind (wpAny_holding ?_)
 unfold Builtin.List.listLengthHint
 refine wpAny_bind (wpAny_specialOf hTy zip_no_len ?_)
 show wpAny _ _ (specialOf (Value.ref z) (Str.ofString "__length_hint__") >>= _) _ _ _
 refine wpAny_bind (wpAny_specialOf hTy zip_no_hint ?_)
 refine wpAny_pure ?_
 show wpAny _ _ (rule "list.extend.makes-room" >>= fun _=>Builtin.List.listTouch (.ref S) >>= fun _=>again (.builtin "list.extend.loop" ⟨[.ref S,.ref z,.none],[]⟩)) _ _ _
 refine wpAny_bind (wpAny_rule (wpAny_bind ?_))
 show wpAny _ _ (updateSeq S (·.push .none) >>= fun _=>updateSeq S (·.pop)) _ _ _
 refine wpAny_bind (wpAny_updateSeq (s:={ s with heap:=H1 }) hS1 rfl ?_)
 have hS2:=Heap.get?_update_self (Obj.mapSeq (·.push Value.none)) hS1 rfl
 refine wpAny_updateSeq (hz:=by seq_fits) hS2 rfl ?_
 have hS3:=Heap.get?_update_self (Obj.mapSeq (·.pop)) hS2 rfl
 have old3:∀ b o,s.heap.get? b=some o→((H1.update S (Obj.mapSeq (·.push Value.none))).update S (Obj.mapSeq (·.pop))).get? b=some o:=fun b o e=>by
  have hb:b≠S:=fun q=>by rw [q,← hSS] at e; exact Nat.lt_irrefl _ (lt e)
  exact (Heap.get?_update_other _ _ (Ne.symm hb)).trans ((Heap.get?_update_other _ _ (Ne.symm hb)).trans (old1 b o e))
 have sz3:((H1.update S (Obj.mapSeq (·.push Value.none))).update S (Obj.mapSeq (·.pop))).objs.size=S + 1:=by rw [Heap.size_update,Heap.size_update,sz1]
 dsimp only [Obj.mapSeq] at hS3
 generalize ((H1.update S (Obj.mapSeq (·.push Value.none))).update S (Obj.mapSeq (·.pop)))=H3 at hS3 old3 sz3 ⊢
 obtain ⟨o1,g1,r1⟩:=h1
 obtain ⟨o2,g2,r2⟩:=h2
 obtain ⟨o3,g3,r3⟩:=hl1
 obtain ⟨o4,g4,r4⟩:=hl2
 refine wpAny_pure ⟨plainId_quiet F.plain_extend_loop _,zl_loop (A:=A.in1) (N:=S + 1) hh D hlen hsz .none nS (fun b hb=>?_) xs.size 0 _ [] _ rfl (Nat.zero_le _) (.inl ⟨old3 _ _ hz,a,b,old3 _ _ hTO⟩) (old3 _ _ hTI) ⟨o1,old3 _ _ g1,r1⟩ ⟨o2,old3 _ _ g2,r2⟩ ⟨o3,old3 _ _ g3,r3⟩ ⟨o4,old3 _ _ g4,r4⟩ hS3 rfl ⟨fun j t e=>by simp at e,.nil,fun t ht=>by cases ht⟩ (Nat.le_of_eq sz3.symm) fun h' ts' c' kp g l Z=>?_⟩
 ·rcases List.mem_cons.mp hb with q | q
  ·rw [q]; exact Nat.lt_succ_self _
  ·exact Nat.lt_succ_of_lt (all b q)
 ·exact ⟨rfl,hQ h' ts' c' (fun b o hb e=>kp b o (fun q=>by
   rcases List.mem_cons.mp q with y | y
   ·rw [y,← hSS] at e; exact Nat.lt_irrefl _ (lt e)
   ·exact hb y) (old3 b o e)) g l Z⟩
end
end PySem
namespace L2
open PySem PySem.Spec PyProof.Rows
def ZpAt (H:Hp) (ts:List Addr) (xs ys:List V):Prop:=ts.length=xs.length∧∀ (j:Nat) (t:Addr),ts[j]?=some t→∃ x y,xs[j]?=some x∧ys[j]?=some y∧H t=some (.tup [x,y])
theorem vals_back:∀ {xs:List V} {us:List Value} {i:Nat} {u:Value},Vals xs us→us[i]?=some u→∃ x,xs[i]?=some x∧RelV x u
 | _,_,_,_,.nil,e=>by simp at e
 | _,_,0,_,.cons r _,e=>by simp at e; subst e; exact ⟨_,rfl,r⟩
 | _,_,i + 1,u,.cons _ t,e=>by
  obtain ⟨x,h1,h2⟩:=vals_back (i:=i) (u:=u) t (by simpa using e)
  exact ⟨x,by simpa using h1,h2⟩
theorem track_prs {X:Cx} {pins:List (Addr×Obj)} {σ:St} {H1:Hp} {s1 s':Shared} {us vs:List Value} {xs ys:List V} (I1:Inv X pins σ H1 s1) (rv:Vals xs us) (rv':Vals ys vs) :
  ∀ (ts:List Addr) (H:Hp) (j0:Nat),Inv X pins σ H s'→(∀ t∈ts,s1.heap.objs.size≤t∧H t=none)→ts.Pairwise (· < ·)→(∀ (j:Nat) (t:Addr),ts[j]?=some t→∃ x y,us[j0 + j]?=some x∧vs[j0 + j]?=some y∧IsPair s'.heap t x y)→
   ∃ H',Inv X pins σ H' s'∧(∀ b o,H b=some o→H' b=some o)∧(∀ b,b∉ts→H' b=H b)∧∀ (j:Nat) (t:Addr),ts[j]?=some t→∃ x y,xs[j0 + j]?=some x∧ys[j0 + j]?=some y∧H' t=some (.tup [x,y])
 | [],H,j0,I,_,_,_=>⟨H,I,fun _ _ e=>e,fun _ _=>rfl,fun j t e=>by simp at e⟩
 | t::ts,H,j0,I,hn,hp,hpr=>by
  obtain ⟨lo,fr⟩:=hn t (List.mem_cons_self ..)
  obtain ⟨u,v,hu,hv,hT⟩:=hpr 0 t rfl
  rw [Nat.add_zero] at hu hv
  obtain ⟨x,hx,rx⟩:=vals_back rv hu
  obtain ⟨y,hy,ry⟩:=vals_back rv' hv
  obtain ⟨f0,f1,f2,f3,f4,f5⟩:=I1.fpOk (H':=H) lo fr
  have h0:X.s₀.heap.get? t=none:=by
   cases e:X.s₀.heap.get? t with
   | none=>rfl
   | some o=>exact absurd (Nat.lt_of_lt_of_le (Heap.lt_size e) (Nat.le_trans I1.sz lo)) (Nat.lt_irrefl _)
  have I2:Inv X pins σ (upd H t (.tup [x,y])) s':=I.track f0 h0 f1 f4 f5 ⟨by show 2≤sizeLine; decide,[u,v],.cons rx (.cons ry .nil),⟨_,hT,rfl,_,rfl⟩⟩
  rw [List.pairwise_cons] at hp
  obtain ⟨H',J,k1,k2,k3⟩:=track_prs I1 rv rv' ts (upd H t (.tup [x,y])) (j0 + 1) I2 (fun t' ht'=>⟨(hn t' (List.mem_cons_of_mem _ ht')).1,by rw [upd_ne (Nat.ne_of_gt (hp.1 t' ht'))]; exact (hn t' (List.mem_cons_of_mem _ ht')).2⟩) hp.2 fun j t' e=>by
   have:=hpr (j + 1) t' (by rw [List.getElem?_cons_succ]; exact e)
   rwa [show j0 + (j + 1)=j0 + 1 + j by omega] at this
  have ht':t∉ts:=fun q=>Nat.lt_irrefl _ (hp.1 t q)
  refine ⟨H',J,fun b o e=>k1 b o (by rw [upd_ne (fun q=>by rw [q,fr] at e; cases e)]; exact e),fun b hb=>?_,fun j t' e=>?_⟩
  ·rw [k2 b (fun q=>hb (List.mem_cons_of_mem _ q)),upd_ne (fun q=>hb (by rw [q]; exact List.mem_cons_self ..))]
  ·cases j with
   | zero=>
    cases e
    exact ⟨x,y,hx,hy,by rw [k2 t ht',upd_same]⟩
   | succ j=>
    rw [List.getElem?_cons_succ] at e
    have:=k3 j t' e
    rwa [show j0 + 1 + j=j0 + (j + 1) by omega] at this
def tListZ (K:PySem.W.Frag) (ta:TA):TE:=fun σ H Q=>ta σ H fun vs H1=>∃ (a b:Addr) (xs ys:List V),vs=[.ref a,.ref b]∧SqL K H1 a xs∧SqL K H1 b ys∧xs.length=ys.length∧xs.length≤1000∧∀ (l:Addr) (ts:List Addr) (H':Hp),H1 l=none→Same H1 H'→H' l=some (.lst (ts.map V.ref))→ZpAt H' ts xs ys→Q (.ref l) H'
theorem pe_listZ {X:Cx} {a b:Expr} {ta:TA} {p1 p2 pos1 pos2:Pos} (hc:X.calm=true) (hgl:Gl X "list") (hml:X.mg "list"=none) (hgz:Gl X "zip") (hmz:X.mg "zip"=none) (ha:PA X [a,b] ta) (hs:starEach [a,b] X.env=[(false,eval a X.env),(false,eval b X.env)]:=by rfl) (hs2:starEach [b] X.env=[(false,eval b X.env)]:=by rfl)
  (he:starEach [.Call (.Name "zip" p2) [a,b] [] pos2] X.env=[(false,eval (.Call (.Name "zip" p2) [a,b] [] pos2) X.env)]:=by rfl) :
  PE X (.Call (.Name "list" p1) [.Call (.Name "zip" p2) [a,b] [] pos2] [] pos1) (tListZ X.K ta):=by
 intro pins s σ H Q I h
 refine wpAny_Call_Name_kw (ld_blt I hgl hml (show bootBuiltins "list"=some (.type "list") by decide +kernel) ?_)
 refine PyProof.Rows.callWith_type1 ?_ he rfl
 rw [he]
 show wpAny _ _ (spliced ((false,eval (.Call (.Name "zip" p2) [a,b] [] pos2) X.env)::backTo pos1 [])) _ _ s
 refine Calls.spliced_cons ?_
 refine wpAny_Call_Name_kw (ld_blt I hgz hmz (show bootBuiltins "zip"=some (.type "zip") by decide +kernel) ?_)
 refine PyProof.Rows.callWith_type1 (thn (ha pos2 pins s σ H _ I h) fun us s1 ⟨vs,H1,I1,r1,q1⟩=>?_) (by rw [hs,hs2]) (by rw [hs2]; rfl)
 obtain ⟨a,b,xs,ys,e,hq,hq',hlen,h1000,q⟩:=q1
 subst e
 cases r1 with
 | cons ra rr=>
  cases rr with
  | cons rb rr=>
   cases rr
   cases ra
   cases rb
   obtain ⟨its,rv,pl,hz⟩:=I1.list hq
   obtain ⟨its',rv',pl',hz'⟩:=I1.list hq'
   have la:a < s1.heap.objs.size:=by obtain ⟨_,g,_⟩:=pl.isList; exact Heap.lt_size g
   have lb:b < s1.heap.objs.size:=by obtain ⟨_,g,_⟩:=pl'.isList; exact Heap.lt_size g
   have e1:=rv.length
   have e2:=rv'.length
   refine call_zip_2 pl.isList pl'.isList fun h' kz kI kO j1 j2 hsz kp=>?_
   have D:ZipApart (s1.heap.objs.size + 4) (s1.heap.objs.size + 2) (s1.heap.objs.size + 3) s1.heap.objs.size (s1.heap.objs.size + 1) a b:=PySem.W.ktu_apart _ _ _ la lb
   refine Calls.spliced_nil ?_
   have pl1:h'.IsList a its.toArray:=by obtain ⟨o,g,r⟩:=pl.isList; exact ⟨o,kp _ _ g,r⟩
   have pl2:h'.IsList b its'.toArray:=by obtain ⟨o,g,r⟩:=pl'.isList; exact ⟨o,kp _ _ g,r⟩
   refine call_list_zip (s:={ s1 with heap:=h' }) (I1.ok.hd hc) D (by simp; omega) (by simp; omega) kz kI kO j1 j2 pl1 pl2 fun h2 ts c kp2 hl hts Z=>?_
   have szl:h'.objs.size=s1.heap.objs.size + 5:=hsz
   have kp3:∀ b o,s1.heap.get? b=some o→h2.get? b=some o:=fun b o e=>kp2 b o (fun hb=>by
    have l:=Heap.lt_size e
    simp only [List.mem_cons,List.not_mem_nil,or_false] at hb
    have ge:s1.heap.objs.size≤b:=by rcases hb with q | q | q | q <;> rw [q] <;> first | exact Nat.le_add_right _ _ | exact Nat.le_refl _
    exact Nat.lt_irrefl _ (Nat.lt_of_lt_of_le l ge)) (kp b o e)
   have I2:Inv X pins σ H1 { s1 with heap:=h2 }:=I1.kept (t':=s1.toks) kp3
   obtain ⟨H',J,k1,k2,k3⟩:=track_prs (s':={ s1 with heap:=h2 }) I1 rv rv' ts H1 0 I2 (fun t ht=>⟨by have:=Z.lo t ht; dsimp only at this; omega,I1.hok.fresh (by have:=Z.lo t ht; dsimp only at this; omega)⟩) Z.up fun j t e=>by
    rw [Nat.zero_add]
    obtain ⟨x,y,h1,h2',h3⟩:=Z.pr j t e
    exact ⟨x,y,by simpa using h1,by simpa using h2',h3⟩
   have fl:H1 h'.objs.size=none:=I1.hok.fresh (by omega)
   have lnt:h'.objs.size∉ts:=fun hb=>by
    have:=Z.lo _ hb
    dsimp only at this
    omega
   have fl':H' h'.objs.size=none:=by rw [k2 _ lnt]; exact fl
   obtain ⟨f0,f1,f2,f3,f4,f5⟩:=I1.fpOk (H':=H') (b:=h'.objs.size) (by omega) fl'
   have h0:X.s₀.heap.get? h'.objs.size=none:=by
    cases e:X.s₀.heap.get? h'.objs.size with
    | none=>rfl
    | some o=>exact absurd (Nat.lt_of_lt_of_le (Heap.lt_size e) (Nat.le_trans I1.sz (show s1.heap.objs.size≤h'.objs.size by omega))) (Nat.lt_irrefl _)
   have vts:Vals (ts.map V.ref) (ts.map Value.ref):=by
    clear hts Z k3 k2 lnt hl
    induction ts with
    | nil=>exact .nil
    | cons t ts ih=>exact .cons rfl ih
   have htl:ts.length=xs.length:=by rw [hts]; simp; omega
   have J2:Inv X pins σ (upd H' h'.objs.size (.lst (ts.map V.ref))) { s1 with heap:=h2 }:=J.track f0 h0 f1 f4 f5 ⟨by rw [List.length_map,htl]; exact Nat.le_trans h1000 (by decide),ts.map Value.ref,c,vts,hl⟩
   refine ⟨.ref h'.objs.size,_,J2,rfl,q h'.objs.size ts _ fl (fun b o e=>?_) upd_same ⟨htl,fun j t e=>?_⟩⟩
   ·rw [upd_ne (fun z=>by rw [z,fl] at e; cases e)]
    exact k1 b o e
   ·obtain ⟨x,y,g1,g2,g3⟩:=k3 j t e
    rw [Nat.zero_add] at g1 g2
    exact ⟨x,y,g1,g2,by rw [upd_ne (fun z=>lnt (by rw [← z]; exact List.mem_of_getElem? e))]; exact g3⟩
theorem qe_listZ {X:Cx} {a b:Expr} {ta:TA} {p1 p2 pos1 pos2:Pos} (hc:X.calm=true) (hgl:Gl X "list") (hml:X.mg "list"=none) (hgz:Gl X "zip") (hmz:X.mg "zip"=none) (ha:QA X [a,b] ta) (hs:starEach [a,b] X.env=[(false,eval a X.env),(false,eval b X.env)]:=by rfl) (hs2:starEach [b] X.env=[(false,eval b X.env)]:=by rfl)
  (he:starEach [.Call (.Name "zip" p2) [a,b] [] pos2] X.env=[(false,eval (.Call (.Name "zip" p2) [a,b] [] pos2) X.env)]:=by rfl) :
  QE X (.Call (.Name "list" p1) [.Call (.Name "zip" p2) [a,b] [] pos2] [] pos1) (tListZ X.K ta):=⟨pe_listZ hc hgl hml hgz hmz ha.h hs hs2 he⟩
end L2
namespace E1
open PySem L2
abbrev pw:Program:=PySem.Challenge.pw_evenmeet_k33_nets_and_back
def top (i:Nat):Stmt:=pw.main.body.getD i (.Pass ⟨0,0,0,0⟩)
abbrev sWhole:Stmt:=top 17
abbrev sMust:Stmt:=top 18
abbrev sFrom:Stmt:=top 19
abbrev sRoot:Stmt:=top 20
abbrev sNetOf:Stmt:=top 22
abbrev sBlocksByNumber:Stmt:=top 23
abbrev sCellsWith:Stmt:=top 24
abbrev sSquaresBack:Stmt:=top 25
abbrev sNumbersByClass:Stmt:=top 26
abbrev sMustCross:Stmt:=top 27
abbrev sSquareBack:Stmt:=top 28
abbrev sCell:Stmt:=top 30
abbrev sLNumbers:Stmt:=top 31
abbrev sLOnly:Stmt:=top 32
abbrev sLRow:Stmt:=top 33
abbrev sLSquare:Stmt:=top 34
abbrev sLPlain:Stmt:=top 35
abbrev sLGood:Stmt:=top 36
abbrev sLSquares:Stmt:=top 37
abbrev sLNet:Stmt:=top 38
abbrev sLBent:Stmt:=top 39
abbrev sLClasses:Stmt:=top 40
abbrev sDue:Stmt:=top 41
abbrev sLRight:Stmt:=top 42
abbrev sLAllOver:Stmt:=top 43
abbrev sLaw:Stmt:=top 44
section
variable {P:Program} {w:World} {K:PySem.W.Frag} {mg:Str→Option Value} {base:Heap} {M C:Addr}
structure RefsD (K:PySem.W.Frag) (M C o1 o2 o3 o4 o5 o6 o7 o8 o9 o10 o11 o12 o13:Addr):Prop where
 nM:PySem.W.nsIn K mainGlobals "MeetError"=some (some (.ref M))
 nC:PySem.W.nsIn K mainGlobals "NoNet"=some (some (.ref C))
 nV:PySem.W.nsIn K mainGlobals "ValueError"=some none
 n1:PySem.W.nsIn K mainGlobals "NoArc"=some (some (.ref o1))
 n2:PySem.W.nsIn K mainGlobals "NoBases"=some (some (.ref o2))
 n3:PySem.W.nsIn K mainGlobals "NoField"=some (some (.ref o3))
 n4:PySem.W.nsIn K mainGlobals "NoLayout"=some (some (.ref o4))
 n5:PySem.W.nsIn K mainGlobals "NoMeeting"=some (some (.ref o5))
 n6:PySem.W.nsIn K mainGlobals "NoDual"=some (some (.ref o6))
 n7:PySem.W.nsIn K mainGlobals "NoNumber"=some (some (.ref o7))
 n8:PySem.W.nsIn K mainGlobals "NoPart"=some (some (.ref o8))
 n9:PySem.W.nsIn K mainGlobals "NoRow"=some (some (.ref o9))
 n10:PySem.W.nsIn K mainGlobals "NoText"=some (some (.ref o10))
 n11:PySem.W.nsIn K mainGlobals "NoWish"=some (some (.ref o11))
 n12:PySem.W.nsIn K mainGlobals "NoDeskRow"=some (some (.ref o12))
 n13:PySem.W.nsIn K mainGlobals "NoName"=some (some (.ref o13))
 eM:PySem.W.ExcK K M
 eC:PySem.W.ExcK K C
 cl:PySem.W.ClsK K
 sub:PySem.W.mroIn K C (.ref M)=some true
 kC:PySem.W.kitOne K (.ref C) (.ref C)=some true
 kV:PySem.W.kitOne K (.ref C) (.type "ValueError")=some true
 kM:PySem.W.kitOne K (.ref C) (.ref M)=some true
 q1:PySem.W.kitOne K (.ref C) (.ref o1)=some false
 q2:PySem.W.kitOne K (.ref C) (.ref o2)=some false
 q3:PySem.W.kitOne K (.ref C) (.ref o3)=some false
 q4:PySem.W.kitOne K (.ref C) (.ref o4)=some false
 q5:PySem.W.kitOne K (.ref C) (.ref o5)=some false
 q6:PySem.W.kitOne K (.ref C) (.ref o6)=some false
 q7:PySem.W.kitOne K (.ref C) (.ref o7)=some false
 q8:PySem.W.kitOne K (.ref C) (.ref o8)=some false
 q9:PySem.W.kitOne K (.ref C) (.ref o9)=some false
 q10:PySem.W.kitOne K (.ref C) (.ref o10)=some false
 q11:PySem.W.kitOne K (.ref C) (.ref o11)=some false
 q12:PySem.W.kitOne K (.ref C) (.ref o12)=some false
 q13:PySem.W.kitOne K (.ref C) (.ref o13)=some false
theorem refsD_mk {K:PySem.W.Frag} {M C o1 o2 o3 o4 o5 o6 o7 o8 o9 o10 o11 o12 o13:Addr}
  (nM:PySem.W.nsIn K mainGlobals "MeetError"=some (some (.ref M))) (nC:PySem.W.nsIn K mainGlobals "NoNet"=some (some (.ref C))) (nV:PySem.W.nsIn K mainGlobals "ValueError"=some none)
  (n1:PySem.W.nsIn K mainGlobals "NoArc"=some (some (.ref o1)))
  (n2:PySem.W.nsIn K mainGlobals "NoBases"=some (some (.ref o2)))
  (n3:PySem.W.nsIn K mainGlobals "NoField"=some (some (.ref o3)))
  (n4:PySem.W.nsIn K mainGlobals "NoLayout"=some (some (.ref o4)))
  (n5:PySem.W.nsIn K mainGlobals "NoMeeting"=some (some (.ref o5)))
  (n6:PySem.W.nsIn K mainGlobals "NoDual"=some (some (.ref o6)))
  (n7:PySem.W.nsIn K mainGlobals "NoNumber"=some (some (.ref o7)))
  (n8:PySem.W.nsIn K mainGlobals "NoPart"=some (some (.ref o8)))
  (n9:PySem.W.nsIn K mainGlobals "NoRow"=some (some (.ref o9)))
  (n10:PySem.W.nsIn K mainGlobals "NoText"=some (some (.ref o10)))
  (n11:PySem.W.nsIn K mainGlobals "NoWish"=some (some (.ref o11)))
  (n12:PySem.W.nsIn K mainGlobals "NoDeskRow"=some (some (.ref o12)))
  (n13:PySem.W.nsIn K mainGlobals "NoName"=some (some (.ref o13)))
  (exM:PySem.W.excIn K M [.type "ValueError",.type "Exception",.type "BaseException",.type "object"] "ValueError.__new__"=true) (gaM:PySem.W.findIn K (.ref M) "__getattribute__"=some (some (.builtin "BaseException.__getattribute__"))) (noM:PySem.W.findIn K (.ref M) "__getattr__"=some none)
  (clM:PySem.W.findIn K (.ref M) "__class__"=some (some (.builtin "object.__class__"))) (obM:PySem.W.mroIn K M (.type "object")=some true) (beM:PySem.W.mroIn K M (.type "BaseException")=some true)
  (exC:PySem.W.excIn K C [.type "ValueError",.type "Exception",.type "BaseException",.type "object"] "ValueError.__new__"=true) (gaC:PySem.W.findIn K (.ref C) "__getattribute__"=some (some (.builtin "BaseException.__getattribute__"))) (noC:PySem.W.findIn K (.ref C) "__getattr__"=some none)
  (clC:PySem.W.findIn K (.ref C) "__class__"=some (some (.builtin "object.__class__"))) (obC:PySem.W.mroIn K C (.type "object")=some true) (beC:PySem.W.mroIn K C (.type "BaseException")=some true)
  (gt:PySem.W.specialIn K (.builtin "object.__class__") "__get__"=some (some (.builtin "getset_descriptor.__get__"))) (tk:PySem.W.takesIn K (.builtin "object.__class__")=some true)
  (sub:PySem.W.mroIn K C (.ref M)=some true) (kC:PySem.W.kitOne K (.ref C) (.ref C)=some true) (kV:PySem.W.kitOne K (.ref C) (.type "ValueError")=some true) (kM:PySem.W.kitOne K (.ref C) (.ref M)=some true)
  (q1:PySem.W.kitOne K (.ref C) (.ref o1)=some false) (q2:PySem.W.kitOne K (.ref C) (.ref o2)=some false) (q3:PySem.W.kitOne K (.ref C) (.ref o3)=some false) (q4:PySem.W.kitOne K (.ref C) (.ref o4)=some false) (q5:PySem.W.kitOne K (.ref C) (.ref o5)=some false) (q6:PySem.W.kitOne K (.ref C) (.ref o6)=some false) (q7:PySem.W.kitOne K (.ref C) (.ref o7)=some false) (q8:PySem.W.kitOne K (.ref C) (.ref o8)=some false) (q9:PySem.W.kitOne K (.ref C) (.ref o9)=some false) (q10:PySem.W.kitOne K (.ref C) (.ref o10)=some false) (q11:PySem.W.kitOne K (.ref C) (.ref o11)=some false) (q12:PySem.W.kitOne K (.ref C) (.ref o12)=some false) (q13:PySem.W.kitOne K (.ref C) (.ref o13)=some false):∃ M C o1 o2 o3 o4 o5 o6 o7 o8 o9 o10 o11 o12 o13:Addr,RefsD K M C o1 o2 o3 o4 o5 o6 o7 o8 o9 o10 o11 o12 o13:=
 ⟨M,C,o1,o2,o3,o4,o5,o6,o7,o8,o9,o10,o11,o12,o13,nM,nC,nV,n1,n2,n3,n4,n5,n6,n7,n8,n9,n10,n11,n12,n13,⟨exM,gaM,noM,clM,obM,beM⟩,⟨exC,gaC,noC,clC,obC,beC⟩,⟨gt,tk⟩,sub,kC,kV,kM,q1,q2,q3,q4,q5,q6,q7,q8,q9,q10,q11,q12,q13⟩
structure MarksD (K:PySem.W.Frag) (mg:Str→Option Value) (M C o1 o2 o3 o4 o5 o6 o7 o8 o9 o10 o11 o12 o13:Addr):Prop where
 R:RefsD K M C o1 o2 o3 o4 o5 o6 o7 o8 o9 o10 o11 o12 o13
 mM:mg "MeetError"=some (.ref M)
 mC:mg "NoNet"=some (.ref C)
 mV:mg "ValueError"=none
 m1:mg "NoArc"=some (.ref o1)
 m2:mg "NoBases"=some (.ref o2)
 m3:mg "NoField"=some (.ref o3)
 m4:mg "NoLayout"=some (.ref o4)
 m5:mg "NoMeeting"=some (.ref o5)
 m6:mg "NoDual"=some (.ref o6)
 m7:mg "NoNumber"=some (.ref o7)
 m8:mg "NoPart"=some (.ref o8)
 m9:mg "NoRow"=some (.ref o9)
 m10:mg "NoText"=some (.ref o10)
 m11:mg "NoWish"=some (.ref o11)
 m12:mg "NoDeskRow"=some (.ref o12)
 m13:mg "NoName"=some (.ref o13)
theorem marks_of {K:PySem.W.Frag} {h:Heap} {mg:Str→Option Value} {M C o1 o2 o3 o4 o5 o6 o7 o8 o9 o10 o11 o12 o13:Addr} (X:K.In h) (G:h.Ns mainGlobals mg) (R:RefsD K M C o1 o2 o3 o4 o5 o6 o7 o8 o9 o10 o11 o12 o13):MarksD K mg M C o1 o2 o3 o4 o5 o6 o7 o8 o9 o10 o11 o12 o13:=
 ⟨R,PySem.W.mg_of X G R.nM,PySem.W.mg_of X G R.nC,PySem.W.mg_none_of X G R.nV,PySem.W.mg_of X G R.n1,PySem.W.mg_of X G R.n2,PySem.W.mg_of X G R.n3,PySem.W.mg_of X G R.n4,PySem.W.mg_of X G R.n5,PySem.W.mg_of X G R.n6,PySem.W.mg_of X G R.n7,PySem.W.mg_of X G R.n8,PySem.W.mg_of X G R.n9,PySem.W.mg_of X G R.n10,PySem.W.mg_of X G R.n11,PySem.W.mg_of X G R.n12,PySem.W.mg_of X G R.n13⟩
theorem scWhole:FnScope ["thing"] ["thing"] (defScope sWhole):=⟨rfl,rfl,rfl,by decide +kernel,rfl,by decide +kernel,by decide +kernel⟩
theorem ok_whole {f:Addr} {fd:FuncData} (F:Fun K "is_whole" "is_whole" sWhole f fd) (T:TxtB mg):FnOk P w K mg base CX0 1 f fd ["thing"] (spWhole K):=by
 refine F.okQ scWhole (fun vs H Q E h=>?_) (fun cdv A outer s H vs Q E hr h=>?_)
 ·obtain ⟨v,b,rfl,_⟩:=h
  rfl
 ·obtain ⟨v,b,rfl,hw,k⟩:=h
  refine ⟨_,qss_one (qs_ret (qe_and (qe_callB call_isinst (by rfl) T.isi PyProof.Rows.boot_isinstance (qac (qv 0) (qac (qe_bltn (v:=.ty "int") rfl T.int PyProof.Rows.boot_int rfl) qa_nil)))
   (qe_one (qe_not (qe_callB call_isinst (by rfl) T.isi PyProof.Rows.boot_isinstance (qac (qv 0) (qac (qe_bltn (v:=.ty "bool") rfl T.bool PyProof.Rows.boot_bool rfl) qa_nil))))))),?_⟩
  cases hw with
  | int i=>
   refine ⟨_,rfl,_,_,_,_,rfl,.int i,rel_ty (kit_int_int K),true,rfl,iteT ?_⟩
   exact ⟨_,rfl,_,_,_,_,rfl,.int i,rel_ty (kit_int_bool K),false,rfl,k⟩
  | bl x=>
   refine ⟨_,rfl,_,_,_,_,rfl,.bl x,rel_ty (kit_bool_int K),true,rfl,iteT ?_⟩
   exact ⟨_,rfl,_,_,_,_,rfl,.bl x,rel_ty (kit_bool_bool K),true,rfl,k⟩
  | odd ty kk=>
   exact ⟨_,rfl,_,_,_,_,rfl,ty,rel_ty kk,false,rfl,iteF k⟩
def spCell2 (K:PySem.W.Frag):Sp:=fun vs H Q _=>∃ (a:Addr) (ns:List Int) (k:Nat),vs=[.ref a,.int (k:Int)]∧SqL K H a (ns.map V.int)∧k≤1000∧∀ (z:Int) (H':Hp),Same H H'→Q (.int z) H'
theorem scCell:FnScope ["_law_script", "_law_k", "_law_state", "_law_cell_here"] ["_law_script", "_law_k"] (defScope sCell):=⟨rfl,rfl,rfl,by decide +kernel,rfl,by decide +kernel,by decide +kernel⟩
theorem ok_cell2 {f:Addr} {fd:FuncData} (F:Fun K "_law_cell" "_law_cell" sCell f fd) (T:TxtB mg):FnOk P w K mg base CX0 1 f fd ["_law_script", "_law_k"] (spCell2 K):=by
 refine F.okQ scCell (fun vs H Q E h=>?_) (fun cdv A outer s H vs Q E hr h=>?_)
 ·obtain ⟨a,ns,k,rfl,_⟩:=h
  rfl
 ·obtain ⟨a,ns,k,rfl,hS,hk,q⟩:=h
  refine ⟨_,(qss_cons (qs_if (qt_cmpR op_lt (qv 1) (qe_callB call_len_seq (by rfl) T.len PySem.boot_len (qac (qv 0) qa_nil)) (nomark _)) (qss_one (qs_ret (qe_ix ix_list (qv 0) (qv 1) (fun _ _=>rfl)))) qss_nil)
   (qss_cons (qs_set (i:=2) scCell.nd rfl (Or.inl rfl) (qe_op op_mod (qe_op op_mul qe_int (qe_op op_add (qe_op op_add (qe_op op_mul (qv 1) (qv 1)) (qe_op op_mul qe_int (qv 1))) qe_int)) qe_int))
   (qss_cons (qs_for PassesOwn.never rfl (qi_list (qe_slice sl_list (qv 0) qo_none (qo_some qe_int))) (qg_name (i:=3) scCell.nd rfl (Or.inl rfl))
    (qss_one (qs_set (i:=2) scCell.nd rfl (Or.inl rfl) (qe_op op_mod (qe_op op_add (qe_op op_mul (qv 2) qe_int) (qv 3)) qe_int))))
   (qss_one (qs_ret (qv 2)))))),?_⟩
  refine ⟨_,rfl,_,rfl,a,_,rfl,.inl hS,_,_,rfl,rfl,_,rfl,?_⟩
  refine ite2 (fun hc=>?_) (fun hc=>?_)
  ·have hlt:k < ns.length:=by
    have:=of_decide_eq_true hc
    rw [List.length_map] at this
    omega
   refine ⟨_,rfl,_,rfl,a,_,_,V.int ns[k],rfl,rfl,hS,atI_nat (by rw [List.getElem?_map,List.getElem?_eq_getElem hlt]; rfl),q _ _ (Same.refl _)⟩
  ·refine ⟨_,rfl,_,rfl,_,_,rfl,rfl,.inr ⟨by omega,by omega⟩,_,rfl,_,_,rfl,rfl,.inl ⟨by decide,by decide⟩,_,_,rfl,rfl,_,_,rfl,rfl,_,_,rfl,rfl,.inl ⟨by decide,by decide⟩,_,_,rfl,rfl,by show (0:Int) < 2147483647; decide,?_⟩
   refine ⟨_,rfl,_,rfl,a,_,rfl,hS,fun l hl=>?_⟩
   refine ⟨l,rfl,⟨_,SqL.of upd_same⟩,for_list (K:=K) (a:=l) (xs:=cutV (ns.map V.int) none (some 3)) (fun i σ H2=>H2=upd H l (.lst (cutV (ns.map V.int) none (some 3)))∧∃ (z:Int) (x3:Option V),σ=[some (.ref a),some (.int k),some (.int z),x3]) ⟨rfl,_,_,rfl⟩ (fun i σ H2 _ ⟨e,_⟩=>SqL.of (e▸upd_same)) ?_ ?_⟩
   ·rintro i v σ H2 hi ⟨rfl,z,x3,rfl⟩
    obtain ⟨c,rfl⟩:=cut_ints v (List.mem_of_getElem? hi)
    exact ⟨_,rfl,_,_,rfl,rfl,.inr ⟨by decide,by decide⟩,_,rfl,_,_,rfl,rfl,_,_,rfl,rfl,by show (0:Int) < 2147483647; decide,rfl,_,_,rfl⟩
   ·rintro σ H2 ⟨rfl,z,x3,rfl⟩
    exact ⟨_,rfl,q _ _ (same_new hl)⟩
theorem pickB {x y:Int} (b:Bool):atI [V.int x,V.int y] (if b then 1 else 0)=some (V.int (if b then y else x)):=by cases b <;> rfl
def spNums:Sp:=fun vs H Q _=>∃ (c:Int) (m:Nat),vs=[.int c,.int (m:Nat)]∧m≤1000∧∀ (l:Addr) (ns:List Int) (H':Hp),H l=none→Same H H'→H' l=some (.lst (ns.map V.int))→ns.length=m→(∀ x∈ns,0≤x∧x < 2000000000)→Q (.ref l) H'
theorem scLNumbers:FnScope ["_law_cell_here", "_law_many", "_law_found", "_law_state", "_law_digits", "_law_k"] ["_law_cell_here", "_law_many"] (defScope sLNumbers):=⟨rfl,rfl,rfl,by decide +kernel,rfl,by decide +kernel,by decide +kernel⟩
theorem ok_numbers {f:Addr} {fd:FuncData} (F:Fun K "_law_numbers" "_law_numbers" sLNumbers f fd) (T:TxtB mg):FnOk P w K mg base CX0 1 f fd ["_law_cell_here", "_law_many"] spNums:=by
 refine F.okQ scLNumbers (fun vs H Q E h=>?_) (fun cdv A outer s H vs Q E hr h=>?_)
 ·obtain ⟨c,m,rfl,_⟩:=h
  rfl
 ·obtain ⟨c,m,rfl,hm,q⟩:=h
  refine ⟨_,(qss_cons (qs_set (i:=2) scLNumbers.nd rfl (Or.inl rfl) (qe_lst qa_nil))
   (qss_cons (qs_set (i:=3) scLNumbers.nd rfl (Or.inl rfl) (qe_op op_mod (qe_op op_mul (qe_op op_add (qe_op op_mod (qv 0) qe_int) qe_int) qe_int) qe_int))
   (qss_cons (qs_set (i:=4) scLNumbers.nd rfl (Or.inl rfl) qe_int)
   (qss_cons (qs_if (QW.pt (qw_or (qt_cmpR op_lt (qv 0) qe_int (nomark _)) (qw_or1 (qt_cmpR op_ge (qv 0) (qe_op op_pow qe_int qe_int) (nomark _))))) (qss_one (qs_set (i:=4) scLNumbers.nd rfl (Or.inl rfl) (qe_callB call_abs (by rfl) T.abs PyProof.Rows.boot_abs (qac (qv 0) qa_nil)))) qss_nil)
   (qss_cons (qs_for PassesOwn.never rfl (qi_range1 rfl T.range (qac (qv 1) qa_nil)) (qg_name (i:=5) scLNumbers.nd rfl (Or.inl rfl))
    (qss_cons (qs_set (i:=3) scLNumbers.nd rfl (Or.inl rfl) (qe_op op_mod (qe_op op_add (qe_op op_add (qe_op op_mul (qv 3) (qe_op op_add (qe_op op_mod (qv 3) qe_int) qe_int)) (qe_op op_mul qe_int (qv 5))) qe_int) qe_int))
    (qss_cons (qs_expr (qe_bm PySem.F.plainAttrs_list PySem.F.slot_list_append PySem.F.type_list_append mt_append (qv 2) (qac (qe_ix ix_list (qe_lst (qac (qv 3) (qac (qe_op op_mod (qv 4) qe_int) qa_nil))) (qe_callTy call_int1 (by rfl) T.int PyProof.Rows.boot_int (qac (qe_cmpR op_gt (qv 4) qe_int (nomark _)) qa_nil)) (fun _ _=>rfl)) qa_nil)))
    (qss_one (qs_set (i:=4) scLNumbers.nd rfl (Or.inl rfl) (qe_op op_fdiv (qv 4) qe_int))))))
   (qss_one (qs_ret (qv 2)))))))),?_⟩
  refine ⟨by show 0≤sizeLine; decide,fun l hl=>?_⟩
  have big:(0:Int) < 1999999973:=by decide
  have c1:=Int.emod_nonneg c (show (1999999973:Int)≠0 by decide)
  have c2:=Int.emod_lt_of_pos c big
  refine ⟨_,rfl,_,_,rfl,rfl,(by show (0:Int) < 1999999973; decide),_,_,rfl,rfl,_,_,rfl,rfl,.inr ⟨by decide,by decide⟩,_,_,rfl,rfl,(by show (0:Int) < 1999999973; decide),?_⟩
  generalize hst:(c % 1999999973 + 31) * 765432101 % 1999999973=st0
  have st1:0≤st0∧st0 < 1999999973:=by
   rw [← hst]
   exact ⟨Int.emod_nonneg _ (by decide),Int.emod_lt_of_pos _ (by decide)⟩
  refine ⟨_,rfl,_,_,rfl,rfl,_,rfl,?_⟩
  obtain ⟨dg,hdg,hw⟩:∃ dg:Int,0≤dg∧((c < 0∧dg=(if c < 0 then -c else c))∨(¬ c < 0∧c≥10 ^ (18:Int).toNat∧dg=(if c < 0 then -c else c))∨(¬ c < 0∧¬ c≥10 ^ (18:Int).toNat∧dg=0)):=by
   by_cases h1:c < 0
   ·exact ⟨_,abs_nn c,.inl ⟨h1,rfl⟩⟩
   ·by_cases h2:c≥10 ^ (18:Int).toNat
    ·exact ⟨_,abs_nn c,.inr (.inl ⟨h1,h2,rfl⟩)⟩
    ·exact ⟨0,Int.le_refl 0,.inr (.inr ⟨h1,h2,rfl⟩)⟩
  rcases hw with ⟨h1,e⟩ | ⟨h1,h2,e⟩ | ⟨h1,h2,e⟩
  all_goals first | refine ifF h1 ⟨_,rfl,_,_,rfl,rfl,⟨by decide,by decide,by decide⟩,_,_,rfl,rfl,_,rfl,ifT h2 ⟨_,rfl,c,rfl,?_⟩⟩ | refine ifF h1 ⟨_,rfl,_,_,rfl,rfl,⟨by decide,by decide,by decide⟩,_,_,rfl,rfl,_,rfl,ifF h2 ?_⟩ | refine ifT h1 ⟨_,rfl,c,rfl,?_⟩
  all_goals
   refine ⟨_,rfl,((m:Nat):Int),rfl,by omega,by omega,for_range (n:=m) (fun i σ H2=>Same H H2∧∃ (ns:List Int) (sd dg:Int) (x:Option V),σ=[some (.int c),some (.int (m:Nat)),some (.ref l),some (.int sd),some (.int dg),x]∧H2 l=some (.lst (ns.map V.int))∧ns.length=i∧(∀ x∈ns,0≤x∧x < 2000000000)∧0≤sd∧sd < 1999999973∧0≤dg)
    ⟨same_new hl,[],st0,dg,none,by rw [e,← hst]; rfl,upd_same,rfl,by simp,st1.1,st1.2,hdg⟩ ?_ ?_⟩
   ·rintro i σ H2 hi ⟨s2,ns,sd,dg,x,rfl,hl2,hlen,hns,h1,h2,h3⟩
    have a1:=Int.emod_nonneg sd (show (65521:Int)≠0 by decide)
    have a2:=Int.emod_lt_of_pos sd (show (0:Int) < 65521 by decide)
    refine ⟨_,rfl,_,rfl,_,_,rfl,rfl,(by show (0:Int) < 65521; decide),_,_,rfl,rfl,_,_,rfl,rfl,.inl ⟨by omega,by omega⟩,_,rfl,_,_,rfl,rfl,.inl ⟨by decide,by decide⟩,_,_,rfl,rfl,_,_,rfl,rfl,_,_,rfl,rfl,(by show (0:Int) < 1999999973; decide),?_⟩
    refine ⟨_,rfl,.inl ⟨rfl,_,SqL.of hl2⟩,_,rfl,_,rfl,_,_,rfl,rfl,(by show (0:Int) < 1000000; decide),by show 2≤sizeLine; decide,fun t ht=>?_⟩
    refine ⟨_,rfl,_,_,rfl,rfl,.inr ⟨_,rfl,t,_,_,_,rfl,rfl,SqL.of upd_same,pickB _,l,_,_,rfl,rfl,(same_new ht) _ _ hl2,?_,?_⟩⟩
    ·rw [List.length_map,hlen]
     exact Nat.lt_of_lt_of_le hi (Nat.le_trans hm (by decide))
    refine ⟨_,rfl,_,_,rfl,rfl,⟨by decide,by decide⟩,same_upd (s2.trans (same_new ht)) hl,ns++[if decide (0 < dg)=true then dg % 1000000 else (sd * (sd % 65521 + 40487) + 7 * (0 + (i:Int)) + 5) % 1999999973],_,_,_,rfl,?_,?_,?_,?_,?_,?_⟩
    ·rw [List.map_append]
     exact upd_same
    ·rw [List.length_append,hlen]
     rfl
    ·intro y hy
     rcases List.mem_append.mp hy with z | z
     ·exact hns y z
     ·rw [List.mem_singleton.mp z]
      split
      ·exact ⟨Int.emod_nonneg _ (by decide),Int.lt_trans (Int.emod_lt_of_pos _ (by decide)) (by decide)⟩
      ·exact ⟨Int.emod_nonneg _ (by decide),Int.lt_trans (Int.emod_lt_of_pos _ (by decide)) (by decide)⟩
    ·exact Int.emod_nonneg _ (by decide)
    ·exact Int.emod_lt_of_pos _ (by decide)
    ·exact Int.ediv_nonneg h3 (by decide)
   ·rintro σ H2 ⟨s2,ns,sd,dg,x,rfl,hl2,hlen,hns,_⟩
    exact ⟨_,rfl,q l ns H2 hl s2 hl2 hlen hns⟩
theorem comp_list {K:PySem.W.Frag} {a:Addr} {xs:List V} {g:TG} {tc:TT} {te:TE} {σ':St} {H:Hp} {G:Addr→Hp→List V→Prop} (Pv:Nat→List V→Hp→Prop) (h0:Pv 0 [] H) (hl:∀ i ys H,i≤xs.length→Pv i ys H→SqL K H a xs)
  (hs:∀ i x ys H (N:List V→Hp→Prop),xs[i]?=some x→Pv i ys H→(∀ ys' H',Pv (i + 1) ys' H'→N ys' H')→g x σ' H fun σ2 H4=>Weak σ' σ2∧tc σ2 H4 fun b H5=>if b=true then te σ2 H5 fun y H6=>ys.length < sizeLine∧N (ys++[y]) H6 else N ys H5)
  (hd:∀ ys H,Pv xs.length ys H→ys.length≤sizeLine∧∀ p,H p=none→G p H ys) :
  ∃ W:Nat→Nat→List V→Hp→Prop,(∃ m,W 0 m [] H)∧∀ i m ys H2,W i m ys H2→
   ((Itl K a).stop i H2∧ys.length≤sizeLine∧∀ p,H2 p=none→G p H2 ys)∨
   ((Itl K a).go i H2∧∀ x H3,(Itl K a).yld i H2 x H3→g x σ' H3 fun σ2 H4=>Weak σ' σ2∧tc σ2 H4 fun b H5=>
    if b=true then te σ2 H5 fun y H6=>ys.length < sizeLine∧∃ m',m' < m∧W (i + 1) m' (ys++[y]) H6 else ∃ m',m' < m∧W (i + 1) m' ys H5):=by
 refine ⟨fun i m ys H=>m=xs.length - i∧i≤xs.length∧Pv i ys H,⟨xs.length,rfl,Nat.zero_le _,h0⟩,?_⟩
 rintro i m ys H2 ⟨rfl,hi,p⟩
 have q:=hl i ys H2 hi p
 by_cases hlt:i < xs.length
 ·refine .inr ⟨⟨xs,xs[i],q,by simp [hlt]⟩,fun x H' y=>?_⟩
  obtain ⟨e,y⟩:=y
  subst e
  exact hs i x ys _ (fun ys' H''=>∃ m',m' < xs.length - i∧m'=xs.length - (i + 1)∧i + 1≤xs.length∧Pv (i + 1) ys' H'') (y xs q) p (fun ys' H'' p'=>⟨_,by omega,rfl,hlt,p'⟩)
 ·have e:i=xs.length:=by omega
  subst e
  exact .inl ⟨⟨xs,q,Nat.le_refl _⟩,hd ys H2 p⟩
theorem comp_tup {K:PySem.W.Frag} {a:Addr} {xs:List V} {g:TG} {tc:TT} {te:TE} {σ':St} {H:Hp} {G:Addr→Hp→List V→Prop} (Pv:Nat→List V→Hp→Prop) (h0:Pv 0 [] H) (hl:∀ i ys H,i≤xs.length→Pv i ys H→SqT K H a xs)
  (hs:∀ i x ys H (N:List V→Hp→Prop),xs[i]?=some x→Pv i ys H→(∀ ys' H',Pv (i + 1) ys' H'→N ys' H')→g x σ' H fun σ2 H4=>Weak σ' σ2∧tc σ2 H4 fun b H5=>if b=true then te σ2 H5 fun y H6=>ys.length < sizeLine∧N (ys++[y]) H6 else N ys H5)
  (hd:∀ ys H,Pv xs.length ys H→ys.length≤sizeLine∧∀ p,H p=none→G p H ys) :
  ∃ W:Nat→Nat→List V→Hp→Prop,(∃ m,W 0 m [] H)∧∀ i m ys H2,W i m ys H2→
   ((Itt K a).stop i H2∧ys.length≤sizeLine∧∀ p,H2 p=none→G p H2 ys)∨
   ((Itt K a).go i H2∧∀ x H3,(Itt K a).yld i H2 x H3→g x σ' H3 fun σ2 H4=>Weak σ' σ2∧tc σ2 H4 fun b H5=>
    if b=true then te σ2 H5 fun y H6=>ys.length < sizeLine∧∃ m',m' < m∧W (i + 1) m' (ys++[y]) H6 else ∃ m',m' < m∧W (i + 1) m' ys H5):=by
 refine ⟨fun i m ys H=>m=xs.length - i∧i≤xs.length∧Pv i ys H,⟨xs.length,rfl,Nat.zero_le _,h0⟩,?_⟩
 rintro i m ys H2 ⟨rfl,hi,p⟩
 have q:=hl i ys H2 hi p
 by_cases hlt:i < xs.length
 ·refine .inr ⟨⟨xs,xs[i],q,by simp [hlt]⟩,fun x H' y=>?_⟩
  obtain ⟨e,y⟩:=y
  subst e
  exact hs i x ys _ (fun ys' H''=>∃ m',m' < xs.length - i∧m'=xs.length - (i + 1)∧i + 1≤xs.length∧Pv (i + 1) ys' H'') (y xs q) p (fun ys' H'' p'=>⟨_,by omega,rfl,hlt,p'⟩)
 ·have e:i=xs.length:=by omega
  subst e
  exact .inl ⟨⟨xs,q,Nat.le_refl _⟩,hd ys H2 p⟩
theorem at_ok {ns:List Int} {i:Nat} (h:i < ns.length):∃ x:Int,atI (ns.map V.int) (i:Int)=some (.int x)∧x∈ns:=⟨ns[i],atI_nat (by rw [List.getElem?_map,List.getElem?_eq_getElem h]; rfl),List.getElem_mem h⟩
def spRow (K:PySem.W.Frag):Sp:=fun vs H Q _=>∃ (a:Addr) (ns:List Int) (m:Nat),vs=[.ref a,.int (m:Nat)]∧SqL K H a (ns.map V.int)∧m≤ns.length∧m≤60∧∀ (l:Addr) (r:List Nat) (H':Hp),H l=none→Same H H'→H' l=some (.lst (nats r))→r.Perm (List.range m)→Q (.ref l) H'
theorem scLRow:FnScope ["_law_xs", "_law_many"] ["_law_xs", "_law_many"] (defScope sLRow):=⟨rfl,rfl,rfl,by decide +kernel,rfl,by decide +kernel,by decide +kernel⟩
theorem ok_row {f:Addr} {fd:FuncData} (F:Fun K "_law_row" "_law_row" sLRow f fd) (T:TxtB mg):FnOk P w K mg base CX0 1 f fd ["_law_xs", "_law_many"] (spRow K):=by
 refine F.okQ scLRow (fun vs H Q E h=>?_) (fun cdv A outer s H vs Q E hr h=>?_)
 ·obtain ⟨a,ns,m,rfl,_⟩:=h
  rfl
 ·obtain ⟨a,ns,m,rfl,hS,hm,hm60,q⟩:=h
  refine ⟨_,(qss_one (qs_ret (qe_comp (g:=gName 0) (N:=["_law_pair"]) (src:=[none]) rfl (comp_scope (defScope sLRow) ["_law_xs", "_law_many"] rfl rfl (by decide +kernel) rfl) (qi_list (qe_callB call_sortP (by rfl) T.sor (by decide +kernel) (qac (qe_comp (g:=gName 0) (N:=["_law_k", "_law_xs"]) (src:=[none,some 0]) rfl (comp_scope (defScope sLRow) ["_law_xs", "_law_many"] rfl rfl (by decide +kernel) rfl) (qi_range1 rfl T.range (qac (qv 1) qa_nil)) (fun _ _ _ _ _=>(qg_name (i:=0) (show (["_law_k", "_law_xs"]:List Str).Nodup by decide +kernel) rfl (Or.inl rfl) (Or.inr rfl))) (fun _ _ _ _ _=>qif_nil) (fun _ _ _ _ _=>(qe_tup (qac (qe_ix (show IxR _ (rIxL K) from ix_list) (qv 1) (qv 0) (fun _ _=>rfl)) (qac (qv 0) qa_nil))))) qa_nil))) (fun _ _ _ _ _=>(qg_name (i:=0) (show (["_law_pair"]:List Str).Nodup by decide +kernel) rfl (Or.inl rfl) (Or.inr rfl))) (fun _ _ _ _ _=>qif_nil) (fun _ _ _ _ _=>(qe_ix (show IxR _ (rIxT K) from ix_tup) (qv 0) qe_int (fun _ _=>rfl)))))),?_⟩
  refine ⟨_,rfl,((m:Nat):Int),rfl,by omega,by omega,comp_rng (lo:=0) (n:=m) (fun i ys H2=>Same H H2∧∃ ps:List (Int×Int),PrsAt H2 ys ps∧ps.map (·.2)=(List.range i).map fun k=>((k:Nat):Int)) ⟨Same.refl _,[],trivial,rfl⟩ ?_ ?_⟩
  ·rintro i ys H2 N hi ⟨s2,ps,hP,hps⟩ nx
   obtain ⟨x,e,_⟩:=at_ok (ns:=ns) (i:=i) (by omega)
   refine ⟨Weak.set (by intro v z; cases z),⟨_,rfl,_,rfl,a,_,_,.int x,rfl,rfl,s2.seq hS,by rw [Int.zero_add]; exact e,_,rfl,by show 2≤sizeLine; decide,fun t ht=>⟨?_,nx _ _ ⟨s2.trans (same_new ht),ps++[(x,((i:Nat):Int))],?_,?_⟩⟩⟩⟩
   ·have h1:=hP.len
    have h2:=congrArg List.length hps
    rw [List.length_map,List.length_map,List.length_range] at h2
    exact Nat.lt_of_le_of_lt (show ys.length≤60 by omega) (by decide)
   ·refine (hP.same (same_new ht)).snoc ?_
    rw [Int.zero_add]
    exact upd_same
   ·rw [List.map_append,hps,List.range_succ,List.map_append]
    rfl
  rintro ys H2 ⟨s2,ps,hP,hps⟩
  have hyl:ys.length=m:=by
   have h1:=hP.len
   have h2:=congrArg List.length hps
   rw [List.length_map,List.length_map,List.length_range] at h2
   omega
  refine ⟨by rw [hyl]; exact Nat.le_trans hm60 (by decide),fun r hr=>?_⟩
  have w1:=same_new (o:=.lst ys) hr
  refine ⟨r,ys,ps,rfl,SqL.of upd_same,hP.same w1,by omega,fun l vs' hl hpm=>?_⟩
  have w2:=same_new (o:=.lst vs') hl
  obtain ⟨ps',hP',hpp⟩:=((hP.same w1).same w2).perm hpm
  have hmem:∀ p∈ps',∃ k:Nat,p.2=((k:Nat):Int):=fun p hp=>by
   have:p.2∈ps.map (·.2):=List.mem_map_of_mem (hpp.mem_iff.mp hp)
   rw [hps] at this
   obtain ⟨k,_,e⟩:=List.mem_map.mp this
   exact ⟨k,e.symm⟩
  refine ⟨l,rfl,⟨_,SqL.of upd_same⟩,comp_list (K:=K) (xs:=vs') (fun i zs H3=>H3=upd (upd H2 r (.lst ys)) l (.lst vs')∧zs=nats ((ps'.take i).map fun p=>p.2.toNat)) ⟨rfl,rfl⟩ (fun i zs H3 _ ⟨e,_⟩=>SqL.of (e▸upd_same)) ?_ ?_⟩
  ·rintro i v zs H3 N hi ⟨rfl,rfl⟩ nx
   obtain ⟨b,p,rfl,hp,hb⟩:=hP'.get hi
   obtain ⟨k,hk⟩:=hmem p (List.mem_of_getElem? hp)
   have hil:i < vs'.length:=(List.getElem?_eq_some_iff.mp hi).1
   have hvl:=hpm.length_eq
   refine ⟨Weak.set (by intro v z; cases z),⟨_,rfl,b,_,1,.int p.2,rfl,rfl,SqT.of hb,rfl,?_,nx _ _ ⟨rfl,?_⟩⟩⟩
   ·rw [nats_len,List.length_map,List.length_take]
    exact Nat.lt_of_le_of_lt (show _≤60 by omega) (by decide)
   ·rw [List.take_add_one,hp,Option.toList_some,List.map_append,List.map_cons,List.map_nil,nats_snoc,hk,Int.toNat_natCast]
  rintro zs H3 ⟨rfl,rfl⟩
  have hlen':vs'.length=ps'.length:=hP'.len
  have hvl:=hpm.length_eq
  rw [hlen',List.take_length]
  refine ⟨by rw [nats_len,List.length_map]; exact Nat.le_trans (show ps'.length≤60 by omega) (by decide),fun l2 hl2=>?_⟩
  have w3:=same_new (o:=.lst (nats (ps'.map fun p=>p.2.toNat))) hl2
  have sA:=s2.trans (w1.trans w2)
  refine q l2 _ _ (sA.free hl2) (sA.trans w3) upd_same ?_
  have h1:=hpp.map fun p:Int×Int=>p.2.toNat
  have h2:(ps.map fun p:Int×Int=>p.2.toNat)=List.range m:=by
   have:(ps.map fun p:Int×Int=>p.2.toNat)=(ps.map (·.2)).map Int.toNat:=by rw [List.map_map]; rfl
   rw [this,hps,List.map_map]
   conv=>rhs; rw [← List.map_id (List.range m)]
   exact List.map_congr_left fun k _=>by simp
  rwa [h2] at h1
theorem inV_nats (p:Nat):∀ b:List Nat,inV (V.int ((p:Nat):Int)) (nats b)=decide (p∈b)
 | []=>rfl
 | x::b=>by
  have ih:=inV_nats p b
  unfold inV at ih ⊢
  unfold nats at ih ⊢
  rw [List.map_cons,List.any_cons,ih]
  by_cases h:x=p
  ·subst h
   simp [eqV]
  ·have:(eqV (V.int ((x:Nat):Int)) (V.int ((p:Nat):Int)))=false:=by simp [eqV]; omega
   rw [this,Bool.false_or]
   simp [List.mem_cons,Ne.symm h]
theorem flat_nats (b:List Nat):(nats b).all flatV=true:=by simp [nats,flatV]
theorem take_snoc {α:Type} {bs:List α} {i:Nat} {b:α} (h:bs[i]?=some b):bs.take (i + 1)=bs.take i++[b]:=by
 rw [List.take_add_one,h,Option.toList_some]
def Sq (n:Nat) (rs:List (List Nat)):Prop:=rs.length=n∧∀ r∈rs,r.length=n∧∀ x∈r,x < n
def SqQ (n:Nat) (H:Hp) (Q:V→Hp→Prop):Prop:=∀ (l:Addr) (ws:List V) (rs:List (List Nat)) (H':Hp),H l=none→Same H H'→H' l=some (.lst ws)→BlAt H' ws rs→Sq n rs→Q (.ref l) H'
def SqQF (n:Nat) (H:Hp) (Q:V→Hp→Prop):Prop:=∀ (l:Addr) (ws:List V) (rs:List (List Nat)) (H':Hp),H l=none→Same H H'→H' l=some (.lst ws)→BlAt H' ws rs→Sq n rs→(∀ b,V.ref b∈ws→b≠l∧H b=none)→Q (.ref l) H'
def spSquareF (K:PySem.W.Frag):Sp:=fun vs H Q _=>∃ (a:Addr) (ns:List Int) (n:Nat),vs=[.ref a,.int (n:Nat)]∧SqL K H a (ns.map V.int)∧22≤ns.length∧1≤n∧n≤7∧SqQF n H Q
def spSquare (K:PySem.W.Frag):Sp:=fun vs H Q _=>∃ (a:Addr) (ns:List Int) (n:Nat),vs=[.ref a,.int (n:Nat)]∧SqL K H a (ns.map V.int)∧22≤ns.length∧1≤n∧n≤7∧SqQ n H Q
theorem perm_at {r:List Nat} {m i:Nat} (hp:r.Perm (List.range m)) (hi:i < m):∃ x,atI (nats r) ((i:Nat):Int)=some (.int ((x:Nat):Int))∧x < m:=by
 have hl:r.length=m:=by rw [hp.length_eq,List.length_range]
 have hir:i < r.length:=by omega
 refine ⟨r[i],atI_nat ?_,?_⟩
 ·unfold nats
  rw [List.getElem?_map,List.getElem?_eq_getElem hir]
  rfl
 ·have:=hp.mem_iff.mp (List.getElem_mem hir)
  exact List.mem_range.mp this
theorem cut_ints_from {ns:List Int} {k:Nat} (hk:k≤ns.length):cutV (ns.map V.int) (some ((k:Nat):Int)) none=(ns.drop k).map V.int:=by
 rw [cut_from (by rw [List.length_map]; exact hk),List.map_drop]
theorem mod_max {x:Int} {n:Nat} (h7:n≤7):∃ t:Nat,1 + x % (if ((n:Nat):Int) - 1 > 1 then ((n:Nat):Int) - 1 else 1)=(t:Int)∧t≤7∧(0:Int) < (if ((n:Nat):Int) - 1 > 1 then ((n:Nat):Int) - 1 else 1):=by
 by_cases h:((n:Nat):Int) - 1 > 1
 ·rw [if_pos h]
  have h1:=Int.emod_nonneg x (show ((n:Nat):Int) - 1≠0 by omega)
  have h2:=Int.emod_lt_of_pos x (show (0:Int) < ((n:Nat):Int) - 1 by omega)
  exact ⟨(1 + x % (((n:Nat):Int) - 1)).toNat,by omega,by omega,by omega⟩
 ·rw [if_neg h]
  have h1:x % 1=0:=Int.emod_one x
  exact ⟨1,by rw [h1]; rfl,by decide,by decide⟩
theorem scLSquare:FnScope ["_law_xs", "_law_size", "_law_rows", "_law_columns", "_law_names", "_law_turn", "_law_found", "_law_r"] ["_law_xs", "_law_size"] (defScope sLSquare):=⟨rfl,rfl,rfl,by decide +kernel,rfl,by decide +kernel,by decide +kernel⟩
theorem ok_squareF {f:Addr} {fd:FuncData} (F:Fun K "_law_square" "_law_square" sLSquare f fd) (T:TxtB mg) (pLRow:Pm P w K mg base CX0 1 "_law_row" ["_law_xs", "_law_many"] (spRow K)):FnOk P w K mg base CX0 2 f fd ["_law_xs", "_law_size"] (spSquareF K):=by
 refine F.okQ scLSquare (fun vs H Q E h=>?_) (fun cdv A outer s H vs Q E hr1 h=>?_)
 ·obtain ⟨a,ns,n,rfl,_⟩:=h
  rfl
 ·obtain ⟨a,ns,n,rfl,hS,h22,hn1,hn7,q⟩:=h
  refine ⟨_,(qss_cons (qs_set (i:=2) scLSquare.nd rfl (Or.inr rfl) (qe_callP pLRow hr1 rfl pass0 (qac (qv 0) (qac (qv 1) qa_nil))))
   (qss_cons (qs_set (i:=3) scLSquare.nd rfl (Or.inr rfl) (qe_callP pLRow hr1 rfl pass0 (qac (qe_slice sl_list (qv 0) (qo_some qe_int) qo_none) (qac (qv 1) qa_nil))))
   (qss_cons (qs_set (i:=4) scLSquare.nd rfl (Or.inr rfl) (qe_callP pLRow hr1 rfl pass0 (qac (qe_slice sl_list (qv 0) (qo_some qe_int) qo_none) (qac (qv 1) qa_nil))))
   (qss_cons (qs_set (i:=5) scLSquare.nd rfl (Or.inr rfl) (qe_op op_add qe_int (qe_op op_mod (qe_ix ix_list (qv 0) qe_int (fun _ _=>rfl)) (qe_callB (call_max2 rfl) (by rfl) T.max PyProof.Rows.boot_max (qac qe_int (qac (qe_op op_sub (qv 1) qe_int) qa_nil))))))
   (qss_cons (qs_set (i:=6) scLSquare.nd rfl (Or.inl rfl) (qe_lst qa_nil))
   (qss_cons (qs_for PassesOwn.never rfl (qi_range1 rfl T.range (qac (qv 1) qa_nil)) (qg_name (i:=7) scLSquare.nd rfl (Or.inr rfl))
    (qss_one (qs_expr (qe_bm PySem.F.plainAttrs_list PySem.F.slot_list_append PySem.F.type_list_append mt_append (qv 6) (qac (qe_comp (g:=gName 0) (N:=["_law_c", "_law_size", "_law_rows", "_law_columns", "_law_names", "_law_turn", "_law_r"]) (src:=[none,some 1,some 2,some 3,some 4,some 5,some 7]) rfl (comp_scope (defScope sLSquare) ["_law_xs", "_law_size", "_law_rows", "_law_columns", "_law_names", "_law_turn", "_law_found", "_law_r"] rfl rfl (by decide +kernel) rfl) (qi_range1 rfl T.range (qac (qv 1) qa_nil)) (fun _ _ _ _ _=>(qg_name (i:=0) (show (["_law_c", "_law_size", "_law_rows", "_law_columns", "_law_names", "_law_turn", "_law_r"]:List Str).Nodup by decide +kernel) rfl (Or.inl rfl) (Or.inr rfl))) (fun _ _ _ _ _=>qif_nil) (fun _ _ _ _ _=>(qe_ix (show IxR _ (rIxL K) from ix_list) (qv 4) (qe_op op_mod (qe_op op_add (qe_op op_mul (qv 5) (qe_ix (show IxR _ (rIxL K) from ix_list) (qv 2) (qv 6) (fun _ _=>rfl))) (qe_ix (show IxR _ (rIxL K) from ix_list) (qv 3) (qv 0) (fun _ _=>rfl))) (qv 1)) (fun _ _=>rfl)))) qa_nil)))))
   (qss_one (qs_ret (qv 6))))))))),?_⟩
  refine ⟨_,rfl,_,rfl,a,ns,n,rfl,hS,by omega,by omega,fun l1 r1 H1 hl1 s1 h1 p1=>?_⟩
  refine ⟨_,rfl,_,rfl,a,_,rfl,s1.seq hS,fun b2 hb2=>?_⟩
  rw [show cutV (ns.map V.int) (some 7) none=(ns.drop 7).map V.int from cut_ints_from (k:=7) (by omega)]
  have w2:=same_new (o:=.lst ((ns.drop 7).map V.int)) hb2
  refine ⟨_,rfl,b2,ns.drop 7,n,rfl,SqL.of upd_same,by rw [List.length_drop]; omega,by omega,fun l2 r2 H2 hl2 s2 h2 p2=>?_⟩
  have s12:=s1.trans (w2.trans s2)
  refine ⟨_,rfl,_,rfl,a,_,rfl,s12.seq hS,fun b3 hb3=>?_⟩
  rw [show cutV (ns.map V.int) (some 14) none=(ns.drop 14).map V.int from cut_ints_from (k:=14) (by omega)]
  have w3:=same_new (o:=.lst ((ns.drop 14).map V.int)) hb3
  refine ⟨_,rfl,b3,ns.drop 14,n,rfl,SqL.of upd_same,by rw [List.length_drop]; omega,by omega,fun l3 r3 H3 hl3 s3 h3 p3=>?_⟩
  have s13:=s12.trans (w3.trans s3)
  obtain ⟨x,ex,_⟩:=at_ok (ns:=ns) (i:=21) (by omega)
  obtain ⟨t,ht,ht7,hpos⟩:=mod_max (x:=x) hn7
  refine ⟨_,rfl,a,_,21,.int x,rfl,rfl,s13.seq hS,ex,_,rfl,_,_,rfl,rfl,_,_,rfl,_,_,rfl,rfl,hpos,_,_,rfl,rfl,?_⟩
  dsimp only
  rw [ht]
  refine ⟨by show 0≤sizeLine; decide,fun l hl=>?_⟩
  have w4:=same_new (o:=.lst []) hl
  have hl0:H l=none:=s13.free hl
  have g1:H3 l1=some (.lst (nats r1)):=(w2.trans (s2.trans (w3.trans s3))) _ _ h1
  have g2:H3 l2=some (.lst (nats r2)):=(w3.trans s3) _ _ h2
  refine ⟨_,rfl,((n:Nat):Int),rfl,by omega,by omega,for_range (lo:=0) (n:=n) (fun i σ Hx=>Same H3 Hx∧(∃ x7,σ=[some (.ref a),some (.int (n:Nat)),some (.ref l1),some (.ref l2),some (.ref l3),some (.int (t:Nat)),some (.ref l),x7])∧∃ ws rs,Hx l=some (.lst ws)∧BlAt Hx ws rs∧rs.length=i∧(∀ b,V.ref b∈ws→b≠l∧H b=none)∧∀ r∈rs,r.length=n∧∀ x∈r,x < n) ⟨w4,⟨none,rfl⟩,[],[],upd_same,trivial,rfl,by simp,by simp⟩ ?_ ?_⟩
  ·rintro i σ Hx hi ⟨sx,⟨x7,rfl⟩,ws,rs,hlx,hB,hrl,hwl,hrs⟩
   rw [Int.zero_add]
   refine ⟨_,rfl,.inl ⟨rfl,_,SqL.of hlx⟩,_,rfl,((n:Nat):Int),rfl,by omega,by omega,comp_rng (lo:=0) (n:=n) (fun j us H5=>H5=Hx∧∃ c:List Nat,us=nats c∧c.length=j∧∀ x∈c,x < n) ⟨rfl,[],rfl,rfl,by simp⟩ ?_ ?_⟩
   ·rintro j us H5 N hj ⟨rfl,c,rfl,hcl,hc⟩ nx
    obtain ⟨x1,e1,hx1⟩:=perm_at p1 hi
    obtain ⟨x2,e2,hx2⟩:=perm_at p2 hj
    obtain ⟨x3,e3,hx3⟩:=perm_at p3 (i:=(t * x1 + x2) % n) (Nat.mod_lt _ (by omega))
    have e3':atI (nats r3) (((t:Nat):Int) * ((x1:Nat):Int) + ((x2:Nat):Int))=atI (nats r3) (((t:Nat):Int) * ((x1:Nat):Int) + ((x2:Nat):Int)):=rfl
    refine ⟨Weak.set (by intro v z; cases z),⟨_,rfl,_,rfl,_,rfl,_,rfl,l1,_,_,_,rfl,rfl,SqL.of (sx _ _ g1),e1,_,_,rfl,rfl,?_,_,rfl,_,rfl,l2,_,_,_,rfl,rfl,SqL.of (sx _ _ g2),by rw [Int.zero_add]; exact e2,_,_,rfl,rfl,_,rfl,_,_,rfl,rfl,by omega,l3,_,_,.int ((x3:Nat):Int),rfl,rfl,SqL.of (sx _ _ h3),?_,?_,nx _ _ ⟨rfl,c++[x3],by rw [nats_snoc],by rw [List.length_append,hcl]; rfl,?_⟩⟩⟩
    ·exact .inl ⟨by omega,by omega⟩
    ·rw [show ((((t:Nat):Int) * ((x1:Nat):Int) + ((x2:Nat):Int)) % ((n:Nat):Int))=(((t * x1 + x2) % n:Nat):Int) by simp]
     exact e3
    ·rw [nats_len,hcl]
     exact Nat.lt_of_lt_of_le hj (Nat.le_trans hn7 (by decide))
    ·intro y hy
     rcases List.mem_append.mp hy with z | z
     ·exact hc y z
     ·rw [List.mem_singleton.mp z]
      exact hx3
   ·rintro us H5 ⟨rfl,c,rfl,hcl,hc⟩
    refine ⟨by rw [nats_len,hcl]; exact Nat.le_trans hn7 (by decide),fun d hd=>?_⟩
    have v1:=same_new (o:=.lst (nats c)) hd
    have hdl:d≠l:=fun z=>by
     rw [z,hlx] at hd
     cases hd
    have hB2:=(hB.same v1).snoc (a:=d) (b:=c) upd_same
    refine ⟨l,ws,.ref d,rfl,rfl,v1 _ _ hlx,by rw [hB.len,hrl]; exact Nat.lt_of_lt_of_le hi (Nat.le_trans hn7 (by decide)),?_⟩
    refine ⟨same_upd (sx.trans v1) hl,⟨_,rfl⟩,ws++[.ref d],rs++[c],upd_same,?_,by rw [List.length_append,hrl]; rfl,?_,?_⟩
    ·refine hB2.imp fun b xs hb hb'=>?_
     rw [upd_ne ?_]
     ·exact hb'
     ·rcases List.mem_append.mp hb with z | z
      ·exact (hwl b z).1
      ·rw [List.mem_singleton] at z
       cases z
       exact hdl
    ·intro b hb
     rcases List.mem_append.mp hb with z | z
     ·exact hwl b z
     ·rw [List.mem_singleton] at z
      cases z
      exact ⟨hdl,(s13.trans sx).free hd⟩
    ·intro r hr'
     rcases List.mem_append.mp hr' with z | z
     ·exact hrs r z
     ·rw [List.mem_singleton.mp z]
      exact ⟨hcl,hc⟩
  ·rintro σ Hx ⟨sx,⟨x7,rfl⟩,ws,rs,hlx,hB,hrl,hwl,hrs⟩
   exact ⟨_,rfl,q l ws rs _ hl0 (s13.trans sx) hlx hB ⟨hrl,hrs⟩ hwl⟩
theorem ok_square {f:Addr} {fd:FuncData} (F:Fun K "_law_square" "_law_square" sLSquare f fd) (T:TxtB mg) (pLRow:Pm P w K mg base CX0 1 "_law_row" ["_law_xs", "_law_many"] (spRow K)):FnOk P w K mg base CX0 2 f fd ["_law_xs", "_law_size"] (spSquare K):=
 (ok_squareF F T pLRow).imp fun vs H Q E ⟨a,ns,n,e,h1,h2,h3,h4,q⟩=>⟨a,ns,n,e,h1,h2,h3,h4,fun l ws rs H' b1 b2 b3 b4 b5 _=>q l ws rs H' b1 b2 b3 b4 b5⟩
theorem bl_at {H:Hp} {n k:Nat} {ws:List V} {rs:List (List Nat)} (hB:BlAt H ws rs) (hs:Sq n rs) (hk:k < n):∃ a r,atI ws ((k:Nat):Int)=some (.ref a)∧rs[k]?=some r∧H a=some (.lst (nats r))∧r.length=n∧∀ x∈r,x < n:=by
 have hl:=hB.len
 have hk2:k < ws.length:=by rw [hl,hs.1]; exact hk
 obtain ⟨a,r,e,hr,ha⟩:=hB.get (List.getElem?_eq_getElem hk2)
 have hm:=hs.2 r (List.mem_of_getElem? hr)
 exact ⟨a,r,atI_nat (by rw [List.getElem?_eq_getElem hk2,e]),hr,ha,hm.1,hm.2⟩
theorem nat_at {r:List Nat} {k:Nat} (hk:k < r.length):atI (nats r) ((k:Nat):Int)=some (.int ((r[k]:Nat):Int)):=by
 refine atI_nat ?_
 unfold nats
 rw [List.getElem?_map,List.getElem?_eq_getElem hk]
 rfl
def spMust0:Sp:=fun vs H Q _=>∃ n:Nat,vs=[.int ((n:Nat):Int)]∧Q .non H
theorem scMust:FnScope ["thing"] ["thing"] (defScope sMust):=⟨rfl,rfl,rfl,by decide +kernel,rfl,by decide +kernel,by decide +kernel⟩
theorem ok_must0 {f:Addr} {fd:FuncData} (F:Fun K "must_be_whole" "must_be_whole" sMust f fd) (pWhole:Pm P w K mg base CX0 1 "is_whole" ["thing"] (spWhole K)):FnOk P w K mg base CX0 2 f fd ["thing"] spMust0:=by
 refine F.okQ scMust (fun vs H Q E h=>?_) (fun cdv A outer s H vs Q E hr1 h=>?_)
 ·obtain ⟨n,rfl,_⟩:=h
  rfl
 ·obtain ⟨n,rfl,q⟩:=h
  refine ⟨_,(qss_one (qs_if (qt_not (qt_val (qe_callP pWhole hr1 rfl pass0 (qac (qv 0) qa_nil)))) qss_never qss_nil)),?_⟩
  exact ⟨_,rfl,_,true,rfl,.int _,true,rfl,iteF q⟩
def spFrom0:Sp:=fun vs H Q _=>∃ n:Nat,vs=[.int 0,.int ((n:Nat):Int)]∧Q .non H
theorem scFrom:FnScope ["least", "thing"] ["least", "thing"] (defScope sFrom):=⟨rfl,rfl,rfl,by decide +kernel,rfl,by decide +kernel,by decide +kernel⟩
theorem ok_from0 {f:Addr} {fd:FuncData} (F:Fun K "must_be_from" "must_be_from" sFrom f fd) (pMust:Pm P w K mg base CX0 2 "must_be_whole" ["thing"] spMust0):FnOk P w K mg base CX0 3 f fd ["least", "thing"] spFrom0:=by
 refine F.okQ scFrom (fun vs H Q E h=>?_) (fun cdv A outer s H vs Q E hr2 h=>?_)
 ·obtain ⟨n,rfl,_⟩:=h
  rfl
 ·obtain ⟨n,rfl,q⟩:=h
  refine ⟨_,(qss_cons (qs_expr (qe_callP pMust hr2 rfl pass0 (qac (qv 1) qa_nil))) (qss_one (qs_if (qt_cmpR op_lt (qv 1) (qv 0) (nomark _)) qss_never qss_nil))),?_⟩
  exact ⟨_,rfl,n,rfl,_,rfl,_,rfl,_,_,rfl,rfl,_,rfl,ifF (by show ¬((n:Nat):Int) < 0; omega) q⟩
def spRoot0:Sp:=fun vs H Q _=>∃ n:Nat,vs=[.int ((n:Nat):Int)]∧n≤1000∧∀ r:Nat,r * r≤n→n < (r + 1) * (r + 1)→Q (.int ((r:Nat):Int)) H
theorem scRoot:FnScope ["n", "root"] ["n"] (defScope sRoot):=⟨rfl,rfl,rfl,by decide +kernel,rfl,by decide +kernel,by decide +kernel⟩
theorem ok_root0 {f:Addr} {fd:FuncData} (F:Fun K "root_of" "root_of" sRoot f fd) (pFrom:Pm P w K mg base CX0 3 "must_be_from" ["least", "thing"] spFrom0):FnOk P w K mg base CX0 4 f fd ["n"] spRoot0:=by
 refine F.okQ scRoot (fun vs H Q E h=>?_) (fun cdv A outer s H vs Q E hr3 h=>?_)
 ·obtain ⟨n,rfl,_⟩:=h
  rfl
 ·obtain ⟨n,rfl,hn,k⟩:=h
  refine ⟨_,(qss_cons (qs_expr (qe_callP pFrom hr3 rfl pass0 (qac qe_int (qac (qv 0) qa_nil))))
   (qss_cons (qs_set (i:=1) scRoot.nd rfl (Or.inl rfl) (qv 0))
   (qss_cons (qs_while PassesOwn.never (qt_cmpR op_gt (qe_op op_mul (qv 1) (qv 1)) (qv 0) (nomark _))
    (qss_one (qs_set (i:=1) scRoot.nd rfl (Or.inl rfl) (qe_op op_fdiv (qe_op op_add (qv 1) (qe_op op_fdiv (qv 0) (qv 1))) qe_int))))
   (qss_one (qs_ret (qv 1)))))),?_⟩
  refine ⟨_,rfl,n,rfl,_,rfl,?_⟩
  refine while_w (fun σ H2=>H2=H∧∃ r:Nat,σ=[some (.int (n:Nat)),some (.int (r:Nat))]∧r≤n∧n < (r + 1) * (r + 1))
   (fun σ _=>match σ with | [_,some (.int r)]=>r.toNat | _=>0) ⟨rfl,n,rfl,Nat.le_refl n,by rw [Nat.mul_add,Nat.mul_one]; omega⟩ ?_
  rintro m σ H2 ⟨rfl,r,rfl,hr1,hr2⟩ hm
  refine ⟨_,rfl,_,rfl,_,_,rfl,rfl,.inl ⟨by omega,by omega⟩,_,rfl,_,_,rfl,rfl,_,rfl,?_⟩
  refine ite2 (fun hc=>WTurn.of ?_) (fun hc=>?_)
  ·have hc':n < r * r:=by
    have:=of_decide_eq_true hc
    exact Int.ofNat_lt.mp (by rw [Int.natCast_mul]; exact this)
   have r0:1≤r:=by
    rcases Nat.eq_zero_or_pos r with z | z
    ·subst z
     simp at hc'
    ·exact z
   refine ⟨_,rfl,_,rfl,_,rfl,_,_,rfl,rfl,⟨by omega,by omega⟩,_,_,rfl,rfl,_,_,rfl,rfl,⟨by decide,by decide⟩,⟨rfl,(r + n / r) / 2,rfl,?_,EM.newton r0⟩,?_⟩
   ·have:=EM.newton_less hc'
    omega
   ·rw [hm]
    have e:((r:Int) + (n:Int) / (r:Int)) / 2=(((r + n / r) / 2:Nat):Int):=rfl
    show (((r:Int) + (n:Int) / (r:Int)) / 2).toNat < (r:Int).toNat
    rw [e,Int.toNat_natCast,Int.toNat_natCast]
    exact EM.newton_less hc'
  ·have hc':r * r≤n:=by
    have hc2:decide (((n:Nat):Int) < ((r:Nat):Int) * ((r:Nat):Int))=false:=by simpa using hc
    have:=of_decide_eq_false hc2
    rw [← Int.natCast_mul] at this
    omega
   exact ⟨_,rfl,k r hc' hr2⟩
def cw (L:List Nat) (x:Nat):List Nat:=(List.range L.length).filter fun c=>decide (L.getD c 0=x)
def cwK (L:List Nat) (x i:Nat):List Nat:=(List.range i).filter fun c=>decide (L.getD c 0=x)
theorem cwK_snoc {L:List Nat} {x i y:Nat} (h:L[i]?=some y):cwK L x (i + 1)=cwK L x i++if y=x then [i] else []:=by
 unfold cwK
 rw [List.range_succ,List.filter_append]
 congr 1
 by_cases hx:y=x
 ·rw [if_pos hx]
  simp [h,hx]
 ·rw [if_neg hx]
  simp [h,hx]
theorem cwK_le (L:List Nat) (x i:Nat):(cwK L x i).length≤i:=Nat.le_trans (List.length_filter_le ..) (by rw [List.length_range]; exact Nat.le_refl _)
def spCw:Sp:=fun vs H Q _=>∃ (l:Addr) (L:List Nat) (x:Nat),vs=[.ref l,.int ((x:Nat):Int)]∧H l=some (.lst (nats L))∧L.length≤100∧∀ (t:Addr) (H':Hp),H t=none→Same H H'→H' t=some (.tup (nats (cw L x)))→Q (.ref t) H'
theorem scCellsWith:FnScope ["numbers", "number"] ["numbers", "number"] (defScope sCellsWith):=⟨rfl,rfl,rfl,by decide +kernel,rfl,by decide +kernel,by decide +kernel⟩
theorem ok_cw {f:Addr} {fd:FuncData} (F:Fun K "cells_with" "cells_with" sCellsWith f fd) (T:TxtB mg):FnOk P w K mg base CX0 1 f fd ["numbers", "number"] spCw:=by
 refine F.okQ scCellsWith (fun vs H Q E h=>?_) (fun cdv A outer s H vs Q E hr1 h=>?_)
 ·obtain ⟨l,L,x,rfl,_⟩:=h
  rfl
 ·obtain ⟨l,L,x,rfl,hl,hL,q⟩:=h
  refine ⟨_,(qss_one (qs_ret (qe_callTy call_tuple_of (by rfl) T.tup (by decide +kernel) (qac (qe_comp (g:=gTup K 2 (gCons (gName 0) (gCons (gName 1) gNil))) (N:=["cell", "other", "number"]) (src:=[none,none,some 1]) rfl (comp_scope (defScope sCellsWith) ["numbers", "number"] rfl rfl (by decide +kernel) rfl) (qi_enum rfl T.enu (qac (qv 0) qa_nil)) (fun _ _ _ _ _=>(show QG _ _ (gTup K 2 _) from qg_tup rfl (qgs_cons (qg_name (i:=0) (show (["cell", "other", "number"]:List Str).Nodup by decide +kernel) rfl (Or.inl rfl) (Or.inr rfl)) (qgs_cons (qg_name (i:=1) (show (["cell", "other", "number"]:List Str).Nodup by decide +kernel) rfl (Or.inl rfl) (Or.inr rfl)) qgs_nil)))) (fun _ _ _ _ _=>(qif_one (qt_cmpR op_eq (qv 1) (qv 2) (nomark _)))) (fun _ _ _ _ _=>(qv 0))) qa_nil)))),?_⟩
  refine ⟨_,rfl,l,rfl,⟨_,SqL.of hl⟩,comp_enum (K:=K) (a:=l) (xs:=nats L) (fun i zs H2=>Same H H2∧zs=nats (cwK L x i)) ⟨Same.refl _,rfl⟩ (fun i zs H2 _ ⟨e,_⟩=>SqL.of (e _ _ hl)) ?_ ?_⟩
  ·rintro i v u zs H2 N hi ⟨s2,rfl⟩ hu nx
   obtain ⟨y,hy,rfl⟩:=L2.nats_get hi
   have hil:=(List.getElem?_eq_some_iff.mp hy).1
   have w1:=same_new (o:=.tup [.int ((i:Nat):Int),.int ((y:Nat):Int)]) hu
   have e:=cwK_snoc (x:=x) hy
   refine ⟨u,_,rfl,SqT.of upd_same,rfl,_,_,rfl,_,_,rfl,rfl,(Weak.set (by intro v z; cases z)).trans (Weak.set (by intro v z; cases z)),?_⟩
   refine ⟨_,rfl,_,rfl,rfl,_,rfl,?_⟩
   by_cases h:y=x
   ·subst h
    rw [if_pos rfl] at e
    refine ifT rfl ⟨_,rfl,?_,nx _ _ ⟨s2.trans w1,by rw [e,nats_snoc]⟩⟩
    rw [nats_len]
    exact Nat.lt_of_le_of_lt (cwK_le L y i) (Nat.lt_of_lt_of_le (show i < 101 by omega) (by decide))
   ·rw [if_neg h,List.append_nil] at e
    exact ifF (fun z=>h (by injection z with z; exact Int.ofNat.inj z)) (nx _ _ ⟨s2.trans w1,by rw [e]⟩)
  ·rintro zs H2 ⟨s2,rfl⟩
   rw [nats_len L]
   refine ⟨by rw [nats_len]; exact Nat.le_trans (cwK_le ..) (Nat.le_trans hL (by decide)),fun r hr'=>⟨r,_,rfl,.inl ⟨SqL.of upd_same,fun t ht=>?_⟩⟩⟩
   have w2:=same_new (o:=.lst (nats (cwK L x L.length))) hr'
   exact q t _ ((s2.trans w2).free ht) (s2.trans (w2.trans (same_new ht))) upd_same
def spBbn:Sp:=fun vs H Q _=>∃ (l:Addr) (n:Nat) (L:List Nat),vs=[.int ((n:Nat):Int),.ref l]∧H l=some (.lst (nats L))∧L.length≤100∧n≤60∧∀ (t:Addr) (ws:List V) (H':Hp),H t=none→Same H H'→H' t=some (.lst ws)→TpAt H' ws ((List.range n).map (cw L))→Q (.ref t) H'
theorem scBlocksByNumber:FnScope ["size", "numbers"] ["size", "numbers"] (defScope sBlocksByNumber):=⟨rfl,rfl,rfl,by decide +kernel,rfl,by decide +kernel,by decide +kernel⟩
theorem ok_bbn {f:Addr} {fd:FuncData} (F:Fun K "blocks_by_number" "blocks_by_number" sBlocksByNumber f fd) (T:TxtB mg) (pCellsWith:Pm P w K mg base CX0 1 "cells_with" ["numbers", "number"] spCw):FnOk P w K mg base CX0 2 f fd ["size", "numbers"] spBbn:=by
 refine F.okQ scBlocksByNumber (fun vs H Q E h=>?_) (fun cdv A outer s H vs Q E hr1 h=>?_)
 ·obtain ⟨l,n,L,rfl,_⟩:=h
  rfl
 ·obtain ⟨l,n,L,rfl,hl,hL,hn,q⟩:=h
  refine ⟨_,(qss_one (qs_ret (qe_comp (g:=gName 0) (N:=["number", "numbers"]) (src:=[none,some 1]) rfl (comp_scope (defScope sBlocksByNumber) ["size", "numbers"] rfl rfl (by decide +kernel) rfl) (qi_range1 rfl T.range (qac (qv 0) qa_nil)) (fun _ _ _ _ _=>(qg_name (i:=0) (show (["number", "numbers"]:List Str).Nodup by decide +kernel) rfl (Or.inl rfl) (Or.inr rfl))) (fun _ _ _ _ _=>qif_nil) (fun _ _ _ _ _=>(qe_callP pCellsWith hr1 rfl pass0 (qac (qv 1) (qac (qv 0) qa_nil))))))),?_⟩
  refine ⟨_,rfl,((n:Nat):Int),rfl,by omega,by omega,?_⟩
  rw [Int.toNat_natCast]
  refine comp_rng (lo:=0) (n:=n) (fun i ys H2=>Same H H2∧TpAt H2 ys ((List.range i).map (cw L))) ⟨Same.refl _,trivial⟩ ?_ ?_
  ·rintro i ys H2 N hi ⟨s2,hT⟩ nx
   rw [Int.zero_add]
   refine ⟨Weak.set (by intro v z; cases z),⟨_,rfl,_,rfl,l,L,i,rfl,s2 _ _ hl,hL,fun t H' ht s' ht'=>⟨?_,nx _ _ ⟨s2.trans s',?_⟩⟩⟩⟩
   ·rw [hT.len,List.length_map,List.length_range]
    exact Nat.lt_of_lt_of_le (show i < 61 by omega) (by decide)
   ·rw [List.range_succ,List.map_append]
    exact (hT.sm s').snoc ht'
  ·rintro ys H2 ⟨s2,hT⟩
   exact ⟨by rw [hT.len,List.length_map,List.length_range]; exact Nat.le_trans hn (by decide),fun r hr=>q r ys _ (s2.free hr) (s2.trans (same_new hr)) upd_same (hT.sm (same_new hr))⟩
def TupSq (H:Hp) (a:Addr) (rs:List (List Nat)):Prop:=∃ ws,H a=some (.tup ws)∧TpAt H ws rs
theorem TupSq.sm {H H':Hp} {a:Addr} {rs:List (List Nat)} (s:Same H H') (h:TupSq H a rs):TupSq H' a rs:=by
 obtain ⟨ws,h1,h2⟩:=h
 exact ⟨ws,s _ _ h1,h2.sm s⟩
def SqsAt (H:Hp):List V→List (List (List Nat))→Prop
 | [],[]=>True
 | v::vs,rs::sqs=>(∃ a,v=.ref a∧TupSq H a rs)∧SqsAt H vs sqs
 | _,_=>False
theorem SqsAt.len {H:Hp}:∀ {vs:List V} {sqs:List (List (List Nat))},SqsAt H vs sqs→vs.length=sqs.length
 | [],[],_=>rfl
 | _::_,_::_,⟨_,r⟩=>by rw [List.length_cons,List.length_cons,r.len]
theorem SqsAt.sm {H H':Hp} (s:Same H H'):∀ {vs:List V} {sqs:List (List (List Nat))},SqsAt H vs sqs→SqsAt H' vs sqs
 | [],[],_=>trivial
 | _::_,_::_,⟨⟨a,e,h⟩,r⟩=>⟨⟨a,e,h.sm s⟩,r.sm s⟩
theorem SqsAt.get {H:Hp}:∀ {vs:List V} {sqs:List (List (List Nat))} {i:Nat} {v:V},SqsAt H vs sqs→vs[i]?=some v→∃ a rs,v=.ref a∧sqs[i]?=some rs∧TupSq H a rs
 | _::_,rs::_,0,_,⟨⟨a,e,h⟩,_⟩,hv=>by
  cases hv
  exact ⟨a,rs,e,rfl,h⟩
 | _::_,_::_,i + 1,v,⟨_,r⟩,hv=>by
  rw [List.getElem?_cons_succ] at hv
  obtain ⟨a,rs,h1,h2,h3⟩:=r.get hv
  exact ⟨a,rs,h1,by rw [List.getElem?_cons_succ]; exact h2,h3⟩
theorem SqsAt.snoc {H:Hp} {a:Addr} {rs:List (List Nat)} (h:TupSq H a rs):∀ {vs:List V} {sqs:List (List (List Nat))},SqsAt H vs sqs→SqsAt H (vs++[.ref a]) (sqs++[rs])
 | [],[],_=>⟨⟨a,rfl,h⟩,trivial⟩
 | _::_,_::_,⟨q,r⟩=>⟨q,r.snoc h⟩
def fS (n:Nat) (rs:List (List Nat)) (c:Nat):Nat:=(rs.getD (c / n) []).getD (c % n) 0
def clsF (n:Nat) (f:Nat→Nat):List (List Nat):=(List.range n).map fun x=>(List.range (n * n)).filter fun c=>decide (f c=x)
theorem cls_cw (n:Nat) (f:Nat→Nat):(List.range n).map (cw ((List.range (n * n)).map f))=clsF n f:=by
 unfold clsF cw
 refine List.map_congr_left fun x _=>?_
 rw [List.length_map,List.length_range]
 refine List.filter_congr fun c hc=>?_
 have hc:=List.mem_range.mp hc
 simp [hc]
def netL (n:Nat) (sqs:List (List (List Nat))):List (List Nat):=clsF n (· / n)++clsF n (· % n)++sqs.flatMap fun rs=>clsF n (fS n rs)
theorem cls_len (n:Nat) (f:Nat→Nat):(clsF n f).length=n:=by unfold clsF; rw [List.length_map,List.length_range]
theorem net_len (n:Nat) (sqs:List (List (List Nat))):(netL n sqs).length=n * (2 + sqs.length):=by
 unfold netL
 rw [List.length_append,List.length_append,cls_len,cls_len]
 induction sqs with
 | nil=>simp; omega
 | cons rs sqs ih=>
  rw [List.flatMap_cons,List.length_append,cls_len,List.length_cons,Nat.mul_add] at *
  rw [Nat.mul_add,Nat.mul_one]
  omega
def spNet:Sp:=fun vs H Q _=>∃ (l:Addr) (n:Nat) (ws:List V) (sqs:List (List (List Nat))),vs=[.ref l]∧H l=some (.lst ws)∧SqsAt H ws sqs∧1≤n∧n≤5∧1≤sqs.length∧sqs.length≤4∧(∀ rs∈sqs,Sq n rs)∧∀ (t u:Addr) (us:List V) (H':Hp),H t=none→Same H H'→H' t=some (.tup [.int ((n * n:Nat):Int),.ref u])→H' u=some (.tup us)→TpAt H' us (netL n sqs)→Q (.ref t) H'
theorem scNetOf:FnScope ["squares", "size", "cells", "blocks", "square"] ["squares"] (defScope sNetOf):=⟨rfl,rfl,rfl,by decide +kernel,rfl,by decide +kernel,by decide +kernel⟩
theorem ok_net {f:Addr} {fd:FuncData} (F:Fun K "net_of" "net_of" sNetOf f fd) (T:TxtB mg) (pBlocksByNumber:Pm P w K mg base CX0 2 "blocks_by_number" ["size", "numbers"] spBbn):FnOk P w K mg base CX0 3 f fd ["squares"] spNet:=by
 refine F.okQ scNetOf (fun vs H Q E h=>?_) (fun cdv A outer s H vs Q E hr2 h=>?_)
 ·obtain ⟨l,n,ws,sqs,rfl,_⟩:=h
  rfl
 ·obtain ⟨l,n,ws,sqs,rfl,hl,hS,hn1,hn5,hq1,hq4,hsq,q⟩:=h
  refine ⟨_,(qss_cons (qs_set (i:=1) scNetOf.nd rfl (Or.inr rfl) (qe_callB call_len_seq (by rfl) T.len PySem.boot_len (qac (qe_ix ix_list (qv 0) qe_int (fun _ _=>rfl)) qa_nil)))
   (qss_cons (qs_set (i:=2) scNetOf.nd rfl (Or.inl rfl) (qe_op op_mul (qv 1) (qv 1)))
   (qss_cons (qs_set (i:=3) scNetOf.nd rfl (Or.inl rfl) (qe_callP pBlocksByNumber hr2 rfl pass0 (qac (qv 1) (qac (qe_comp (g:=gName 0) (N:=["cell", "size"]) (src:=[none,some 1]) rfl (comp_scope (defScope sNetOf) ["squares", "size", "cells", "blocks", "square"] rfl rfl (by decide +kernel) rfl) (qi_range1 rfl T.range (qac (qv 2) qa_nil)) (fun _ _ _ _ _=>(qg_name (i:=0) (show (["cell", "size"]:List Str).Nodup by decide +kernel) rfl (Or.inl rfl) (Or.inr rfl))) (fun _ _ _ _ _=>qif_nil) (fun _ _ _ _ _=>(qe_op op_fdiv (qv 0) (qv 1)))) qa_nil))))
   (qss_cons (qs_expr (qe_bm PySem.F.plainAttrs_list PySem.F.slot_list_extend PySem.F.type_list_extend mt_extend (qv 3) (qac (qe_callP pBlocksByNumber hr2 rfl pass0 (qac (qv 1) (qac (qe_comp (g:=gName 0) (N:=["cell", "size"]) (src:=[none,some 1]) rfl (comp_scope (defScope sNetOf) ["squares", "size", "cells", "blocks", "square"] rfl rfl (by decide +kernel) rfl) (qi_range1 rfl T.range (qac (qv 2) qa_nil)) (fun _ _ _ _ _=>(qg_name (i:=0) (show (["cell", "size"]:List Str).Nodup by decide +kernel) rfl (Or.inl rfl) (Or.inr rfl))) (fun _ _ _ _ _=>qif_nil) (fun _ _ _ _ _=>(qe_op op_mod (qv 0) (qv 1)))) qa_nil))) qa_nil)))
   (qss_cons (qs_for PassesOwn.never rfl (qi_list (qv 0)) (qg_name (i:=4) scNetOf.nd rfl (Or.inr rfl))
    (qss_one (qs_expr (qe_bm PySem.F.plainAttrs_list PySem.F.slot_list_extend PySem.F.type_list_extend mt_extend (qv 3) (qac (qe_callP pBlocksByNumber hr2 rfl pass0 (qac (qv 1) (qac (qe_comp (g:=gName 0) (N:=["cell", "size", "square"]) (src:=[none,some 1,some 4]) rfl (comp_scope (defScope sNetOf) ["squares", "size", "cells", "blocks", "square"] rfl rfl (by decide +kernel) rfl) (qi_range1 rfl T.range (qac (qv 2) qa_nil)) (fun _ _ _ _ _=>(qg_name (i:=0) (show (["cell", "size", "square"]:List Str).Nodup by decide +kernel) rfl (Or.inl rfl) (Or.inr rfl))) (fun _ _ _ _ _=>qif_nil) (fun _ _ _ _ _=>(qe_ix (show IxR _ (rIxT K) from ix_tup) (qe_ix (show IxR _ (rIxT K) from ix_tup) (qv 2) (qe_op op_fdiv (qv 0) (qv 1)) (fun _ _=>rfl)) (qe_op op_mod (qv 0) (qv 1)) (fun _ _=>rfl)))) qa_nil))) qa_nil)))))
   (qss_one (qs_ret (qe_tup (qac (qv 2) (qac (qe_callTy call_tuple_of (by rfl) T.tup (by decide +kernel) (qac (qv 3) qa_nil)) qa_nil)))))))))),?_⟩
  have hwl:=hS.len
  have g0:ws[0]?=some (ws[0]'(by omega)):=List.getElem?_eq_getElem _
  obtain ⟨a0,r0,ea0,hr0,us0,ha0,hT0⟩:=hS.get g0
  have hs0:=hsq r0 (List.mem_of_getElem? hr0)
  have hu0:us0.length=n:=by rw [hT0.len,hs0.1]
  refine ⟨_,rfl,l,_,_,_,rfl,rfl,SqL.of hl,atI_nat (j:=0) g0,a0,us0,by rw [ea0],.inr (SqT.of ha0),?_⟩
  dsimp only
  rw [hu0]
  have hnn:((n:Nat):Int) * ((n:Nat):Int)=((n * n:Nat):Int):=by rw [Int.natCast_mul]
  have hn25:n * n≤25:=Nat.mul_le_mul hn5 hn5
  refine ⟨_,rfl,_,rfl,_,_,rfl,rfl,.inl ⟨by omega,by omega⟩,?_⟩
  dsimp only
  rw [hnn]
  have hmapl:∀ f:Nat→Nat,((List.range (n * n)).map f).length≤100:=fun f=>by rw [List.length_map,List.length_range]; omega
  have hn0:(0:Int) < ((n:Nat):Int):=by omega
  refine ⟨_,rfl,_,rfl,((n * n:Nat):Int),rfl,by omega,by omega,?_⟩
  rw [Int.toNat_natCast]
  refine comp_rng (lo:=0) (n:=n * n) (fun i ys H2=>H2=H∧ys=nats ((List.range i).map (· / n))) ⟨rfl,rfl⟩ ?_ ?_
  ·rintro i ys H2 N hi ⟨rfl,rfl⟩ nx
   rw [Int.zero_add]
   refine ⟨Weak.set (by intro v z; cases z),⟨_,rfl,_,rfl,_,_,rfl,rfl,⟨by omega,by omega⟩,?_,nx _ _ ⟨rfl,?_⟩⟩⟩
   ·rw [nats_len,List.length_map,List.length_range]
    exact Nat.lt_of_lt_of_le (show i < 26 by omega) (by decide)
   ·rw [List.range_succ,List.map_append,List.map_cons,List.map_nil,nats_snoc]
    rfl
  rintro ys H2 ⟨rfl,rfl⟩
  refine ⟨by rw [nats_len,List.length_map,List.length_range]; exact Nat.le_trans hn25 (by decide),fun c1 hc1=>?_⟩
  have v1:=same_new (o:=.lst (nats ((List.range (n * n)).map (· / n)))) hc1
  refine ⟨c1,n,_,rfl,upd_same,hmapl _,by omega,fun b ws1 H3 hb0 s3 hb3 hT3=>?_⟩
  rw [cls_cw] at hT3
  have hb00:H2 b=none:=v1.free hb0
  have s13:=v1.trans s3
  refine ⟨_,rfl,.inl ⟨rfl,_,SqL.of hb3⟩,_,rfl,_,rfl,((n * n:Nat):Int),rfl,by omega,by omega,?_⟩
  rw [Int.toNat_natCast]
  refine comp_rng (lo:=0) (n:=n * n) (fun i ys H4=>H4=H3∧ys=nats ((List.range i).map (· % n))) ⟨rfl,rfl⟩ ?_ ?_
  ·rintro i ys H4 N hi ⟨rfl,rfl⟩ nx
   rw [Int.zero_add]
   refine ⟨Weak.set (by intro v z; cases z),⟨_,rfl,_,rfl,_,_,rfl,rfl,hn0,?_,nx _ _ ⟨rfl,?_⟩⟩⟩
   ·rw [nats_len,List.length_map,List.length_range]
    exact Nat.lt_of_lt_of_le (show i < 26 by omega) (by decide)
   ·rw [List.range_succ,List.map_append,List.map_cons,List.map_nil,nats_snoc]
    rfl
  rintro ys H4 ⟨rfl,rfl⟩
  refine ⟨by rw [nats_len,List.length_map,List.length_range]; exact Nat.le_trans hn25 (by decide),fun c2 hc2=>?_⟩
  have v2:=same_new (o:=.lst (nats ((List.range (n * n)).map (· % n)))) hc2
  refine ⟨c2,n,_,rfl,upd_same,hmapl _,by omega,fun b2 ws2 H5 _ s5 hb5 hT5=>?_⟩
  rw [cls_cw] at hT5
  have s35:=v2.trans s5
  have hbl:∀ f,(clsF n f).length≤5:=fun f=>by rw [cls_len]; omega
  have hw1:=hT3.len
  have hw2:=hT5.len
  rw [cls_len] at hw1 hw2
  have hbH:=s35 _ _ hb3
  refine ⟨b,b2,ws1,ws2,rfl,rfl,hbH,hb5,Nat.le_trans (show ws1.length + ws2.length≤10 by omega) (by decide),?_⟩
  have up:∀ {H6:Hp} {xs:List V},H6 b=some (.lst xs)→∀ (o:HO) (d:Addr) (zs:List V),H6 d=some (.tup zs)→L2.upd H6 b o d=some (.tup zs):=fun {H6 xs} hb6 o d zs hd=>by
   rw [upd_ne (fun z=>by rw [z,hb6] at hd; cases hd)]
   exact hd
  have hTA:TpAt (L2.upd H5 b (.lst (ws1++ws2))) (ws1++ws2) (clsF n (· / n)++clsF n (· % n)):=((hT3.sm s35).app hT5).same fun d zs hd=>up hbH _ d zs hd
  have sA:Same H2 (L2.upd H5 b (.lst (ws1++ws2))):=same_upd (s13.trans s35) hb00
  refine ⟨_,rfl,l,rfl,⟨_,SqL.of (sA _ _ hl)⟩,for_list (K:=K) (xs:=ws) (fun i σ H6=>Same H2 H6∧∃ (zs:List V) (x4:Option V),σ=[some (.ref l),some (.int ((n:Nat):Int)),some (.int ((n * n:Nat):Int)),some (.ref b),x4]∧H6 b=some (.lst zs)∧TpAt H6 zs (netL n (sqs.take i))) ⟨sA,ws1++ws2,none,rfl,upd_same,by unfold netL; rw [List.take_zero,List.flatMap_nil,List.append_nil]; exact hTA⟩ (fun i σ H6 _ ⟨s6,_⟩=>SqL.of (s6 _ _ hl)) ?_ ?_⟩
  ·rintro i v σ H6 hi ⟨s6,zs,x4,rfl,hb6,hT6⟩
   obtain ⟨ai,ri,rfl,hri,ui,hai,hTi⟩:=(hS.sm s6).get hi
   have hil:=(List.getElem?_eq_some_iff.mp hri).1
   have hsi:=hsq ri (List.mem_of_getElem? hri)
   refine ⟨_,rfl,.inl ⟨rfl,_,SqL.of hb6⟩,_,rfl,_,rfl,((n * n:Nat):Int),rfl,by omega,by omega,?_⟩
   rw [Int.toNat_natCast]
   refine comp_rng (lo:=0) (n:=n * n) (fun i ys H7=>H7=H6∧ys=nats ((List.range i).map (fS n ri))) ⟨rfl,rfl⟩ ?_ ?_
   ·rintro j ys H7 N hj ⟨rfl,rfl⟩ nx
    rw [Int.zero_add]
    have hjd:j / n < n:=Nat.div_lt_of_lt_mul hj
    have hjm:j % n < n:=Nat.mod_lt _ hn1
    have gr:ui[j / n]?=some (ui[j / n]'(by rw [hTi.len,hsi.1]; exact hjd)):=List.getElem?_eq_getElem _
    obtain ⟨tr,rr,etr,hrr,htr⟩:=hTi.get gr
    have hrl:=(hsi.2 rr (List.mem_of_getElem? hrr)).1
    have gc:(nats rr)[j % n]?=some (.int ((fS n ri j:Nat):Int)):=by
     unfold nats fS
     have e1:ri.getD (j / n) []=rr:=by rw [List.getD_eq_getElem?_getD,hrr]; rfl
     rw [List.getElem?_map,e1,List.getElem?_eq_getElem (by omega)]
     simp [show j % n < rr.length by omega]
    refine ⟨Weak.set (by intro v z; cases z),⟨_,rfl,_,rfl,_,rfl,_,_,rfl,rfl,⟨by omega,by omega⟩,ai,_,_,_,rfl,rfl,SqT.of hai,atI_nat gr,_,rfl,_,rfl,_,_,rfl,rfl,hn0,tr,_,_,_,etr,rfl,SqT.of htr,atI_nat gc,?_,nx _ _ ⟨rfl,?_⟩⟩⟩
    ·rw [nats_len,List.length_map,List.length_range]
     exact Nat.lt_of_lt_of_le (show j < 26 by omega) (by decide)
    ·rw [List.range_succ,List.map_append,List.map_cons,List.map_nil,nats_snoc]
   rintro ys H7 ⟨rfl,rfl⟩
   refine ⟨by rw [nats_len,List.length_map,List.length_range]; exact Nat.le_trans hn25 (by decide),fun c3 hc3=>?_⟩
   have v3:=same_new (o:=.lst (nats ((List.range (n * n)).map (fS n ri)))) hc3
   refine ⟨c3,n,_,rfl,upd_same,hmapl _,by omega,fun b3 ws3 H8 _ s8 hb8 hT8=>?_⟩
   rw [cls_cw] at hT8
   have s78:=v3.trans s8
   have hw3:=hT8.len
   rw [cls_len] at hw3
   have hz:=hT6.len
   rw [net_len,List.length_take] at hz
   have hzz:zs.length≤30:=by
    rw [hz]
    exact Nat.le_trans (Nat.mul_le_mul hn5 (show 2 + min i sqs.length≤6 by omega)) (by decide)
   have hb8':=s78 _ _ hb6
   refine ⟨b,b3,zs,ws3,rfl,rfl,hb8',hb8,Nat.le_trans (show zs.length + ws3.length≤35 by omega) (by decide),?_⟩
   refine ⟨same_upd (s6.trans s78) hb00,_,_,rfl,upd_same,?_⟩
   have e:netL n (sqs.take (i + 1))=netL n (sqs.take i)++clsF n (fS n ri):=by
    unfold netL
    rw [List.take_add_one,hri,Option.toList_some,List.flatMap_append,List.flatMap_cons,List.flatMap_nil,List.append_nil,← List.append_assoc]
   rw [e]
   exact ((hT6.sm s78).app hT8).same fun d zs hd=>up hb8' _ d zs hd
  ·rintro σ H6 ⟨s6,zs,x4,rfl,hb6,hT6⟩
   rw [hwl,List.take_length] at hT6
   refine ⟨_,rfl,_,rfl,b,_,rfl,.inl ⟨SqL.of hb6,fun u hu=>⟨by show 2≤sizeLine; decide,fun t ht=>?_⟩⟩⟩
   have w1:=same_new (o:=.tup zs) hu
   have w2:=same_new (o:=.tup [.int ((n * n:Nat):Int),.ref u]) ht
   exact q t u zs _ ((s6.trans w1).free ht) (s6.trans (w1.trans w2)) upd_same (w2 _ _ upd_same) (hT6.sm (w1.trans w2))
def onV:Option Nat→V
 | none=>.non
 | some k=>.int ((k:Nat):Int)
def stN (bs:List (List Nat)) (i:Nat) (c:List Nat) (p:Nat):Option Nat:=if p∈c then some i else (bs.take i).findIdx? fun b=>decide (p∈b)
theorem stN_none {bs:List (List Nat)} {i:Nat} {c:List Nat} {p:Nat}:stN bs i c p=none↔p∉(bs.take i).flatten++c:=by
 unfold stN
 rw [List.mem_append,List.mem_flatten]
 by_cases h:p∈c
 ·rw [if_pos h]
  simp [h]
 ·rw [if_neg h,List.findIdx?_eq_none_iff]
  simp only [decide_eq_false_iff_not]
  constructor
  ·rintro h1 (⟨b,hb,hp⟩ | h2)
   ·exact h1 b hb hp
   ·exact h h2
  ·exact fun h1 b hb hp=>h1 (.inl ⟨b,hb,hp⟩)
theorem stN_set {bs:List (List Nat)} {i m p:Nat} {c:List Nat}:((List.range m).map fun q=>onV (stN bs i c q)).set p (.int ((i:Nat):Int))=(List.range m).map fun q=>onV (stN bs i (c++[p]) q):=by
 apply List.ext_getElem
 ·simp
 intro j h1 h2
 rw [List.getElem_set]
 simp only [List.getElem_map,List.getElem_range]
 by_cases h:p=j
 ·subst h
  rw [if_pos rfl]
  unfold stN
  rw [if_pos (by simp)]
  rfl
 ·rw [if_neg h]
  unfold stN
  by_cases hc:j∈c
  ·rw [if_pos hc,if_pos (by simp [hc])]
  ·rw [if_neg hc,if_neg (by simp [hc]; exact fun z=>h z.symm)]
theorem stN_next {bs:List (List Nat)} {i:Nat} {b:List Nat} (h:bs[i]?=some b) (nd:((bs.take i).flatten++b).Nodup) (p:Nat):stN bs i b p=stN bs (i + 1) [] p:=by
 have hil:=(List.getElem?_eq_some_iff.mp h).1
 unfold stN
 rw [if_neg (by simp:¬p∈([]:List Nat)),List.take_add_one,h,Option.toList_some,List.findIdx?_append]
 by_cases hp:p∈b
 ·rw [if_pos hp]
  have hn:(bs.take i).findIdx? (fun b=>decide (p∈b))=none:=by
   rw [List.findIdx?_eq_none_iff]
   intro c hc
   rw [decide_eq_false_iff_not]
   intro hpc
   exact (List.nodup_append.mp nd).2.2 p (List.mem_flatten.mpr ⟨c,hc,hpc⟩) p hp rfl
  rw [hn]
  simp [hp]
  omega
 ·rw [if_neg hp]
  simp [hp]
def Part (m:Nat) (bs:List (List Nat)):Prop:=bs.flatten.Nodup∧∀ p,p < m→p∈bs.flatten
def nmL (bs:List (List Nat)) (p:Nat):Nat:=bs.findIdx fun b=>decide (p∈b)
theorem nm_some {m:Nat} {bs:List (List Nat)} (h:Part m bs) {p:Nat} (hp:p < m):stN bs bs.length [] p=some (nmL bs p):=by
 unfold stN nmL
 rw [if_neg (by simp),List.take_length]
 obtain ⟨b,hb,hpb⟩:=List.mem_flatten.mp (h.2 p hp)
 rw [List.findIdx?_eq_some_iff_findIdx_eq]
 exact ⟨List.findIdx_lt_length_of_exists ⟨b,hb,decide_eq_true hpb⟩,rfl⟩
def spNbc (C:Addr):Sp:=fun vs H Q E=>∃ (l:Addr) (m:Nat) (ws:List V) (bs:List (List Nat)),vs=[.int ((m:Nat):Int),.ref l]∧H l=some (.tup ws)∧TpAt H ws bs∧(∀ b∈bs,∀ x∈b,x < m)∧m≤100∧bs.length≤100∧
 (Part m bs→∀ (t:Addr) (H':Hp),H t=none→Same H H'→H' t=some (.lst (nats ((List.range m).map (nmL bs))))→Q (.ref t) H')∧(¬Part m bs→∀ dx H',Same H H'→E (.ref C) dx H')
theorem nones (m:Nat):(List.replicate m [V.non]).flatten=(List.range m).map fun p=>onV (stN [] 0 [] p):=by
 induction m with
 | zero=>rfl
 | succ m ih=>
  rw [List.replicate_succ',List.flatten_append,ih,List.range_succ,List.map_append]
  rfl
theorem scNumbersByClass:FnScope ["points", "blocks", "numbers", "number", "block", "point"] ["points", "blocks"] (defScope sNumbersByClass):=⟨rfl,rfl,rfl,by decide +kernel,rfl,by decide +kernel,by decide +kernel⟩
theorem ok_nbc {C:Addr} {f:Addr} {fd:FuncData} (F:Fun K "numbers_by_class" "numbers_by_class" sNumbersByClass f fd) (T:TxtB mg) (eC:PySem.W.ExcK K C) (mC:mg "NoNet"=some (.ref C)):FnOk P w K mg base (CXD P w) 1 f fd ["points", "blocks"] (spNbc C):=by
 refine F.okXFQ scNumbersByClass (fun vs H Q E h=>?_) (fun cdv A outer s H vs Q E hr h=>?_)
 ·obtain ⟨l,m,ws,bs,rfl,_⟩:=h
  rfl
 ·obtain ⟨l,m,ws,bs,rfl,hl,hT,hlt,hm,hbl,q,qe⟩:=h
  refine ⟨_,(qss_cons (qs_set (i:=2) scNumbersByClass.nd rfl (Or.inl rfl) (qe_op op_mulL (qe_lst (qac qe_non qa_nil)) (qv 0)))
   (qss_cons (qs_for (passesF rfl ⟨_,rfl⟩ rfl rfl) rfl (qi_enumT rfl T.enu (qac (qv 1) qa_nil)) (qg_tup rfl (qgs_cons (qg_name (i:=3) scNumbersByClass.nd rfl (Or.inl rfl)) (qgs_cons (qg_name (i:=4) scNumbersByClass.nd rfl (Or.inl rfl)) qgs_nil)))
    (qss_one (qs_for (passesF rfl ⟨_,rfl⟩ rfl rfl) rfl (qi_tup (qv 4)) (qg_name (i:=5) scNumbersByClass.nd rfl (Or.inl rfl))
     (qss_cons (qs_if (qt_cmpR op_notN (qe_ix ix_list (qv 2) (qv 5) (fun _ _=>rfl)) qe_non (nomark _)) (qss_one (qs_raiseF eC.ex rfl mC rfl rfl (qac qe_str qa_nil))) qss_nil)
     (qss_one (qs_asg (qv 3) (qg_sub (qv 2) (qv 5) set_list (fun _=>rfl))))))))
   (qss_cons (qs_if (qt_cmpR op_in_seq qe_non (qv 2) rfl) (qss_one (qs_raiseF eC.ex rfl mC rfl rfl (qac qe_str qa_nil))) qss_nil)
   (qss_one (qs_ret (qv 2)))))),?_⟩
  refine ⟨by show 1≤sizeLine; decide,fun d hd=>⟨_,rfl,d,[V.non],(m:Int),rfl,rfl,SqL.of upd_same,by omega,by omega,by rw [List.length_singleton,Int.toNat_natCast]; omega,fun c hc=>?_⟩⟩
  have ez:(List.replicate ((m:Nat):Int).toNat [V.non]).flatten=(List.range m).map fun p=>onV (stN bs 0 [] p):=by
   rw [Int.toNat_natCast,nones]
   rfl
  rw [ez]
  have w1:=same_new (o:=.lst [V.non]) hd
  have w2:=same_new (o:=.lst ((List.range m).map fun p=>onV (stN bs 0 [] p))) hc
  have hc0:H c=none:=w1.free hc
  have s2:=w1.trans w2
  have hc2:L2.upd (L2.upd H d (.lst [V.non])) c (.lst ((List.range m).map fun p=>onV (stN bs 0 [] p))) c=some (.lst ((List.range m).map fun p=>onV (stN bs 0 [] p))):=upd_same
  generalize L2.upd (L2.upd H d (.lst [V.non])) c (.lst ((List.range m).map fun p=>onV (stN bs 0 [] p)))=H2 at s2 hc2 ⊢
  have hwl:=hT.len
  refine ⟨_,rfl,l,rfl,⟨_,SqT.of (s2 _ _ hl)⟩,for_enumT (K:=K) (a:=l) (xs:=ws) (fun i σ H3=>Same H H3∧∃ x3 x4 x5:Option V,σ=[some (.int ((m:Nat):Int)),some (.ref l),some (.ref c),x3,x4,x5]∧H3 c=some (.lst ((List.range m).map fun p=>onV (stN bs i [] p)))∧(bs.take i).flatten.Nodup) ⟨s2,none,none,none,rfl,hc2,by simp⟩ (fun i σ H3 _ ⟨s3,_⟩=>SqT.of (s3 _ _ hl)) ?_ ?_⟩
  ·rintro i v U σ H3 hi ⟨s3,x3,x4,x5,rfl,hc3,nd3⟩ hU
   obtain ⟨a,b,rfl,hb,ha⟩:=(hT.sm s3).get hi
   have hbx:=hlt b (List.mem_of_getElem? hb)
   have v1:=same_new (o:=.tup [.int (i:Nat),.ref a]) hU
   refine ⟨U,_,rfl,SqT.of upd_same,rfl,_,_,rfl,_,_,rfl,rfl,?_⟩
   have hcU:c≠U:=fun z=>by
    rw [z,hU] at hc3
    cases hc3
   have s4:=s3.trans v1
   have ha4:=v1 _ _ ha
   have hc4:=v1 _ _ hc3
   generalize L2.upd H3 U (.tup [.int (i:Nat),.ref a])=H4 at s4 ha4 hc4 ⊢
   have hca:∀ o,L2.upd H4 c (.lst o) a=some (.tup (nats b)):=fun o=>by
    rw [upd_ne (fun z=>by rw [z,hc4] at ha4; cases ha4)]
    exact ha4
   refine ⟨_,rfl,a,rfl,⟨_,SqT.of ha4⟩,for_tup (K:=K) (xs:=nats b) (fun j σ H5=>Same H H5∧H5 a=some (.tup (nats b))∧∃ x5:Option V,σ=[some (.int ((m:Nat):Int)),some (.ref l),some (.ref c),some (.int (i:Nat)),some (.ref a),x5]∧H5 c=some (.lst ((List.range m).map fun p=>onV (stN bs i (b.take j) p)))∧((bs.take i).flatten++b.take j).Nodup) ⟨s4,ha4,x5,rfl,hc4,by rw [List.take_zero,List.append_nil]; exact nd3⟩ (fun j σ H5 _ ⟨_,h5,_⟩=>SqT.of h5) ?_ ?_⟩
   ·rintro j v σ H5 hj ⟨s5,ha5,x5,rfl,hc5,nd5⟩
    obtain ⟨x,hx,rfl⟩:=L2.nats_get hj
    have hxm:=hbx x (List.mem_of_getElem? hx)
    have gx:((List.range m).map fun p=>onV (stN bs i (b.take j) p))[x]?=some (onV (stN bs i (b.take j) x)):=by
     rw [List.getElem?_map,List.getElem?_range hxm]
     rfl
    refine ⟨_,rfl,_,rfl,c,_,_,_,rfl,rfl,SqL.of hc5,atI_nat gx,?_⟩
    have bsplit:bs.flatten=((bs.take i).flatten++b.take j)++x::(b.drop (j + 1)++(bs.drop (i + 1)).flatten):=by
     have e1:bs=bs.take i++b::bs.drop (i + 1):=by
      have hil:=(List.getElem?_eq_some_iff.mp hb).1
      have e:bs[i]=b:=(List.getElem?_eq_some_iff.mp hb).2
      rw [← e,List.getElem_cons_drop,List.take_append_drop]
     have e2:b=b.take j++x::b.drop (j + 1):=by
      have hjl:=(List.getElem?_eq_some_iff.mp hx).1
      have e:b[j]=x:=(List.getElem?_eq_some_iff.mp hx).2
      rw [← e,List.getElem_cons_drop,List.take_append_drop]
     conv=>lhs; rw [e1,List.flatten_append,List.flatten_cons,e2]
     simp
    cases hst:stN bs i (b.take j) x with
    | some k=>
     refine ⟨rfl,_,rfl,?_⟩
     show if (!decide (V.int ((k:Nat):Int)=V.non))=true then _ else _
     rw [decide_eq_false (by intro z; cases z)]
     refine iteT ⟨by show 1≤sizeLine; decide,fun dx=>qe (fun hp=>?_) dx _ s5⟩
     have hin:x∈(bs.take i).flatten++b.take j:=Classical.byContradiction fun z=>by
      rw [stN_none.mpr z] at hst
      cases hst
     have nd:=hp.1
     rw [bsplit] at nd
     exact (List.nodup_append.mp nd).2.2 x hin x (List.mem_cons_self ..) rfl
    | none=>
     refine ⟨rfl,_,rfl,?_⟩
     show if (!decide (V.non=V.non))=true then _ else _
     rw [decide_eq_true rfl]
     refine iteF ?_
     have hni:=stN_none.mp hst
     refine ⟨_,rfl,_,rfl,_,rfl,c,_,((x:Nat):Int),x,rfl,rfl,hc5,?_,same_upd s5 hc0,?_,_,rfl,?_,?_⟩
     ·unfold ixN
      rw [if_pos (by omega),if_pos (by rw [List.length_map,List.length_range]; omega),Int.toNat_natCast]
     ·rw [upd_ne (fun z=>by rw [z,hc5] at ha5; cases ha5)]
      exact ha5
     ·rw [upd_same,List.take_add_one,hx,Option.toList_some]
      exact congrArg (fun z=>some (HO.lst z)) stN_set
     ·rw [List.take_add_one,hx,Option.toList_some,← List.append_assoc,List.nodup_append]
      exact ⟨nd5,by simp,fun y hy z hz e=>hni (by rw [List.mem_singleton.mp hz] at e; rw [← e]; exact hy)⟩
   ·rintro σ H5 ⟨s5,ha5,x5,rfl,hc5,nd5⟩
    rw [nats_len,List.take_length] at hc5 nd5
    refine ⟨s5,_,_,_,rfl,?_,?_⟩
    ·rw [hc5]
     congr 2
     exact List.map_congr_left fun p _=>by rw [stN_next hb nd5]
    ·rw [List.take_add_one,hb,Option.toList_some,List.flatten_append]
     simpa using nd5
  ·rintro σ H3 ⟨s3,x3,x4,x5,rfl,hc3,nd3⟩
   rw [hwl] at hc3 nd3
   rw [List.take_length] at nd3
   have hall:((List.range m).map fun p=>onV (stN bs bs.length [] p)).all flatV=true:=by
    rw [List.all_eq_true]
    intro y hy
    obtain ⟨p,_,rfl⟩:=List.mem_map.mp hy
    cases stN bs bs.length [] p <;> rfl
   refine ⟨_,rfl,c,_,rfl,.inl (SqL.of hc3),rfl,hall,_,rfl,?_⟩
   rw [if_neg (by decide)]
   by_cases hp:Part m bs
   ·have hin:inV V.non ((List.range m).map fun p=>onV (stN bs bs.length [] p))=false:=by
     unfold inV
     rw [List.any_eq_false]
     intro y hy
     obtain ⟨p,hpm,rfl⟩:=List.mem_map.mp hy
     rw [nm_some hp (List.mem_range.mp hpm)]
     simp [onV,eqV]
    rw [hin]
    refine iteF ⟨_,rfl,q hp c _ hc0 s3 ?_⟩
    rw [hc3]
    unfold nats
    rw [List.map_map]
    congr 2
    exact List.map_congr_left fun p hpm=>by rw [nm_some hp (List.mem_range.mp hpm)]; rfl
   ·have hex:∃ p,p < m∧p∉bs.flatten:=Classical.byContradiction fun z=>hp ⟨nd3,fun p hpm=>Classical.byContradiction fun y=>z ⟨p,hpm,y⟩⟩
    obtain ⟨p,hpm,hpn⟩:=hex
    have hin:inV V.non ((List.range m).map fun p=>onV (stN bs bs.length [] p))=true:=by
     unfold inV
     rw [List.any_eq_true]
     refine ⟨onV (stN bs bs.length [] p),List.mem_map.mpr ⟨p,List.mem_range.mpr hpm,rfl⟩,?_⟩
     rw [stN_none.mpr (by rw [List.take_length,List.append_nil]; exact hpn)]
     rfl
    rw [hin]
    exact iteT ⟨by show 1≤sizeLine; decide,fun dx=>qe hp dx _ s3⟩
def spCross (C:Addr):Sp:=fun vs H Q E=>∃ (a b:Addr) (m:Nat) (f g:Nat→Nat),vs=[.ref a,.ref b]∧H a=some (.lst (nats ((List.range m).map f)))∧H b=some (.lst (nats ((List.range m).map g)))∧m≤64∧
 ((∀ p q,p < m→q < m→f p=f q→g p=g q→p=q)→∀ H',Same H H'→Q .non H')∧(¬(∀ p q,p < m→q < m→f p=f q→g p=g q→p=q)→∀ dx H',Same H H'→E (.ref C) dx H')
theorem zp_tp {H:Hp} {ts:List Addr} {m:Nat} {f g:Nat→Nat} (h:ZpAt H ts (nats ((List.range m).map f)) (nats ((List.range m).map g))):TpAt H (ts.map V.ref) ((List.range m).map fun p=>[f p,g p]):=by
 have key:∀ (k:Nat) (ts:List Addr),ts.length + k=m→(∀ (j:Nat) (t:Addr),ts[j]?=some t→H t=some (.tup (nats [f (k + j),g (k + j)])))→TpAt H (ts.map V.ref) ((List.range' k ts.length).map fun p=>[f p,g p]):=by
  intro k ts
  induction ts generalizing k with
  | nil=>intro _ _; trivial
  | cons t ts ih=>
   intro hk hj
   rw [List.length_cons,List.range'_succ,List.map_cons,List.map_cons]
   refine ⟨⟨t,rfl,hj 0 t rfl⟩,ih (k + 1) (by rw [List.length_cons] at hk; omega) fun j t' e=>?_⟩
   have:=hj (j + 1) t' (by rw [List.getElem?_cons_succ]; exact e)
   rwa [show k + (j + 1)=k + 1 + j by omega] at this
 have hl:ts.length=m:=by rw [h.1,nats_len,List.length_map,List.length_range]
 have:=key 0 ts (by omega) fun j t e=>by
  obtain ⟨x,y,hx,hy,ht⟩:=h.2 j t e
  have hjm:j < m:=by
   have:=(List.getElem?_eq_some_iff.mp e).1
   omega
  have e1:∀ h:Nat→Nat,(nats ((List.range m).map h))[j]?=some (.int ((h j:Nat):Int)):=fun h=>by
   unfold nats
   rw [List.getElem?_map,List.getElem?_map,List.getElem?_range hjm]
   rfl
  rw [e1] at hx hy
  cases hx
  cases hy
  rw [Nat.zero_add]
  exact ht
 rw [hl,← List.range_eq_range'] at this
 exact this
theorem scMustCross:FnScope ["numbers", "others"] ["numbers", "others"] (defScope sMustCross):=⟨rfl,rfl,rfl,by decide +kernel,rfl,by decide +kernel,by decide +kernel⟩
theorem ok_cross {C:Addr} {f:Addr} {fd:FuncData} (F:Fun K "must_cross" "must_cross" sMustCross f fd) (T:TxtB mg) (eC:PySem.W.ExcK K C) (mC:mg "NoNet"=some (.ref C)):FnOk P w K mg base (CXD P w) 1 f fd ["numbers", "others"] (spCross C):=by
 refine F.okXFQ scMustCross (fun vs H Q E h=>?_) (fun cdv A outer s H vs Q E hr h=>?_)
 ·obtain ⟨a,b,m,f,g,rfl,_⟩:=h
  rfl
 ·obtain ⟨a,b,m,f,g,rfl,ha,hb,hm,q,qe⟩:=h
  have hu:(A.deeper (PyProof.Rows.envOfC "must_cross" (defScope sMustCross) s.heap.objs.size _ cdv)).units + 64 < cLine:=hr.units
  refine ⟨_,(qss_one (qs_if (qt_cmpR op_lt (qe_callB (show CallR _ _ (rLenTs P w) from call_lenTs) (by rfl) T.len PySem.boot_len (qac (qe_callTy (show CallR _ _ (rSetTs P w K) from call_setTs rfl hu) (by rfl) T.set (by decide +kernel) (qac (show QE _ _ (tListZ K _) from qe_listZ rfl (by rfl) T.lst (by rfl) T.zip (qac (qv 0) (qac (qv 1) qa_nil))) qa_nil)) qa_nil)) (qe_callB call_len_seq (by rfl) T.len PySem.boot_len (qac (qv 0) qa_nil)) (nomark _)) (qss_one (qs_raiseF eC.ex rfl mC rfl rfl (qac qe_str qa_nil))) qss_nil)),?_⟩
  refine ⟨_,rfl,_,rfl,a,b,_,_,rfl,SqL.of ha,SqL.of hb,by rw [nats_len,nats_len,List.length_map,List.length_map],by rw [nats_len,List.length_map,List.length_range]; omega,fun l ts H1 hl s1 hl1 hZ=>?_⟩
  have hT:=zp_tp hZ
  refine ⟨l,_,_,rfl,SqL.of hl1,hT,by rw [List.length_map,List.length_range]; exact hm,fun l2 ws2 cs hl2 hT2 nd h1 h2 hle=>?_⟩
  have w2:=same_new (o:=TsO P w l2 ws2 cs) hl2
  have s2:=s1.trans w2
  refine ⟨l2,ws2,cs,rfl,upd_same,hT2.sm w2,?_⟩
  generalize L2.upd H1 l2 (TsO P w l2 ws2 cs)=H2 at s2 ⊢
  refine ⟨_,rfl,a,_,rfl,.inl (SqL.of (s2 _ _ ha)),_,_,rfl,rfl,_,rfl,?_⟩
  rw [nats_len,List.length_map,List.length_range]
  rw [List.length_map,List.length_range] at hle
  by_cases hI:∀ p q,p < m→q < m→f p=f q→g p=g q→p=q
  ·have ndm:((List.range m).map fun p=>[f p,g p]).Nodup:=by
    rw [List.nodup_iff_pairwise_ne,List.pairwise_map]
    refine (List.nodup_iff_pairwise_ne.mp List.nodup_range).imp_of_mem fun {x y} hx hy h e=>h ?_
    injection e with e1 e2
    injection e2 with e2 _
    exact hI x y (List.mem_range.mp hx) (List.mem_range.mp hy) e1 e2
   have hge:m≤cs.length:=by
    have:=List.Nodup.length_le_of_subset ndm (l₂:=cs) fun x hx=>h2 x hx
    rwa [List.length_map,List.length_range] at this
   exact ifF (by show ¬((cs.length:Nat):Int) < ((m:Nat):Int); omega) (q hI _ s2)
  ·have hlt:cs.length < m:=by
    refine Nat.lt_of_le_of_ne hle fun e=>hI fun p q' hp hq e1 e2=>Classical.byContradiction fun hne=>?_
    have hsub:∀ c∈cs,c∈((List.range m).filter fun x=>decide (x≠p)).map fun x=>[f x,g x]:=fun c hc=>by
     obtain ⟨x,hx,rfl⟩:=List.mem_map.mp (h1 c hc)
     by_cases hxp:x=p
     ·subst hxp
      refine List.mem_map.mpr ⟨q',List.mem_filter.mpr ⟨List.mem_range.mpr hq,by simpa using fun z:q'=x=>hne z.symm⟩,by rw [e1,e2]⟩
     ·exact List.mem_map.mpr ⟨x,List.mem_filter.mpr ⟨hx,by simpa using hxp⟩,rfl⟩
    have hl:=List.Nodup.length_le_of_subset nd hsub
    rw [List.length_map] at hl
    have hlt:((List.range m).filter fun x=>decide (x≠p)).length < m:=by
     have:=List.length_filter_lt_length_iff_exists (l:=List.range m) (p:=fun x=>decide (x≠p)) |>.mpr ⟨p,List.mem_range.mpr hp,by simp⟩
     rwa [List.length_range] at this
    omega
   exact ifT (by show ((cs.length:Nat):Int) < ((m:Nat):Int); omega) ⟨by show 1≤sizeLine; decide,fun dx=>qe hI dx _ s2⟩
theorem comp_its {lo c:Int} {n:Nat} {g:TG} {tc:TT} {te:TE} {σ':St} {H:Hp} {G:Addr→Hp→List V→Prop} (Pv:Nat→List V→Hp→Prop) (h0:Pv 0 [] H)
  (hs:∀ i ys H (N:List V→Hp→Prop),i < n→Pv i ys H→(∀ ys' H',Pv (i + 1) ys' H'→N ys' H')→g (.int (lo + (i:Nat) * c)) σ' H fun σ2 H4=>Weak σ' σ2∧tc σ2 H4 fun b H5=>if b=true then te σ2 H5 fun y H6=>ys.length < sizeLine∧N (ys++[y]) H6 else N ys H5)
  (hd:∀ ys H,Pv n ys H→ys.length≤sizeLine∧∀ p,H p=none→G p H ys) :
  ∃ W:Nat→Nat→List V→Hp→Prop,(∃ m,W 0 m [] H)∧∀ i m ys H2,W i m ys H2→
   ((Its lo c n).stop i H2∧ys.length≤sizeLine∧∀ p,H2 p=none→G p H2 ys)∨
   ((Its lo c n).go i H2∧∀ x H3,(Its lo c n).yld i H2 x H3→g x σ' H3 fun σ2 H4=>Weak σ' σ2∧tc σ2 H4 fun b H5=>
    if b=true then te σ2 H5 fun y H6=>ys.length < sizeLine∧∃ m',m' < m∧W (i + 1) m' (ys++[y]) H6 else ∃ m',m' < m∧W (i + 1) m' ys H5):=by
 refine ⟨fun i m ys H=>m=n - i∧i≤n∧Pv i ys H,⟨n,rfl,Nat.zero_le _,h0⟩,?_⟩
 rintro i m ys H2 ⟨rfl,hi,p⟩
 by_cases hlt:i < n
 ·refine .inr ⟨hlt,fun x H' y=>?_⟩
  obtain ⟨rfl,e⟩:=y
  subst e
  exact hs i ys _ (fun ys' H''=>∃ m',m' < n - i∧m'=n - (i + 1)∧i + 1≤n∧Pv (i + 1) ys' H'') hlt p (fun ys' H'' p'=>⟨_,by omega,rfl,hlt,p'⟩)
 ·have e:i=n:=by omega
  subst e
  exact .inl ⟨Nat.le_refl _,hd ys H2 p⟩
theorem rng_qF:∀ (n:Fin 8) (q:Fin 41),1≤n.val→Builtin.Range.small 0 ((q.val * n.val:Nat):Int) ((n.val:Nat):Int)=true∧Builtin.Range.rangeSize 0 ((q.val * n.val:Nat):Int) ((n.val:Nat):Int)=((q.val:Nat):Int):=by decide +kernel
theorem rng_q {n q:Nat} (h1:1≤n) (hn:n≤7) (hq:q≤40):Builtin.Range.small 0 ((q * n:Nat):Int) ((n:Nat):Int)=true∧Builtin.Range.rangeSize 0 ((q * n:Nat):Int) ((n:Nat):Int)=((q:Nat):Int):=rng_qF ⟨n,by omega⟩ ⟨q,by omega⟩ h1
def prt {α:Type} (n:Nat) (bs:List α) (k:Nat):List α:=(bs.drop (k * n)).take n
theorem cut_prt {xs:List V} {n k:Nat} (h:k * n + n≤xs.length):cutV xs (some ((k * n:Nat):Int)) (some ((k * n + n:Nat):Int))=prt n xs k:=by
 unfold cutV prt
 have e1:HT.sIx xs.length 0 (some ((k * n:Nat):Int))=k * n:=by rw [HT.sIx_nat]; omega
 have e2:HT.sIx xs.length xs.length (some ((k * n + n:Nat):Int))=k * n + n:=by rw [HT.sIx_nat]; omega
 rw [e1,e2,Nat.add_sub_cancel_left]
theorem prt_nats (n:Nat) (L:List Nat) (k:Nat):prt n (nats L) k=nats (prt n L k):=by
 unfold prt nats
 rw [List.map_take,List.map_drop]
theorem prt_len {α:Type} {n k:Nat} {L:List α} (h:k * n + n≤L.length):(prt n L k).length=n:=by
 unfold prt
 rw [List.length_take,List.length_drop]
 omega
theorem row_le {n k:Nat} (h:k < n):k * n + n≤n * n:=by
 have:(k + 1) * n≤n * n:=Nat.mul_le_mul_right n h
 rwa [Nat.succ_mul] at this
def spSB:Sp:=fun vs H Q _=>∃ (l:Addr) (n:Nat) (L:List Nat),vs=[.int ((n:Nat):Int),.ref l]∧H l=some (.lst (nats L))∧L.length=n * n∧1≤n∧n≤7∧∀ (t:Addr) (H':Hp),H t=none→Same H H'→TupSq H' t ((List.range n).map (prt n L))→Q (.ref t) H'
theorem scSquareBack:FnScope ["size", "numbers"] ["size", "numbers"] (defScope sSquareBack):=⟨rfl,rfl,rfl,by decide +kernel,rfl,by decide +kernel,by decide +kernel⟩
theorem ok_sb {f:Addr} {fd:FuncData} (F:Fun K "square_back" "square_back" sSquareBack f fd) (T:TxtB mg):FnOk P w K mg base CX0 1 f fd ["size", "numbers"] spSB:=by
 refine F.okQ scSquareBack (fun vs H Q E h=>?_) (fun cdv A outer s H vs Q E hr h=>?_)
 ·obtain ⟨l,n,L,rfl,_⟩:=h
  rfl
 ·obtain ⟨l,n,L,rfl,hl,hL,hn1,hn7,q⟩:=h
  refine ⟨_,(qss_one (qs_ret (qe_callTy call_tuple_of (by rfl) T.tup (by decide +kernel) (qac (qe_comp (g:=gName 0) (N:=["start", "size", "numbers"]) (src:=[none,some 0,some 1]) rfl (comp_scope (defScope sSquareBack) ["size", "numbers"] rfl rfl (by decide +kernel) rfl) (qi_range3 rfl T.range (qac qe_int (qac (qe_op op_mul (qv 0) (qv 0)) (qac (qv 0) qa_nil)))) (fun _ _ _ _ _=>(qg_name (i:=0) (show (["start", "size", "numbers"]:List Str).Nodup by decide +kernel) rfl (Or.inl rfl) (Or.inr rfl))) (fun _ _ _ _ _=>qif_nil) (fun _ _ _ _ _=>(qe_callTy (show CallR _ _ (rTupQ K) from call_tupQ) (by rfl) T.tup (by decide +kernel) (qac (qe_slice (show SlR _ (rSlL K) from sl_list) (qv 2) (qo_some (qv 0)) (qo_some (qe_op op_add (qv 0) (qv 1)))) qa_nil)))) qa_nil)))),?_⟩
  obtain ⟨sm,rs⟩:=rng_q (q:=n) hn1 hn7 (by omega)
  refine ⟨_,rfl,_,rfl,_,_,rfl,rfl,.inl ⟨by omega,by omega⟩,_,rfl,0,((n * n:Nat):Int),((n:Nat):Int),n,by dsimp only; rw [Int.natCast_mul],by omega,by omega,sm,rs,?_⟩
  refine comp_its (lo:=0) (c:=((n:Nat):Int)) (n:=n) (fun i ys H2=>Same H H2∧TpAt H2 ys ((List.range i).map (prt n L))) ⟨Same.refl _,trivial⟩ ?_ ?_
  ·rintro i ys H2 N hi ⟨s2,hT⟩ nx
   rw [Int.zero_add,← Int.natCast_mul]
   have hle:i * n + n≤(nats L).length:=by rw [nats_len,hL]; exact row_le hi
   refine ⟨Weak.set (by intro v z; cases z),⟨_,rfl,_,rfl,_,rfl,_,rfl,_,rfl,_,_,rfl,rfl,_,rfl,l,_,rfl,SqL.of (s2 _ _ hl),fun p hp=>?_⟩⟩
   dsimp only
   rw [show ((i * n:Nat):Int) + ((n:Nat):Int)=((i * n + n:Nat):Int) by omega,cut_prt hle,prt_nats]
   have w1:=same_new (o:=.lst (nats (prt n L i))) hp
   refine ⟨p,_,rfl,.inl ⟨SqL.of upd_same,fun t ht=>⟨?_,nx _ _ ⟨s2.trans (w1.trans (same_new ht)),?_⟩⟩⟩⟩
   ·rw [hT.len,List.length_map,List.length_range]
    exact Nat.lt_of_lt_of_le (show i < 8 by omega) (by decide)
   ·rw [List.range_succ,List.map_append]
    exact ((hT.sm w1).sm (same_new ht)).snoc upd_same
  ·rintro ys H2 ⟨s2,hT⟩
   refine ⟨by rw [hT.len,List.length_map,List.length_range]; exact Nat.le_trans hn7 (by decide),fun r hr=>⟨r,_,rfl,.inl ⟨SqL.of upd_same,fun t ht=>?_⟩⟩⟩
   have w1:=same_new (o:=.lst ys) hr
   have w2:=same_new (o:=.tup ys) ht
   exact q t _ ((s2.trans w1).free ht) (s2.trans (w1.trans w2)) ⟨ys,upd_same,hT.sm (w1.trans w2)⟩
theorem inj_perm {n:Nat} {f:Nat→Nat} (h1:∀ x,x < n→f x < n) (h2:∀ x y,x < n→y < n→f x=f y→x=y):((List.range n).map f).Perm (List.range n):=by
 have nd:((List.range n).map f).Nodup:=by
  rw [List.nodup_iff_pairwise_ne,List.pairwise_map]
  exact (List.nodup_iff_pairwise_ne.mp List.nodup_range).imp_of_mem fun ha hb h e=>h (h2 _ _ (List.mem_range.mp ha) (List.mem_range.mp hb) e)
 have sub:∀ x∈(List.range n).map f,x∈List.range n:=fun x hx=>by
  obtain ⟨y,hy,rfl⟩:=List.mem_map.mp hx
  exact List.mem_range.mpr (h1 y (List.mem_range.mp hy))
 rw [List.perm_iff_count]
 intro x
 rw [nd.count,List.nodup_range.count]
 have e:x∈(List.range n).map f↔x∈List.range n:=by
  refine ⟨sub x,fun hx=>Classical.byContradiction fun hn=>?_⟩
  have nd2:(x::(List.range n).map f).Nodup:=List.nodup_cons.mpr ⟨hn,nd⟩
  have:=List.Nodup.length_le_of_subset nd2 (l₂:=List.range n) fun y hy=>by
   rcases List.mem_cons.mp hy with rfl | hy
   ·exact hx
   ·exact sub y hy
  rw [List.length_cons,List.length_map,List.length_range] at this
  omega
 by_cases hx:x∈List.range n
 ·rw [if_pos hx,if_pos (e.mpr hx)]
 ·rw [if_neg hx,if_neg fun z=>hx (e.mp z)]
theorem inj_onto {n:Nat} {f:Nat→Nat} (h1:∀ x,x < n→f x < n) (h2:∀ x y,x < n→y < n→f x=f y→x=y) {c:Nat} (hc:c < n):∃ p,p < n∧f p=c:=by
 have:=(inj_perm h1 h2).mem_iff.mpr (List.mem_range.mpr hc)
 obtain ⟨p,hp,e⟩:=List.mem_map.mp this
 exact ⟨p,List.mem_range.mp hp,e⟩
theorem nm_ex {m:Nat} {bs:List (List Nat)} (h:Part m bs) {p:Nat} (hp:p < m):∃ b∈bs,decide (p∈b)=true:=by
 obtain ⟨b,hb,hpb⟩:=List.mem_flatten.mp (h.2 p hp)
 exact ⟨b,hb,decide_eq_true hpb⟩
theorem nm_lt {m:Nat} {bs:List (List Nat)} (h:Part m bs) {p:Nat} (hp:p < m):nmL bs p < bs.length:=List.findIdx_lt_length_of_exists (nm_ex h hp)
theorem nm_mem {m:Nat} {bs:List (List Nat)} (h:Part m bs) {p:Nat} (hp:p < m):∃ b,bs[nmL bs p]?=some b∧p∈b:=by
 have hl:=nm_lt h hp
 refine ⟨bs[nmL bs p],List.getElem?_eq_getElem hl,?_⟩
 have:=List.findIdx_getElem (xs:=bs) (p:=fun b=>decide (p∈b)) (w:=hl)
 exact of_decide_eq_true this
theorem fl_apart:∀ {bs:List (List Nat)} {i j:Nat} {a b:List Nat} {p:Nat},bs.flatten.Nodup→bs[i]?=some a→bs[j]?=some b→p∈a→p∈b→i=j
 | [],_,_,_,_,_,_,h,_,_,_=>by simp at h
 | c::bs,0,0,_,_,_,_,_,_,_,_=>rfl
 | c::bs,0,j + 1,a,b,p,nd,ha,hb,hpa,hpb=>by
  cases ha
  rw [List.getElem?_cons_succ] at hb
  rw [List.flatten_cons,List.nodup_append] at nd
  exact (nd.2.2 p hpa p (List.mem_flatten.mpr ⟨b,List.mem_of_getElem? hb,hpb⟩) rfl).elim
 | c::bs,i + 1,0,a,b,p,nd,ha,hb,hpa,hpb=>by
  cases hb
  rw [List.getElem?_cons_succ] at ha
  rw [List.flatten_cons,List.nodup_append] at nd
  exact (nd.2.2 p hpb p (List.mem_flatten.mpr ⟨a,List.mem_of_getElem? ha,hpa⟩) rfl).elim
 | c::bs,i + 1,j + 1,a,b,p,nd,ha,hb,hpa,hpb=>by
  rw [List.getElem?_cons_succ] at ha hb
  rw [List.flatten_cons,List.nodup_append] at nd
  rw [fl_apart nd.2.1 ha hb hpa hpb]
theorem nm_at {m:Nat} {bs:List (List Nat)} (h:Part m bs) {i p:Nat} {b:List Nat} (hb:bs[i]?=some b) (hpb:p∈b) (hp:p < m):nmL bs p=i:=by
 obtain ⟨c,hc,hpc⟩:=nm_mem h hp
 exact fl_apart h.1 hc hb hpc hpb
def Inj (m:Nat) (A B:List (List Nat)):Prop:=∀ p q,p < m→q < m→nmL A p=nmL A q→nmL B p=nmL B q→p=q
structure Back (n m:Nat) (bs:List (List Nat)) (k:Nat):Prop where
 sq:n * n=m
 len:bs.length=k * n
 two:2≤k
 part:∀ i,i < k→Part m (prt n bs i)
 inj:∀ i j,j < i→i < k→Inj m (prt n bs i) (prt n bs j)
def kap (n:Nat) (A B:List (List Nat)) (p:Nat):Nat:=nmL A p * n + nmL B p
theorem kap_lt {n m:Nat} {A B:List (List Nat)} (hm:n * n=m) (hA:Part m A) (hB:Part m B) (la:A.length=n) (lb:B.length=n) {p:Nat} (hp:p < m):kap n A B p < m:=by
 unfold kap
 have h1:=nm_lt hA hp
 have h2:=nm_lt hB hp
 have h3:=row_le (show nmL A p < n by omega)
 omega
theorem div_of {n a b:Nat} (hb:b < n):(a * n + b) / n=a∧(a * n + b) % n=b:=by
 have hn:0 < n:=by omega
 refine ⟨?_,?_⟩
 ·rw [Nat.add_comm,Nat.add_mul_div_right _ _ hn,Nat.div_eq_of_lt hb,Nat.zero_add]
 ·rw [Nat.add_comm,Nat.add_mul_mod_self_right,Nat.mod_eq_of_lt hb]
theorem kap_inj {n m:Nat} {A B:List (List Nat)} (hB:Part m B) (lb:B.length=n) (hI:Inj m A B) {p q:Nat} (hp:p < m) (hq:q < m) (e:kap n A B p=kap n A B q):p=q:=by
 have h1:=div_of (a:=nmL A p) (show nmL B p < n by have:=nm_lt hB hp; omega)
 have h2:=div_of (a:=nmL A q) (show nmL B q < n by have:=nm_lt hB hq; omega)
 unfold kap at e
 rw [e] at h1
 exact hI p q hp hq (h1.1.symm.trans h2.1) (h1.2.symm.trans h2.2)
def ptf (n m:Nat) (A B:List (List Nat)) (c:Nat):Nat:=((List.range m).find? fun p=>decide (kap n A B p=c)).getD 0
theorem ptf_kap {n m:Nat} {A B:List (List Nat)} (hB:Part m B) (lb:B.length=n) (hI:Inj m A B) {p:Nat} (hp:p < m):ptf n m A B (kap n A B p)=p:=by
 unfold ptf
 cases h:(List.range m).find? fun q=>decide (kap n A B q=kap n A B p) with
 | none=>
  rw [List.find?_eq_none] at h
  exact (h p (List.mem_range.mpr hp) (decide_eq_true rfl)).elim
 | some q=>
  have h1:kap n A B q=kap n A B p:=by
   have:=List.find?_some h
   exact of_decide_eq_true this
  have h2:=List.mem_range.mp (List.mem_of_find?_eq_some h)
  exact kap_inj hB lb hI h2 hp h1
def ptK (n m:Nat) (A B:List (List Nat)) (i:Nat) (c:Nat):Nat:=if (List.range i).any (fun p=>decide (kap n A B p=c)) then ptf n m A B c else 0
theorem ptK_set {n m i:Nat} {A B:List (List Nat)} (hB:Part m B) (lb:B.length=n) (hI:Inj m A B) (hi:i < m):(nats ((List.range m).map (ptK n m A B i))).set (kap n A B i) (.int ((i:Nat):Int))=nats ((List.range m).map (ptK n m A B (i + 1))):=by
 unfold nats
 apply List.ext_getElem
 ·simp
 intro j h1 h2
 rw [List.getElem_set]
 simp only [List.getElem_map,List.getElem_range]
 unfold ptK
 rw [List.range_succ,List.any_append]
 by_cases h:kap n A B i=j
 ·subst h
  rw [if_pos rfl,if_pos (by simp),ptf_kap hB lb hI hi]
 ·rw [if_neg h]
  simp [h]
theorem ptK_all {n m:Nat} {A B:List (List Nat)} (hm:n * n=m) (hA:Part m A) (hB:Part m B) (la:A.length=n) (lb:B.length=n) (hI:Inj m A B):(List.range m).map (ptK n m A B m)=(List.range m).map (ptf n m A B):=by
 refine List.map_congr_left fun c hc=>?_
 obtain ⟨p,hp,e⟩:=inj_onto (fun x hx=>kap_lt hm hA hB la lb hx) (fun x y hx hy e=>kap_inj hB lb hI hx hy e) (List.mem_range.mp hc)
 unfold ptK
 rw [if_pos]
 rw [List.any_eq_true]
 exact ⟨p,List.mem_range.mpr hp,decide_eq_true e⟩
theorem ptf_lt {n m:Nat} {A B:List (List Nat)} (hm1:0 < m) (c:Nat):ptf n m A B c < m:=by
 unfold ptf
 cases h:(List.range m).find? fun q=>decide (kap n A B q=c) with
 | none=>exact hm1
 | some q=>exact List.mem_range.mp (List.mem_of_find?_eq_some h)
def sqB (n m:Nat) (bs:List (List Nat)) (k:Nat):List (List Nat):=(List.range n).map (prt n ((List.range m).map fun c=>nmL (prt n bs k) (ptf n m (prt n bs 0) (prt n bs 1) c)))
def backL (n m:Nat) (bs:List (List Nat)) (k:Nat):List (List (List Nat)):=(List.range (k - 2)).map fun j=>sqB n m bs (j + 2)
theorem back_n {n m k r:Nat} {bs:List (List Nat)} (h:Back n m bs k) (h1:r * r≤m) (h2:m < (r + 1) * (r + 1)):n=r:=by
 have e:=h.sq
 rcases Nat.lt_trichotomy n r with z | z | z
 ·have:=Nat.mul_le_mul (show n + 1≤r from z) (show n + 1≤r from z)
  have h3:(n + 1) * (n + 1)=n * n + (2 * n + 1):=by rw [Nat.mul_add,Nat.add_mul]; omega
  omega
 ·exact z
 ·have:=Nat.mul_le_mul (show r + 1≤n from z) (show r + 1≤n from z)
  omega
theorem tp_drop {H:Hp}:∀ {vs:List V} {bs:List (List Nat)} (n:Nat),TpAt H vs bs→TpAt H (vs.drop n) (bs.drop n)
 | [],[],_,_=>by simp [TpAt]
 | _::_,_::_,0,h=>h
 | _::_,_::_,n + 1,⟨_,t⟩=>tp_drop n t
def spBack (C:Addr):Sp:=fun vs H Q E=>∃ (t l:Addr) (m:Nat) (ws:List V) (bs:List (List Nat)),vs=[.ref t]∧H t=some (.tup [.int ((m:Nat):Int),.ref l])∧H l=some (.tup ws)∧TpAt H ws bs∧(∀ b∈bs,∀ x∈b,x < m)∧1≤m∧m≤40∧bs.length≤40∧
 (∀ n k,Back n m bs k→∀ (g:Addr) (us:List V) (H':Hp),H g=none→Same H H'→H' g=some (.lst us)→SqsAt H' us (backL n m bs k)→Q (.ref g) H')∧((∀ n k,¬Back n m bs k)→∀ dx H',Same H H'→E (.ref C) dx H')
theorem scSquaresBack:FnScope ["M", "size", "classes", "place", "numbers", "other", "points", "point"] ["M"] (defScope sSquaresBack):=⟨rfl,rfl,rfl,by decide +kernel,rfl,by decide +kernel,by decide +kernel⟩
theorem ok_back {C:Addr} {f:Addr} {fd:FuncData} (F:Fun K "squares_back" "squares_back" sSquaresBack f fd) (T:TxtB mg) (eC:PySem.W.ExcK K C) (mC:mg "NoNet"=some (.ref C)) (pRoot:Pm P w K mg base CX0 4 "root_of" ["n"] spRoot0) (pNumbersByClass:Pm P w K mg base (CXD P w) 1 "numbers_by_class" ["points", "blocks"] (spNbc C)) (pMustCross:Pm P w K mg base (CXD P w) 1 "must_cross" ["numbers", "others"] (spCross C)) (pSquareBack:Pm P w K mg base CX0 1 "square_back" ["size", "numbers"] spSB):FnOk P w K mg base (CXD P w) 5 f fd ["M"] (spBack C):=by
 refine F.okXFQ scSquaresBack (fun vs H Q E h=>?_) (fun cdv A outer s H vs Q E hr4 h=>?_)
 ·obtain ⟨t,l,m,ws,bs,rfl,_⟩:=h
  rfl
 ·obtain ⟨t,l,m,ws,bs,rfl,ht,hl,hT,hlt,hm1,hm,hbl,q,qe⟩:=h
  have hr1:=hr4.mono (show 1≤4 by decide)
  refine ⟨_,(qss_cons (qs_set (i:=1) scSquaresBack.nd rfl (Or.inr rfl) (QE.nox (qe_callP pRoot hr4 rfl pass0 (qac (qe_ix ix_tup (qv 0) qe_int (fun _ _=>rfl)) qa_nil))))
   (qss_cons (qs_if (QW.pt (qw_or (qt_cmpR op_ne (qe_op op_mul (qv 1) (qv 1)) (qe_ix ix_tup (qv 0) qe_int (fun _ _=>rfl)) (nomark _)) (qw_or (qt_cmpR op_ne (qe_op op_mod (qe_callB call_len_seq (by rfl) T.len PySem.boot_len (qac (qe_ix ix_tup (qv 0) qe_int (fun _ _=>rfl)) qa_nil)) (qv 1)) qe_int (nomark _)) (qw_or1 (qt_cmpR op_lt (qe_callB call_len_seq (by rfl) T.len PySem.boot_len (qac (qe_ix ix_tup (qv 0) qe_int (fun _ _=>rfl)) qa_nil)) (qe_op op_mul qe_int (qv 1)) (nomark _)))))) (qss_one (qs_raiseF eC.ex rfl mC rfl rfl (qac qe_str qa_nil))) qss_nil)
   (qss_cons (qs_setCompX (i:=2) (g:=gName 0) (N:=["start", "M", "size"]) (src:=[none,some 0,some 1]) rfl rfl rfl ⟨_,rfl⟩ rfl (comp_scope (defScope sSquaresBack) ["M", "size", "classes", "place", "numbers", "other", "points", "point"] rfl rfl (by decide +kernel) rfl) (qi_range3 rfl T.range (qac qe_int (qac (qe_callB call_len_seq (by rfl) T.len PySem.boot_len (qac (qe_ix ix_tup (qv 0) qe_int (fun _ _=>rfl)) qa_nil)) (qac (qv 1) qa_nil)))) (fun _ _ _ _ _=>(qg_name (i:=0) (show (["start", "M", "size"]:List Str).Nodup by decide +kernel) rfl (Or.inl rfl) (Or.inr rfl))) (fun _ _ _ _ _=>qif_nil) (fun _ _ _ _ _ pp=>(qe_callP pNumbersByClass hr1 rfl pp (qac (qe_ix (show IxR _ (rIxT K) from ix_tup) (qv 1) qe_int (fun _ _=>rfl)) (qac (qe_slice (show SlR _ rSlA from sl_tupA) (qe_ix (show IxR _ (rIxT K) from ix_tup) (qv 1) qe_int (fun _ _=>rfl)) (qo_some (qv 0)) (qo_some (qe_op op_add (qv 0) (qv 2)))) qa_nil)))) (qg_name (i:=2) scSquaresBack.nd rfl (Or.inl rfl)))
   (qss_cons (qs_for (passesF rfl ⟨_,rfl⟩ rfl rfl) rfl (qi_enum rfl T.enu (qac (qv 2) qa_nil)) (qg_tup rfl (qgs_cons (qg_name (i:=3) scSquaresBack.nd rfl (Or.inl rfl)) (qgs_cons (qg_name (i:=4) scSquaresBack.nd rfl (Or.inl rfl)) qgs_nil)))
    (qss_one (qs_for (passesF rfl ⟨_,rfl⟩ rfl rfl) rfl (qi_list (qe_slice sl_list (qv 2) qo_none (qo_some (qv 3)))) (qg_name (i:=5) scSquaresBack.nd rfl (Or.inl rfl))
     (qss_one (qs_expr (qe_callP pMustCross hr1 rfl (passF rfl) (qac (qv 4) (qac (qv 5) qa_nil))))))))
   (qss_cons (qs_set (i:=6) scSquaresBack.nd rfl (Or.inr rfl) (qe_op op_mulL (qe_lst (qac qe_int qa_nil)) (qe_ix ix_tup (qv 0) qe_int (fun _ _=>rfl))))
   (qss_cons (qs_for (passesF rfl ⟨_,rfl⟩ rfl rfl) rfl (qi_range1 rfl T.range (qac (qe_ix ix_tup (qv 0) qe_int (fun _ _=>rfl)) qa_nil)) (qg_name (i:=7) scSquaresBack.nd rfl (Or.inl rfl))
    (qss_one (qs_asg (qv 7) (qg_sub (qv 6) (qe_op op_add (qe_op op_mul (qe_ix ix_list (qe_ix ix_list (qv 2) qe_int (fun _ _=>rfl)) (qv 7) (fun _ _=>rfl)) (qv 1)) (qe_ix ix_list (qe_ix ix_list (qv 2) qe_int (fun _ _=>rfl)) (qv 7) (fun _ _=>rfl))) set_list (fun _=>rfl)))))
   (qss_one (qs_ret (QE.nox (qe_comp (g:=gName 0) (N:=["numbers", "size", "points"]) (src:=[none,some 1,some 6]) rfl (comp_scope (defScope sSquaresBack) ["M", "size", "classes", "place", "numbers", "other", "points", "point"] rfl rfl (by decide +kernel) rfl) (qi_list (qe_slice sl_list (qv 2) (qo_some qe_int) qo_none)) (fun _ _ _ _ _=>(qg_name (i:=0) (show (["numbers", "size", "points"]:List Str).Nodup by decide +kernel) rfl (Or.inr rfl) (Or.inl rfl))) (fun _ _ _ _ _=>qif_nil) (fun _ _ _ _ _=>(qe_callP pSquareBack hr1 rfl pass0 (qac (qv 1) (qac (qe_comp (g:=gName 0) (N:=["point", "numbers"]) (src:=[none,some 0]) rfl (comp_scopeX ["numbers", "size", "points"] rfl rfl rfl) (show QI _ _ _ (iList K _) from qi_list (qv 2)) (fun _ _ _ _ _=>(qg_name (i:=0) (show (["point", "numbers"]:List Str).Nodup by decide +kernel) rfl (Or.inl rfl) (Or.inr rfl))) (fun _ _ _ _ _=>qif_nil) (fun _ _ _ _ _=>(qe_ix (show IxR _ (rIxL K) from ix_list) (qv 1) (qv 0) (fun _ _=>rfl)))) qa_nil)))))))))))))),?_⟩
  refine ⟨_,rfl,t,_,0,.int ((m:Nat):Int),rfl,rfl,SqT.of ht,rfl,m,rfl,by omega,fun r hra hrb=>?_⟩
  have hr1':1≤r:=by
   rcases Nat.eq_zero_or_pos r with z | z
   ·subst z
    simp at hrb
    omega
   ·exact z
  have hr6:r≤6:=by
   refine Classical.byContradiction fun z=>?_
   have:=Nat.mul_le_mul (show 7≤r by omega) (show 7≤r by omega)
   omega
  have hwl:=hT.len
  refine ⟨_,rfl,_,rfl,_,_,rfl,rfl,.inl ⟨by omega,by omega⟩,_,rfl,t,_,0,.int ((m:Nat):Int),rfl,rfl,SqT.of ht,rfl,rfl,_,rfl,?_⟩
  by_cases hsq:r * r=m
  rotate_left
  ·show if (!decide (V.int (((r:Nat):Int) * ((r:Nat):Int))=V.int ((m:Nat):Int)))=true then _ else _
   rw [decide_eq_false (fun z=>hsq (by injection z with z; rw [← Int.natCast_mul] at z; exact Int.ofNat.inj z))]
   exact iteT (iteT ⟨by show 1≤sizeLine; decide,fun dx=>qe (fun n k hB=>hsq (by rw [← back_n hB hra hrb]; exact hB.sq)) dx _ (Same.refl _)⟩)
  refine iteNS (by show V.int (((r:Nat):Int) * ((r:Nat):Int))=V.int ((m:Nat):Int); rw [← Int.natCast_mul,hsq]) ?_
  refine ⟨_,rfl,t,_,1,.ref l,rfl,rfl,SqT.of ht,rfl,l,ws,rfl,.inr (SqT.of hl),_,rfl,_,_,rfl,rfl,by omega,rfl,_,rfl,?_⟩
  by_cases hmod:bs.length % r=0
  rotate_left
  ·show if (!decide (V.int (((ws.length:Nat):Int) % ((r:Nat):Int))=V.int 0))=true then _ else _
   rw [decide_eq_false (fun z=>hmod (by injection z with z; rw [hwl,← Int.natCast_emod] at z; exact Int.ofNat.inj z))]
   exact iteT (iteT ⟨by show 1≤sizeLine; decide,fun dx=>qe (fun n k hB=>hmod (by rw [← back_n hB hra hrb,hB.len]; exact Nat.mul_mod_left _ _)) dx _ (Same.refl _)⟩)
  refine iteNS (by show V.int (((ws.length:Nat):Int) % ((r:Nat):Int))=V.int 0; rw [hwl,← Int.natCast_emod,hmod]; rfl) ?_
  refine ⟨_,rfl,t,_,1,.ref l,rfl,rfl,SqT.of ht,rfl,l,ws,rfl,.inr (SqT.of hl),_,rfl,_,_,rfl,rfl,.inl ⟨by omega,by omega⟩,_,_,rfl,rfl,_,rfl,?_⟩
  by_cases htwo:bs.length < 2 * r
  ·exact ifT (by show ((ws.length:Nat):Int) < 2 * ((r:Nat):Int); omega) ⟨by show 1≤sizeLine; decide,fun dx=>qe (fun n k hB=>by
    have e:=back_n hB hra hrb
    have h1:=hB.len
    have h2:=Nat.mul_le_mul_right n hB.two
    rw [e] at h1 h2
    omega) dx _ (Same.refl _)⟩
  refine ifF (by show ¬((ws.length:Nat):Int) < 2 * ((r:Nat):Int); omega) ?_
  obtain ⟨k,hk⟩:∃ k,bs.length=k * r:=⟨bs.length / r,by
   have:=Nat.div_add_mod bs.length r
   rw [hmod,Nat.add_zero,Nat.mul_comm] at this
   exact this.symm⟩
  have hk2:2≤k:=by
   refine Classical.byContradiction fun z=>htwo ?_
   rw [hk]
   exact (Nat.mul_lt_mul_right (by omega)).mpr (by omega)
  have hk40:k≤40:=by
   have:=Nat.mul_le_mul_left k hr1'
   omega
  have hpb:∀ i,i < k→∀ b∈prt r bs i,∀ x∈b,x < m:=fun i hi b hb=>hlt b (List.mem_of_mem_drop (List.mem_of_mem_take hb))
  have hil:∀ i,i < k→i * r + r≤bs.length:=fun i hi=>by
   rw [hk]
   have:(i + 1) * r≤k * r:=Nat.mul_le_mul_right r hi
   rwa [Nat.succ_mul] at this
  obtain ⟨sm,rs⟩:=rng_q (q:=k) hr1' (by omega) hk40
  refine ⟨_,rfl,t,_,1,.ref l,rfl,rfl,SqT.of ht,rfl,l,ws,rfl,.inr (SqT.of hl),_,rfl,0,((k * r:Nat):Int),((r:Nat):Int),k,by rw [hwl,hk],by omega,by omega,sm,rs,?_⟩
  refine comp_its (lo:=0) (c:=((r:Nat):Int)) (n:=k) (fun i ys H2=>Same H H2∧BlAt H2 ys ((List.range i).map fun j=>(List.range m).map (nmL (prt r bs j)))∧∀ j,j < i→Part m (prt r bs j)) ⟨Same.refl _,trivial,nofun⟩ ?_ ?_
  ·rintro i ys H2 N hi ⟨s2,hB,hP⟩ nx
   rw [Int.zero_add,← Int.natCast_mul]
   refine ⟨Weak.set (by intro v z; cases z),⟨_,rfl,t,_,0,.int ((m:Nat):Int),rfl,rfl,SqT.of (s2 _ _ ht),rfl,_,rfl,t,_,1,.ref l,rfl,rfl,SqT.of (s2 _ _ ht),rfl,_,rfl,_,rfl,_,rfl,_,rfl,_,_,rfl,rfl,_,rfl,l,ws,rfl,s2 _ _ hl,fun p H3 s3 hp3=>?_⟩⟩
   rw [show ((i * r:Nat):Int) + ((r:Nat):Int)=((i * r + r:Nat):Int) by omega,cut_prt (by rw [hwl]; exact hil i hi)] at hp3
   have hTp:TpAt H3 (prt r ws i) (prt r bs i):=by
    unfold prt
    exact (tp_drop _ (hT.sm (s2.trans s3))).take _
   refine ⟨p,m,_,_,rfl,hp3,hTp,hpb i hi,by omega,by rw [prt_len (hil i hi)]; omega,fun hpart t' H4 ht' s4 ht4=>⟨?_,nx _ _ ⟨s2.trans (s3.trans s4),?_,?_⟩⟩,fun hnp dx H4 s4=>qe (fun n k' hBk=>hnp ?_) dx _ (s2.trans (s3.trans s4))⟩
   ·rw [hB.len,List.length_map,List.length_range]
    exact Nat.lt_of_lt_of_le (show i < 41 by omega) (by decide)
   ·rw [List.range_succ,List.map_append]
    exact ((hB.same s3).same s4).snoc ht4
   ·intro j hj
    by_cases hji:j < i
    ·exact hP j hji
    ·rw [show j=i by omega]
     exact hpart
   ·have e:=back_n hBk hra hrb
    subst e
    have hkk:k'=k:=by
     have:=hBk.len
     rw [hk] at this
     exact (Nat.eq_of_mul_eq_mul_right (by omega) this).symm
    exact hBk.part i (by omega)
  rintro ys H2 ⟨s2,hB,hP⟩
  have hyl:ys.length=k:=by rw [hB.len,List.length_map,List.length_range]
  refine ⟨Nat.le_trans (show ys.length≤40 by omega) (by decide),fun c hc=>?_⟩
  have w1:=same_new (o:=.lst ys) hc
  have hc3:L2.upd H2 c (.lst ys) c=some (.lst ys):=upd_same
  have hB3:=hB.same w1
  have s3:Same H (L2.upd H2 c (.lst ys)):=s2.trans w1
  have hc0:H c=none:=s2.free hc
  dsimp only [gName]
  generalize L2.upd H2 c (.lst ys)=H3 at hc3 hB3 s3 ⊢
  clear w1 hc hB s2
  have gcl:∀ {H4:Hp},Same H3 H4→∀ j,j < k→∃ a,ys[j]?=some (.ref a)∧H4 a=some (.lst (nats ((List.range m).map (nmL (prt r bs j))))):=fun {H4} s4 j hj=>by
   have g:ys[j]?=some (ys[j]'(by omega)):=List.getElem?_eq_getElem _
   obtain ⟨a,b,e,hb,ha⟩:=(hB3.same s4).get g
   rw [List.getElem?_map,List.getElem?_range hj] at hb
   cases hb
   exact ⟨a,by rw [g,e],ha⟩
  have bN:∀ {n k'},Back n m bs k'→n=r∧k'=k:=fun {n k'} hBk=>by
   have e:=back_n hBk hra hrb
   refine ⟨e,?_⟩
   subst e
   have:=hBk.len
   rw [hk] at this
   exact (Nat.eq_of_mul_eq_mul_right (by omega) this).symm
  refine ⟨_,rfl,c,rfl,⟨_,SqL.of hc3⟩,for_enum (K:=K) (a:=c) (xs:=ys) (fun i σ H4=>Same H3 H4∧(∃ x3 x4 x5:Option V,σ=[some (.ref t),some (.int ((r:Nat):Int)),some (.ref c),x3,x4,x5,none,none])∧∀ a b,b < a→a < i→Inj m (prt r bs a) (prt r bs b)) ⟨Same.refl _,⟨none,none,none,rfl⟩,fun a b _ h=>absurd h (Nat.not_lt_zero _)⟩ (fun i σ H4 _ ⟨s4,_⟩=>SqL.of (s4 _ _ hc3)) ?_ ?_⟩
  ·rintro i v U σ H4 hi ⟨s4,⟨x3,x4,x5,rfl⟩,hI⟩ hU
   have hik:i < k:=by
    have:=(List.getElem?_eq_some_iff.mp hi).1
    omega
   obtain ⟨a,ea,ha⟩:=gcl s4 i hik
   rw [ea] at hi
   cases hi
   have v1:=same_new (o:=.tup [.int (i:Nat),.ref a]) hU
   refine ⟨U,_,rfl,SqT.of upd_same,rfl,_,_,rfl,_,_,rfl,rfl,?_⟩
   have s5:=s4.trans v1
   generalize L2.upd H4 U (.tup [.int (i:Nat),.ref a])=H5 at s5 ⊢
   refine ⟨_,rfl,_,rfl,_,rfl,c,_,rfl,SqL.of (s5 _ _ hc3),fun p hp=>?_⟩
   rw [cut_to (by omega)]
   have v2:=same_new (o:=.lst (ys.take i)) hp
   have s6:=s5.trans v2
   have hp6:L2.upd H5 p (.lst (ys.take i)) p=some (.lst (ys.take i)):=upd_same
   generalize L2.upd H5 p (.lst (ys.take i))=H6 at s6 hp6 ⊢
   refine ⟨p,rfl,⟨_,SqL.of hp6⟩,for_list (K:=K) (xs:=ys.take i) (fun j σ H7=>Same H6 H7∧(∃ x5:Option V,σ=[some (.ref t),some (.int ((r:Nat):Int)),some (.ref c),some (.int (i:Nat)),some (.ref a),x5,none,none])∧∀ b,b < j→Inj m (prt r bs i) (prt r bs b)) ⟨Same.refl _,⟨x5,rfl⟩,nofun⟩ (fun j σ H7 _ ⟨s7,_⟩=>SqL.of (s7 _ _ hp6)) ?_ ?_⟩
   ·rintro j v σ H7 hj ⟨s7,⟨x5,rfl⟩,hJ⟩
    have hji:j < i:=by
     have:=(List.getElem?_eq_some_iff.mp hj).1
     rw [List.length_take] at this
     omega
    rw [List.getElem?_take_of_lt hji] at hj
    obtain ⟨b,eb,hb⟩:=gcl (s6.trans s7) j (by omega)
    rw [eb] at hj
    cases hj
    obtain ⟨a',ea',ha'⟩:=gcl (s6.trans s7) i hik
    rw [ea] at ea'
    cases ea'
    refine ⟨_,rfl,_,rfl,a,b,m,_,_,rfl,ha',hb,by omega,fun hx H8 s8=>⟨s7.trans s8,⟨_,rfl⟩,fun b' hb'=>?_⟩,fun hx dx H8 s8=>qe (fun n k' hBk=>hx ?_) dx _ (s3.trans (s6.trans (s7.trans s8)))⟩
    ·by_cases hlt':b' < j
     ·exact hJ b' hlt'
     ·rw [show b'=j by omega]
      exact hx
    ·obtain ⟨rfl,rfl⟩:=bN hBk
     exact hBk.inj i j hji hik
   ·rintro σ H7 ⟨s7,⟨x5,rfl⟩,hJ⟩
    refine ⟨s6.trans s7,⟨_,_,_,rfl⟩,fun a' b' hba hai=>?_⟩
    by_cases hlt':a' < i
    ·exact hI a' b' hba hlt'
    ·rw [show a'=i by omega] at hba ⊢
     exact hJ b' (by rw [List.length_take]; omega)
  ·rintro σ H4 ⟨s4,⟨x3,x4,x5,rfl⟩,hI⟩
   rw [hyl] at hI
   have hBack:Back r m bs k:=⟨hsq,hk,hk2,hP,fun i j hji hik=>hI i j hji hik⟩
   have la:(prt r bs 0).length=r:=prt_len (hil 0 (by omega))
   have lb:(prt r bs 1).length=r:=prt_len (hil 1 (by omega))
   have hPA:=hP 0 (by omega)
   have hPB:=hP 1 (by omega)
   have hAB:Inj m (prt r bs 0) (prt r bs 1):=fun p q hp hq e1 e2=>hI 1 0 (by omega) (by omega) p q hp hq e2 e1
   have s34:=s3.trans s4
   refine ⟨by show 1≤sizeLine; decide,fun d hd=>?_⟩
   have w1:=same_new (o:=.lst [V.int 0]) hd
   refine ⟨_,rfl,t,_,0,.int ((m:Nat):Int),rfl,rfl,SqT.of (w1 _ _ (s34 _ _ ht)),rfl,d,[V.int 0],(m:Int),rfl,rfl,SqL.of upd_same,by omega,by omega,by rw [List.length_singleton,Int.toNat_natCast]; omega,fun pt hpt=>?_⟩
   have ez:(List.replicate ((m:Nat):Int).toNat [V.int 0]).flatten=nats ((List.range m).map (ptK r m (prt r bs 0) (prt r bs 1) 0)):=by
    rw [Int.toNat_natCast]
    have:∀ j:Nat,(List.replicate j [V.int 0]).flatten=nats ((List.range j).map (ptK r m (prt r bs 0) (prt r bs 1) 0)):=fun j=>by
     induction j with
     | zero=>rfl
     | succ j ih=>
      rw [List.replicate_succ',List.flatten_append,ih,List.range_succ,List.map_append,List.map_cons,List.map_nil,nats_snoc]
      rfl
    exact this m
   rw [ez]
   have w2:=same_new (o:=.lst (nats ((List.range m).map (ptK r m (prt r bs 0) (prt r bs 1) 0)))) hpt
   have s5:=s4.trans (w1.trans w2)
   have hp5:L2.upd (L2.upd H4 d (.lst [V.int 0])) pt (.lst (nats ((List.range m).map (ptK r m (prt r bs 0) (prt r bs 1) 0)))) pt=some (.lst (nats ((List.range m).map (ptK r m (prt r bs 0) (prt r bs 1) 0)))):=upd_same
   have hpt0:H3 pt=none:=s4.free (w1.free hpt)
   generalize L2.upd (L2.upd H4 d (.lst [V.int 0])) pt (.lst (nats ((List.range m).map (ptK r m (prt r bs 0) (prt r bs 1) 0))))=H5 at s5 hp5 ⊢
   refine ⟨_,rfl,t,_,0,.int ((m:Nat):Int),rfl,rfl,SqT.of (s5 _ _ (s3 _ _ ht)),rfl,((m:Nat):Int),rfl,by omega,by omega,?_⟩
   rw [Int.toNat_natCast]
   refine for_range (lo:=0) (n:=m) (fun i σ H6=>Same H3 H6∧(∃ x7:Option V,σ=[some (.ref t),some (.int ((r:Nat):Int)),some (.ref c),x3,x4,x5,some (.ref pt),x7])∧H6 pt=some (.lst (nats ((List.range m).map (ptK r m (prt r bs 0) (prt r bs 1) i))))) ⟨s5,⟨none,rfl⟩,hp5⟩ ?_ ?_
   ·rintro i σ H6 hi ⟨s6,⟨x7,rfl⟩,hp6⟩
    rw [Int.zero_add]
    obtain ⟨a0,ea0,ha0⟩:=gcl s6 0 (by omega)
    obtain ⟨a1,ea1,ha1⟩:=gcl s6 1 (by omega)
    have gat:∀ j,(nats ((List.range m).map (nmL (prt r bs j))))[i]?=some (.int ((nmL (prt r bs j) i:Nat):Int)):=fun j=>by
     unfold nats
     rw [List.getElem?_map,List.getElem?_map,List.getElem?_range hi]
     rfl
    have hka:=kap_lt hsq hPA hPB la lb hi
    refine ⟨_,rfl,_,rfl,_,rfl,c,_,_,_,rfl,rfl,SqL.of (s6 _ _ hc3),atI_nat (j:=0) ea0,_,rfl,a0,_,_,_,rfl,rfl,SqL.of ha0,atI_nat (gat 0),_,rfl,_,_,rfl,rfl,.inl ⟨by have:=nm_lt hPA hi; omega,by have:=nm_lt hPA hi; omega⟩,_,rfl,c,_,_,_,rfl,rfl,SqL.of (s6 _ _ hc3),atI_nat (j:=1) ea1,_,rfl,a1,_,_,_,rfl,rfl,SqL.of ha1,atI_nat (gat 1),_,_,rfl,rfl,?_⟩
    have ek:((nmL (prt r bs 0) i:Nat):Int) * ((r:Nat):Int) + ((nmL (prt r bs 1) i:Nat):Int)=((kap r (prt r bs 0) (prt r bs 1) i:Nat):Int):=by
     unfold kap
     rw [Int.natCast_add,Int.natCast_mul]
    refine ⟨pt,_,_,kap r (prt r bs 0) (prt r bs 1) i,rfl,rfl,hp6,?_,same_upd s6 hpt0,⟨_,rfl⟩,?_⟩
    ·rw [ek]
     unfold ixN
     rw [if_pos (by omega),if_pos (by rw [nats_len,List.length_map,List.length_range]; omega),Int.toNat_natCast]
    ·rw [upd_same,ptK_set hPB lb hAB hi]
   ·rintro σ H6 ⟨s6,⟨x7,rfl⟩,hp6⟩
    rw [ptK_all hsq hPA hPB la lb hAB] at hp6
    have s36:=s3.trans s6
    refine ⟨_,rfl,_,rfl,c,_,rfl,SqL.of (s6 _ _ hc3),fun p hp=>?_⟩
    rw [show cutV ys (some 2) none=ys.drop 2 from cut_from (k:=2) (by omega)]
    have w1:=same_new (o:=.lst (ys.drop 2)) hp
    have s7:=s6.trans w1
    have hp7:L2.upd H6 p (.lst (ys.drop 2)) p=some (.lst (ys.drop 2)):=upd_same
    have hpt7:=w1 _ _ hp6
    generalize L2.upd H6 p (.lst (ys.drop 2))=H7 at s7 hp7 hpt7 ⊢
    refine ⟨p,rfl,⟨_,SqL.of hp7⟩,comp_list (K:=K) (xs:=ys.drop 2) (fun j zs H8=>Same H7 H8∧SqsAt H8 zs ((List.range j).map fun i=>sqB r m bs (i + 2))) ⟨Same.refl _,trivial⟩ (fun j zs H8 _ ⟨s8,_⟩=>SqL.of (s8 _ _ hp7)) ?_ ?_⟩
    ·rintro j v zs H8 N hj ⟨s8,hZ⟩ nx
     have hjk:j + 2 < k:=by
      have:=(List.getElem?_eq_some_iff.mp hj).1
      rw [List.length_drop] at this
      omega
     rw [List.getElem?_drop,Nat.add_comm] at hj
     obtain ⟨a,ea,ha⟩:=gcl (s7.trans s8) (j + 2) hjk
     rw [ea] at hj
     cases hj
     have hpt8:=s8 _ _ hpt7
     refine ⟨Weak.set (by intro v z; cases z),?_⟩
     refine ⟨_,rfl,_,rfl,pt,rfl,⟨_,SqL.of hpt8⟩,comp_list (K:=K) (xs:=nats ((List.range m).map (ptf r m (prt r bs 0) (prt r bs 1)))) (fun c us H9=>H9=H8∧us=nats ((List.range c).map fun x=>nmL (prt r bs (j + 2)) (ptf r m (prt r bs 0) (prt r bs 1) x))) ⟨rfl,rfl⟩ (fun c us H9 _ ⟨e,_⟩=>SqL.of (e▸hpt8)) ?_ ?_⟩
     ·rintro x v us H9 N9 hx ⟨rfl,rfl⟩ nx9
      have hxm:x < m:=by
       have:=(List.getElem?_eq_some_iff.mp hx).1
       rw [nats_len,List.length_map,List.length_range] at this
       exact this
      have ev:v=.int ((ptf r m (prt r bs 0) (prt r bs 1) x:Nat):Int):=by
       unfold nats at hx
       rw [List.getElem?_map,List.getElem?_map,List.getElem?_range hxm] at hx
       cases hx
       rfl
      subst ev
      have gp:(nats ((List.range m).map (nmL (prt r bs (j + 2)))))[ptf r m (prt r bs 0) (prt r bs 1) x]?=some (.int ((nmL (prt r bs (j + 2)) (ptf r m (prt r bs 0) (prt r bs 1) x):Nat):Int)):=by
       unfold nats
       rw [List.getElem?_map,List.getElem?_map,List.getElem?_range (ptf_lt (by omega) x)]
       rfl
      refine ⟨Weak.set (by intro v z; cases z),⟨_,rfl,_,rfl,a,_,_,_,rfl,rfl,SqL.of ha,atI_nat gp,?_,nx9 _ _ ⟨rfl,?_⟩⟩⟩
      ·rw [nats_len,List.length_map,List.length_range]
       exact Nat.lt_of_lt_of_le (show x < 41 by omega) (by decide)
      ·rw [List.range_succ,List.map_append,List.map_cons,List.map_nil,nats_snoc]
     rintro us H9 ⟨rfl,rfl⟩
     rw [show (nats ((List.range m).map (ptf r m (prt r bs 0) (prt r bs 1)))).length=m by rw [nats_len,List.length_map,List.length_range]]
     refine ⟨by rw [nats_len,List.length_map,List.length_range]; exact Nat.le_trans (show m≤41 by omega) (by decide),fun e he=>?_⟩
     have w2:=same_new (o:=.lst (nats ((List.range m).map fun x=>nmL (prt r bs (j + 2)) (ptf r m (prt r bs 0) (prt r bs 1) x)))) he
     refine ⟨e,r,_,rfl,upd_same,by rw [List.length_map,List.length_range,hsq],hr1',by omega,fun u H10 hu s10 hu10=>⟨?_,nx _ _ ⟨s8.trans (w2.trans s10),?_⟩⟩⟩
     ·rw [hZ.len,List.length_map,List.length_range]
      exact Nat.lt_of_lt_of_le (show j < 41 by omega) (by decide)
     ·rw [List.range_succ,List.map_append]
      exact (hZ.sm (w2.trans s10)).snoc hu10
    ·rintro zs H8 ⟨s8,hZ⟩
     rw [List.length_drop,hyl] at hZ
     refine ⟨by rw [hZ.len,List.length_map,List.length_range]; exact Nat.le_trans (show k - 2≤40 by omega) (by decide),fun g hg=>?_⟩
     have w3:=same_new (o:=.lst zs) hg
     exact q r k hBack g zs _ (s3.free (s7.free (s8.free hg))) (s3.trans (s7.trans (s8.trans w3))) upd_same (hZ.sm w3)
def spOnly (C:Addr):Sp:=fun vs H Q _=>∃ (a:Addr) (dx:Option Addr),vs=[.ref a,.int 2]∧H a=some (XD a C dx)∧∀ H',Same H H'→Q (.bl true) H'
theorem scLOnly:FnScope ["_law_e", "_law_at", "_law_kinds"] ["_law_e", "_law_at"] (defScope sLOnly):=⟨rfl,rfl,rfl,by decide +kernel,rfl,by decide +kernel,by decide +kernel⟩
theorem bls_isD {K:PySem.W.Frag} {H:Hp} {a:Addr} {bs:List Bool} (h:H a=some (.lst (bs.map V.bl))):IsD K H (.list (bs.map PyData.bool)) (.ref a):=by
 simp only [IsD]
 refine ⟨a,_,rfl,SqL.of h,?_⟩
 clear h
 induction bs with
 | nil=>simp [IsDs]
 | cons b bs ih=>
  simp only [List.map_cons,IsDs]
  exact ⟨_,_,rfl,by simp only [IsD],ih⟩
theorem ok_only {C f o1 o2 o3 o4 o5 o6 o7 o8 o9 o10 o11 o12 o13:Addr} {fd:FuncData} (F:Fun K "_law_only" "_law_only" sLOnly f fd) (T:TxtB mg) (D:MarksD K mg M C o1 o2 o3 o4 o5 o6 o7 o8 o9 o10 o11 o12 o13):FnOk P w K mg base CX0 1 f fd ["_law_e", "_law_at"] (spOnly C):=by
 refine F.okQ scLOnly (fun vs H Q E h=>?_) (fun cdv A outer s H vs Q E hr h=>?_)
 ·obtain ⟨a,dx,rfl,_⟩:=h
  rfl
 ·obtain ⟨a,dx,rfl,ha,q⟩:=h
  refine ⟨_,(qss_cons (qs_set (i:=2) scLOnly.nd rfl (Or.inl rfl) (qe_lst (qac (qe_callB (show CallR _ _ (rIsDP K) from call_isinstDP D.R.cl) (by rfl) T.isi PyProof.Rows.boot_isinstance (qac (qv 0) (qac (qe_glob (v:=.ref o3) rfl D.m3 rfl) qa_nil))) (qac (qe_callB (show CallR _ _ (rIsDP K) from call_isinstDP D.R.cl) (by rfl) T.isi PyProof.Rows.boot_isinstance (qac (qv 0) (qac (qe_glob (v:=.ref o7) rfl D.m7 rfl) qa_nil))) (qac (qe_callB (show CallR _ _ (rIsDP K) from call_isinstDP D.R.cl) (by rfl) T.isi PyProof.Rows.boot_isinstance (qac (qv 0) (qac (qe_glob (v:=.ref C) rfl D.mC rfl) qa_nil))) (qac (qe_callB (show CallR _ _ (rIsDP K) from call_isinstDP D.R.cl) (by rfl) T.isi PyProof.Rows.boot_isinstance (qac (qv 0) (qac (qe_glob (v:=.ref o4) rfl D.m4 rfl) qa_nil))) qa_nil))))))
   (qss_cons (qs_set (i:=2) scLOnly.nd rfl (Or.inl rfl) (qe_op op_cat (qv 2) (qe_lst (qac (qe_callB (show CallR _ _ (rIsDP K) from call_isinstDP D.R.cl) (by rfl) T.isi PyProof.Rows.boot_isinstance (qac (qv 0) (qac (qe_glob (v:=.ref o9) rfl D.m9 rfl) qa_nil))) (qac (qe_callB (show CallR _ _ (rIsDP K) from call_isinstDP D.R.cl) (by rfl) T.isi PyProof.Rows.boot_isinstance (qac (qv 0) (qac (qe_glob (v:=.ref o10) rfl D.m10 rfl) qa_nil))) (qac (qe_callB (show CallR _ _ (rIsDP K) from call_isinstDP D.R.cl) (by rfl) T.isi PyProof.Rows.boot_isinstance (qac (qv 0) (qac (qe_glob (v:=.ref o6) rfl D.m6 rfl) qa_nil))) (qac (qe_callB (show CallR _ _ (rIsDP K) from call_isinstDP D.R.cl) (by rfl) T.isi PyProof.Rows.boot_isinstance (qac (qv 0) (qac (qe_glob (v:=.ref o8) rfl D.m8 rfl) qa_nil))) qa_nil)))))))
   (qss_cons (qs_set (i:=2) scLOnly.nd rfl (Or.inl rfl) (qe_op op_cat (qv 2) (qe_lst (qac (qe_callB (show CallR _ _ (rIsDP K) from call_isinstDP D.R.cl) (by rfl) T.isi PyProof.Rows.boot_isinstance (qac (qv 0) (qac (qe_glob (v:=.ref o2) rfl D.m2 rfl) qa_nil))) (qac (qe_callB (show CallR _ _ (rIsDP K) from call_isinstDP D.R.cl) (by rfl) T.isi PyProof.Rows.boot_isinstance (qac (qv 0) (qac (qe_glob (v:=.ref o1) rfl D.m1 rfl) qa_nil))) (qac (qe_callB (show CallR _ _ (rIsDP K) from call_isinstDP D.R.cl) (by rfl) T.isi PyProof.Rows.boot_isinstance (qac (qv 0) (qac (qe_glob (v:=.ref o5) rfl D.m5 rfl) qa_nil))) (qac (qe_callB (show CallR _ _ (rIsDP K) from call_isinstDP D.R.cl) (by rfl) T.isi PyProof.Rows.boot_isinstance (qac (qv 0) (qac (qe_glob (v:=.ref o11) rfl D.m11 rfl) qa_nil))) qa_nil)))))))
   (qss_cons (qs_set (i:=2) scLOnly.nd rfl (Or.inl rfl) (qe_op op_cat (qv 2) (qe_lst (qac (qe_callB (show CallR _ _ (rIsDP K) from call_isinstDP D.R.cl) (by rfl) T.isi PyProof.Rows.boot_isinstance (qac (qv 0) (qac (qe_glob (v:=.ref o12) rfl D.m12 rfl) qa_nil))) (qac (qe_callB (show CallR _ _ (rIsDP K) from call_isinstDP D.R.cl) (by rfl) T.isi PyProof.Rows.boot_isinstance (qac (qv 0) (qac (qe_glob (v:=.ref o13) rfl D.m13 rfl) qa_nil))) qa_nil)))))
   (qss_one (qs_ret (qe_and (qe_callB (show CallR _ _ (rIsDP K) from call_isinstDP D.R.cl) (by rfl) T.isi PyProof.Rows.boot_isinstance (qac (qv 0) (qac (qe_glob (v:=.ref M) rfl D.mM rfl) qa_nil))) (qe_and (qe_callB (show CallR _ _ (rIsDP K) from call_isinstDP D.R.cl) (by rfl) T.isi PyProof.Rows.boot_isinstance (qac (qv 0) (qac (qe_bltn (v:=.ty "ValueError") rfl D.mV (by decide +kernel) rfl) qa_nil))) (qe_one (qe_cmpR (op_eqD hr.units) (qv 2) (qe_comp (g:=gName 0) (N:=["_law_k", "_law_at"]) (src:=[none,some 1]) rfl (comp_scope (defScope sLOnly) ["_law_e", "_law_at", "_law_kinds"] rfl rfl (by decide +kernel) rfl) (qi_range1 rfl T.range (qac qe_int qa_nil)) (fun _ _ _ _ _=>(qg_name (i:=0) (show (["_law_k", "_law_at"]:List Str).Nodup by decide +kernel) rfl (Or.inl rfl) (Or.inr rfl))) (fun _ _ _ _ _=>qif_nil) (fun _ _ _ _ _=>(qe_cmpR op_eq (qv 0) (qv 1) (nomark _)))) (nomark _))))))))))),?_⟩
  have kr:∀ {c:Addr} {b:Bool},PySem.W.kitOne K (.ref C) (.ref c)=some b→∀ u,RelV (.ref c) u→PySem.W.kitOne K (.ref C) u=some b:=fun {c b} hk u hu=>by rw [show u=Value.ref c from hu]; exact hk
  refine ⟨_,rfl,a,C,dx,_,false,rfl,ha,D.R.eC,kr D.R.q3,_,rfl,a,C,dx,_,false,rfl,ha,D.R.eC,kr D.R.q7,_,rfl,a,C,dx,_,true,rfl,ha,D.R.eC,kr D.R.kC,_,rfl,a,C,dx,_,false,rfl,ha,D.R.eC,kr D.R.q4,by show 4≤sizeLine; decide,fun l1 h1=>?_⟩
  have w1:Same H (L2.upd H l1 (.lst [V.bl false,V.bl false,V.bl true,V.bl false])):=same_new h1
  have e1:(L2.upd H l1 (.lst [V.bl false,V.bl false,V.bl true,V.bl false])) l1=some (.lst ([false,false,true,false].map V.bl)):=upd_same
  generalize L2.upd H l1 (.lst [V.bl false,V.bl false,V.bl true,V.bl false])=H1 at w1 e1 ⊢
  have ha1:=w1 _ _ ha
  refine ⟨_,rfl,_,rfl,a,C,dx,_,false,rfl,ha1,D.R.eC,kr D.R.q9,_,rfl,a,C,dx,_,false,rfl,ha1,D.R.eC,kr D.R.q10,_,rfl,a,C,dx,_,false,rfl,ha1,D.R.eC,kr D.R.q6,_,rfl,a,C,dx,_,false,rfl,ha1,D.R.eC,kr D.R.q8,by show 4≤sizeLine; decide,fun m2 hm2=>?_⟩
  have v2:=same_new (o:=.lst [V.bl false,V.bl false,V.bl false,V.bl false]) hm2
  refine ⟨l1,m2,_,_,rfl,rfl,v2 _ _ e1,upd_same,by show 8≤sizeLine; decide,fun l2 h2=>?_⟩
  have w2:=w1.trans (v2.trans (same_new (o:=.lst ([false,false,true,false].map V.bl++[V.bl false,V.bl false,V.bl false,V.bl false])) h2))
  have e2:(L2.upd (L2.upd H1 m2 (.lst [V.bl false,V.bl false,V.bl false,V.bl false])) l2 (.lst ([false,false,true,false].map V.bl++[V.bl false,V.bl false,V.bl false,V.bl false]))) l2=some (.lst ([false,false,true,false,false,false,false,false].map V.bl)):=upd_same
  generalize L2.upd (L2.upd H1 m2 (.lst [V.bl false,V.bl false,V.bl false,V.bl false])) l2 (.lst ([false,false,true,false].map V.bl++[V.bl false,V.bl false,V.bl false,V.bl false]))=H2 at w2 e2 ⊢
  have ha2:=w2 _ _ ha
  refine ⟨_,rfl,_,rfl,a,C,dx,_,false,rfl,ha2,D.R.eC,kr D.R.q2,_,rfl,a,C,dx,_,false,rfl,ha2,D.R.eC,kr D.R.q1,_,rfl,a,C,dx,_,false,rfl,ha2,D.R.eC,kr D.R.q5,_,rfl,a,C,dx,_,false,rfl,ha2,D.R.eC,kr D.R.q11,by show 4≤sizeLine; decide,fun m3 hm3=>?_⟩
  have v3:=same_new (o:=.lst [V.bl false,V.bl false,V.bl false,V.bl false]) hm3
  refine ⟨l2,m3,_,_,rfl,rfl,v3 _ _ e2,upd_same,by show 12≤sizeLine; decide,fun l3 h3=>?_⟩
  have w3:=w2.trans (v3.trans (same_new (o:=.lst ([false,false,true,false,false,false,false,false].map V.bl++[V.bl false,V.bl false,V.bl false,V.bl false])) h3))
  have e3:(L2.upd (L2.upd H2 m3 (.lst [V.bl false,V.bl false,V.bl false,V.bl false])) l3 (.lst ([false,false,true,false,false,false,false,false].map V.bl++[V.bl false,V.bl false,V.bl false,V.bl false]))) l3=some (.lst ([false,false,true,false,false,false,false,false,false,false,false,false].map V.bl)):=upd_same
  generalize L2.upd (L2.upd H2 m3 (.lst [V.bl false,V.bl false,V.bl false,V.bl false])) l3 (.lst ([false,false,true,false,false,false,false,false].map V.bl++[V.bl false,V.bl false,V.bl false,V.bl false]))=H3 at w3 e3 ⊢
  have ha3:=w3 _ _ ha
  refine ⟨_,rfl,_,rfl,a,C,dx,_,false,rfl,ha3,D.R.eC,kr D.R.q12,_,rfl,a,C,dx,_,false,rfl,ha3,D.R.eC,kr D.R.q13,by show 2≤sizeLine; decide,fun m4 hm4=>?_⟩
  have v4:=same_new (o:=.lst [V.bl false,V.bl false]) hm4
  refine ⟨l3,m4,_,_,rfl,rfl,v4 _ _ e3,upd_same,by show 14≤sizeLine; decide,fun l4 h4=>?_⟩
  have w4:=w3.trans (v4.trans (same_new (o:=.lst ([false,false,true,false,false,false,false,false,false,false,false,false].map V.bl++[V.bl false,V.bl false])) h4))
  have e4:(L2.upd (L2.upd H3 m4 (.lst [V.bl false,V.bl false])) l4 (.lst ([false,false,true,false,false,false,false,false,false,false,false,false].map V.bl++[V.bl false,V.bl false]))) l4=some (.lst ([false,false,true,false,false,false,false,false,false,false,false,false,false,false].map V.bl)):=upd_same
  generalize L2.upd (L2.upd H3 m4 (.lst [V.bl false,V.bl false])) l4 (.lst ([false,false,true,false,false,false,false,false,false,false,false,false].map V.bl++[V.bl false,V.bl false]))=H4 at w4 e4 ⊢
  have ha4:=w4 _ _ ha
  refine ⟨_,rfl,a,C,dx,_,true,rfl,ha4,D.R.eC,kr D.R.kM,_,rfl,iteT ?_⟩
  refine ⟨_,rfl,a,C,dx,_,true,rfl,ha4,D.R.eC,(fun u hu=>by rw [show u=Value.type "ValueError" from hu]; exact D.R.kV),_,rfl,iteT ?_⟩
  refine ⟨_,rfl,14,rfl,by omega,by omega,comp_rng (lo:=0) (n:=14) (fun i zs H2=>H2=H4∧zs=((List.range i).map fun k=>decide (k=2)).map V.bl) ⟨rfl,rfl⟩ ?_ ?_⟩
  ·rintro i zs H2 N hi ⟨rfl,rfl⟩ nx
   refine ⟨Weak.set (by intro v z; cases z),⟨_,rfl,_,rfl,rfl,by rw [List.length_map,List.length_map,List.length_range]; exact Nat.lt_of_lt_of_le hi (by decide),nx _ _ ⟨rfl,?_⟩⟩⟩
   rw [List.range_succ,List.map_append,List.map_append]
   have:decide (V.int (0 + ((i:Nat):Int))=V.int 2)=decide (i=2):=by
    by_cases z:i=2
    ·subst z; rfl
    ·rw [decide_eq_false z,decide_eq_false fun e=>z (by injection e with e; omega)]
   rw [this]
   rfl
  ·rintro zs H2 ⟨rfl,rfl⟩
   refine ⟨by decide,fun r hr'=>?_⟩
   have w5:=same_new (o:=.lst (((List.range 14).map fun k=>decide (k=2)).map V.bl)) hr'
   refine ⟨_,_,bls_isD (w5 _ _ e4),bls_isD (bs:=(List.range 14).map fun k=>decide (k=2)) upd_same,by decide +kernel,by decide +kernel,?_⟩
   exact q _ (w4.trans w5)
def dSq (rs:List (List Nat)):PyData:=.tuple (rs.map dTup)
def dSqs (sqs:List (List (List Nat))):PyData:=.list (sqs.map dSq)
theorem sqs_isDs {K:PySem.W.Frag} {H:Hp}:∀ {vs:List V} {sqs:List (List (List Nat))},SqsAt H vs sqs→IsDs K H (sqs.map dSq) vs
 | [],[],_=>by simp [IsDs]
 | v::vs,rs::sqs,⟨⟨a,e,ws,h1,h2⟩,r⟩=>by
  simp only [List.map_cons,IsDs]
  refine ⟨v,vs,rfl,?_,sqs_isDs r⟩
  simp only [dSq,IsD]
  exact ⟨a,ws,e,SqT.of h1,tps_isD h2⟩
theorem sqs_isD {K:PySem.W.Frag} {H:Hp} {l:Addr} {vs:List V} {sqs:List (List (List Nat))} (hl:H l=some (.lst vs)) (h:SqsAt H vs sqs):IsD K H (dSqs sqs) (.ref l):=by
 simp only [dSqs,IsD]
 exact ⟨l,vs,rfl,SqL.of hl,sqs_isDs h⟩
theorem lay_sqs:∀ sqs:List (List (List Nat)),PyData.canLayAll0 (sqs.map dSq)=true
 | []=>by simp [PyData.canLayAll0]
 | rs::sqs=>by
  simp only [List.map_cons,PyData.canLayAll0,dSq,PyData.canLay0,lay_tps rs,lay_sqs sqs,Bool.and_self]
theorem depth_sqs:∀ sqs:List (List (List Nat)),PyData.depthAll (sqs.map dSq)≤3
 | []=>by simp [PyData.depthAll]
 | rs::sqs=>by
  have h1:=depth_tps rs
  have h2:=depth_sqs sqs
  simp only [List.map_cons,PyData.depthAll,dSq,PyData.depth]
  omega
theorem shaped_sqs (sqs:List (List (List Nat))):PySem.SeqAt.shaped (dSqs sqs)=true:=by
 unfold PySem.SeqAt.shaped dSqs
 rw [Bool.and_eq_true]
 refine ⟨by simp only [PyData.canLay0]; exact lay_sqs sqs,decide_eq_true ?_⟩
 have:=depth_sqs sqs
 simp only [PyData.depth]
 omega
theorem eqv_sqsA:∀ sqs:List (List (List Nat)),PyData.eqvAll (sqs.map dSq) (sqs.map dSq)=true
 | []=>by simp [PyData.eqvAll]
 | rs::sqs=>by
  rw [List.map_cons,PyData.eqvAll,eqv_sqsA sqs]
  simp only [dSq,PyData.eqv,eqv_tpsA rs,Bool.and_self]
theorem eqv_sqs (sqs:List (List (List Nat))):PyData.eqv (dSqs sqs) (dSqs sqs)=true:=by
 simp only [dSqs,PyData.eqv]
 exact eqv_sqsA sqs
structure NetAt (H:Hp) (t:Addr) (m:Nat) (bs:List (List Nat)):Prop where
 at_:∃ (l:Addr) (ws:List V),H t=some (.tup [.int ((m:Nat):Int),.ref l])∧H l=some (.tup ws)∧TpAt H ws bs
 lt:∀ b∈bs,∀ x∈b,x < m
 m1:1≤m
 m40:m≤40
 len:bs.length≤40
theorem NetAt.sm {H H':Hp} (s:Same H H') {t:Addr} {m:Nat} {bs:List (List Nat)} (h:NetAt H t m bs):NetAt H' t m bs:=by
 obtain ⟨⟨l,ws,h1,h2,h3⟩,a,b,c,d⟩:=h
 exact ⟨⟨l,ws,s _ _ h1,s _ _ h2,h3.sm s⟩,a,b,c,d⟩
def DueAt (H:Hp) (v:V) (m:Nat) (bs:List (List Nat)):Prop:=(v=.non∧∀ n k,¬Back n m bs k)∨∃ (d:Addr) (us:List V) (n k:Nat),v=.ref d∧H d=some (.lst us)∧SqsAt H us (backL n m bs k)∧Back n m bs k
def spRight:Sp:=fun vs H Q _=>∃ (t:Addr) (v:V) (m:Nat) (bs:List (List Nat)),vs=[.ref t,v]∧NetAt H t m bs∧DueAt H v m bs∧∀ H',Same H H'→Q (.bl true) H'
theorem scLRight:FnScope ["_law_net_here", "_law_due_here", "_law_found", "_law_refused", "_law_e"] ["_law_net_here", "_law_due_here"] (defScope sLRight):=⟨rfl,rfl,rfl,by decide +kernel,rfl,by decide +kernel,by decide +kernel⟩
theorem back_un {n n' m k k':Nat} {bs:List (List Nat)} (hm:1≤m) (h:Back n m bs k) (h':Back n' m bs k'):n=n'∧k=k':=by
 have e1:=h.sq
 have e2:=h'.sq
 have hn:n=n':=by
  rcases Nat.lt_trichotomy n n' with z | z | z
  ·have:=Nat.mul_self_lt_mul_self z
   omega
  ·exact z
  ·have:=Nat.mul_self_lt_mul_self z
   omega
 refine ⟨hn,?_⟩
 subst hn
 have l1:=h.len
 have l2:=h'.len
 rw [l1] at l2
 rcases Nat.eq_zero_or_pos n with z | z
 ·exfalso
  subst z
  omega
 ·exact Nat.eq_of_mul_eq_mul_right z l2
theorem ok_right {C f o1 o2 o3 o4 o5 o6 o7 o8 o9 o10 o11 o12 o13:Addr} {fd:FuncData} (F:Fun K "_law_right" "_law_right" sLRight f fd) (T:TxtB mg) (D:MarksD K mg M C o1 o2 o3 o4 o5 o6 o7 o8 o9 o10 o11 o12 o13) (pBack:Pm P w K mg base (CXD P w) 5 "squares_back" ["M"] (spBack C)) (pLOnly:Pm P w K mg base CX0 1 "_law_only" ["_law_e", "_law_at"] (spOnly C)):FnOk P w K mg base CX0 6 f fd ["_law_net_here", "_law_due_here"] spRight:=by
 refine F.okQ scLRight (fun vs H Q E h=>?_) (fun cdv A outer s H vs Q E hr5 h=>?_)
 ·obtain ⟨t,v,m,bs,rfl,_⟩:=h
  rfl
 ·obtain ⟨t,v,m,bs,rfl,hN,hD,q⟩:=h
  have hr1:=hr5.mono (show 1≤5 by decide)
  refine ⟨_,(qss_cons (qs_set (i:=2) scLRight.nd rfl (Or.inl rfl) qe_non)
   (qss_cons (qs_set (i:=3) scLRight.nd rfl (Or.inl rfl) qe_non)
   (qss_cons (qs_tryK (tb:=_) (i:=4) rfl rfl rfl (fun pn E0 σ0=>qss_one (qs_set (i:=2) scLRight.nd rfl (Or.inl rfl) (qe_callR0 pBack hr5 rfl (passTK rfl) (qac (qv 0) qa_nil)))) rfl D.mM D.R.eM scLRight.nd rfl rfl (fun e=>qss_one (qs_set (i:=3) scLRight.nd rfl (Or.inl rfl) (qv 4))))
   (qss_cons (qs_if (qt_cmpR op_isN (qv 1) qe_non (nomark _)) (qss_one (qs_ret (qe_and (qe_cmpR op_notN (qv 3) qe_non (nomark _)) (qe_one (qe_callP pLOnly hr1 rfl pass0 (qac (qv 3) (qac qe_int qa_nil))))))) qss_nil)
   (qss_one (qs_ret (qe_and (qe_cmpR op_isN (qv 3) qe_non (nomark _)) (qe_and (qe_callB call_isinst (by rfl) T.isi PyProof.Rows.boot_isinstance (qac (qv 2) (qac (qe_bltn (v:=.ty "list") rfl T.lst (by decide +kernel) rfl) qa_nil))) (qe_one (qe_cmpR (op_eqD hr5.units) (qv 2) (qv 1) (nomark _))))))))))),?_⟩
  obtain ⟨⟨l,ws,ht,hl,hT⟩,hlt,hm1,hm40,hlen⟩:=hN
  refine ⟨rfl,_,rfl,t,l,m,ws,bs,rfl,ht,hl,hT,hlt,hm1,hm40,hlen,fun n k hB g us H1 hg s1 hg1 hS=>?_,fun hnb dx H1 s1=>⟨C,rfl,D.R.sub,fun e he=>?_⟩⟩
  ·rcases hD with ⟨rfl,hn⟩ | ⟨d,us',n',k',rfl,hd,hS',hB'⟩
   ·exact (hn n k hB).elim
   ·refine ⟨_,rfl,rfl,_,rfl,ifF (fun z=>by cases z) ?_⟩
    obtain ⟨rfl,rfl⟩:=back_un hm1 hB hB'
    refine ⟨_,rfl,rfl,true,rfl,iteT ?_⟩
    refine ⟨_,rfl,_,_,_,_,rfl,.lst hg1,rel_ty (kit_lst_lst K),true,rfl,iteT ?_⟩
    refine ⟨_,rfl,_,rfl,dSqs (backL n m bs k),dSqs (backL n m bs k),sqs_isD hg1 hS,sqs_isD (s1 _ _ hd) (hS'.sm s1),shaped_sqs _,shaped_sqs _,?_⟩
    show Q (.bl (PyData.eqv (dSqs (backL n m bs k)) (dSqs (backL n m bs k)))) H1
    rw [eqv_sqs]
    exact q _ s1
  ·have w1:=same_new (o:=XD e C dx) he
   refine ⟨_,rfl,?_⟩
   rcases hD with ⟨rfl,_⟩ | ⟨d,us',n',k',rfl,hd,hS',hB'⟩
   ·refine ⟨_,rfl,rfl,_,rfl,ifT rfl ?_⟩
    refine ⟨_,rfl,rfl,true,rfl,iteT ?_⟩
    exact ⟨_,rfl,e,dx,rfl,upd_same,fun H2 s2=>q _ (s1.trans (w1.trans s2))⟩
   ·exact (hnb n' k' hB').elim
structure Lat (n:Nat) (rs:List (List Nat)):Prop where
 sq:Sq n rs
 row:∀ r∈rs,r.Nodup
 col:∀ c,c < n→(rs.map fun r=>r.getD c 0).Nodup
def plL (n t:Nat):List (List Nat):=(List.range n).map fun r=>(List.range n).map fun c=>(t * r + c) % n
def spPlainS:Sp:=fun vs H Q _=>∃ (n:Nat) (t:Nat),vs=[.int (n:Nat),.int (t:Nat)]∧1≤n∧n≤7∧t≤7∧∀ (l:Addr) (ws:List V) (H':Hp),H l=none→Same H H'→H' l=some (.lst ws)→BlAt H' ws (plL n t)→Q (.ref l) H'
theorem scLPlain:FnScope ["_law_size", "_law_turn"] ["_law_size", "_law_turn"] (defScope sLPlain):=⟨rfl,rfl,rfl,by decide +kernel,rfl,by decide +kernel,by decide +kernel⟩
theorem ok_plain {f:Addr} {fd:FuncData} (F:Fun K "_law_plain" "_law_plain" sLPlain f fd) (T:TxtB mg):FnOk P w K mg base CX0 1 f fd ["_law_size", "_law_turn"] spPlainS:=by
 refine F.okQ scLPlain (fun vs H Q E h=>?_) (fun cdv A outer s H vs Q E hr h=>?_)
 ·obtain ⟨n,t,rfl,_⟩:=h
  rfl
 ·obtain ⟨n,t,rfl,hn1,hn7,ht7,q⟩:=h
  refine ⟨_,(qss_one (qs_ret (qe_comp (g:=gName 0) (N:=["_law_r", "_law_size", "_law_turn"]) (src:=[none,some 0,some 1]) rfl (comp_scope (defScope sLPlain) ["_law_size", "_law_turn"] rfl rfl (by decide +kernel) rfl) (qi_range1 rfl T.range (qac (qv 0) qa_nil)) (fun _ _ _ _ _=>(qg_name (i:=0) (show (["_law_r", "_law_size", "_law_turn"]:List Str).Nodup by decide +kernel) rfl (Or.inr rfl) (Or.inl rfl))) (fun _ _ _ _ _=>qif_nil) (fun _ _ _ _ _=>(qe_comp (g:=gName 0) (N:=["_law_c", "_law_r", "_law_size", "_law_turn"]) (src:=[none,some 0,some 1,some 2]) rfl (comp_scopeX ["_law_r", "_law_size", "_law_turn"] rfl rfl rfl) (qi_range1 rfl T.range (qac (qv 1) qa_nil)) (fun _ _ _ _ _=>(qg_name (i:=0) (show (["_law_c", "_law_r", "_law_size", "_law_turn"]:List Str).Nodup by decide +kernel) rfl (Or.inl rfl) (Or.inr rfl))) (fun _ _ _ _ _=>qif_nil) (fun _ _ _ _ _=>(qe_op op_mod (qe_op op_add (qe_op op_mul (qv 3) (qv 1)) (qv 0)) (qv 2)))))))),?_⟩
  refine ⟨_,rfl,((n:Nat):Int),rfl,by omega,by omega,comp_rng (lo:=0) (n:=n) (fun i ws Hx=>Same H Hx∧BlAt Hx ws ((List.range i).map fun r=>(List.range n).map fun c=>(t * r + c) % n)) ⟨Same.refl _,trivial⟩ ?_ ?_⟩
  ·rintro i ws Hx N hi ⟨sx,hB⟩ nx
   refine ⟨Weak.set (by intro v z; cases z),?_⟩
   refine ⟨_,rfl,((n:Nat):Int),rfl,by omega,by omega,comp_rng (lo:=0) (n:=n) (fun j us H5=>H5=Hx∧us=nats ((List.range j).map fun c=>(t * i + c) % n)) ⟨rfl,rfl⟩ ?_ ?_⟩
   ·rintro j us H5 N5 hj ⟨rfl,rfl⟩ nx5
    refine ⟨Weak.set (by intro v z; cases z),⟨_,rfl,_,rfl,_,_,rfl,rfl,.inl ⟨by omega,by omega⟩,_,rfl,_,_,rfl,rfl,_,rfl,_,_,rfl,rfl,by omega,?_,nx5 _ _ ⟨rfl,?_⟩⟩⟩
    ·rw [nats_len,List.length_map,List.length_range]
     exact Nat.lt_of_lt_of_le hj (Nat.le_trans hn7 (by decide))
    ·rw [List.range_succ,List.map_append,List.map_cons,List.map_nil,nats_snoc,Int.zero_add,Int.zero_add]
     simp
   ·rintro us H5 ⟨rfl,rfl⟩
    refine ⟨by rw [nats_len,List.length_map,List.length_range]; exact Nat.le_trans hn7 (by decide),fun d hd=>⟨?_,nx _ _ ⟨sx.trans (same_new hd),?_⟩⟩⟩
    ·rw [hB.len,List.length_map,List.length_range]
     exact Nat.lt_of_lt_of_le hi (Nat.le_trans hn7 (by decide))
    ·rw [List.range_succ,List.map_append]
     exact (hB.same (same_new hd)).snoc upd_same
  ·rintro ws Hx ⟨sx,hB⟩
   refine ⟨by rw [hB.len,List.length_map,List.length_range]; exact Nat.le_trans hn7 (by decide),fun l hl=>?_⟩
   exact q l ws _ (sx.free hl) (sx.trans (same_new hl)) upd_same (hB.same (same_new hl))
theorem pl_sq {n:Nat} (h1:1≤n) (t:Nat):Sq n (plL n t):=by
 refine ⟨by unfold plL; rw [List.length_map,List.length_range],fun r hr=>?_⟩
 obtain ⟨i,_,rfl⟩:=List.mem_map.mp hr
 refine ⟨by rw [List.length_map,List.length_range],fun x hx=>?_⟩
 obtain ⟨j,_,rfl⟩:=List.mem_map.mp hx
 exact Nat.mod_lt _ h1
instance latD (n:Nat) (rs:List (List Nat)):Decidable (Lat n rs):=decidable_of_iff ((rs.length=n∧∀ r∈rs,r.length=n∧∀ x∈r,x < n)∧(∀ r∈rs,r.Nodup)∧∀ c,c < n→(rs.map fun r=>r.getD c 0).Nodup) ⟨fun h=>⟨h.1,h.2.1,h.2.2⟩,fun h=>⟨h.sq,h.row,h.col⟩⟩
theorem pl_latF:∀ n:Fin 8,1≤n.val→Lat n.val (plL n.val 1):=by decide +kernel
theorem pl_lat {n:Nat} (h1:1≤n) (h7:n≤7):Lat n (plL n 1):=pl_latF ⟨n,by omega⟩ h1
def spGood:Sp:=fun vs H Q _=>∃ (l:Addr) (n:Nat) (ws:List V) (rs:List (List Nat)),vs=[.ref l]∧H l=some (.lst ws)∧BlAt H ws rs∧Sq n rs∧n≤7∧∀ b H',Same H H'→(b=true→Lat n rs)→Q (.bl b) H'
theorem scLGood:FnScope ["_law_rows", "_law_k"] ["_law_rows"] (defScope sLGood):=⟨rfl,rfl,rfl,by decide +kernel,rfl,by decide +kernel,by decide +kernel⟩
theorem nd_ints {c:List Nat} (h:(c.map fun p=>((p:Nat):Int)).Nodup):c.Nodup:=by
 rw [List.nodup_iff_pairwise_ne,List.pairwise_map] at h
 rw [List.nodup_iff_pairwise_ne]
 exact h.imp fun h e=>h (congrArg _ e)
theorem ok_good {f:Addr} {fd:FuncData} (F:Fun K "_law_good" "_law_good" sLGood f fd) (T:TxtB mg):FnOk P w K mg base CX0 1 f fd ["_law_rows"] spGood:=by
 refine F.okQ scLGood (fun vs H Q E h=>?_) (fun cdv A outer s H vs Q E hr h=>?_)
 ·obtain ⟨l,n,ws,rs,rfl,_⟩:=h
  rfl
 ·obtain ⟨l,n,ws,rs,rfl,hl,hB,hs,hn7,q⟩:=h
  have hwl:ws.length=n:=by rw [hB.len,hs.1]
  refine ⟨_,(qss_cons (qs_for PassesOwn.never rfl (qi_range1 rfl T.range (qac (qe_callB call_len_seq (by rfl) T.len PySem.boot_len (qac (qv 0) qa_nil)) qa_nil)) (qg_name (i:=1) scLGood.nd rfl (Or.inr rfl))
    (qss_one (qs_if (QW.pt (qw_or (qt_cmpR op_ne (qe_callB call_len_setI (by rfl) T.len PySem.boot_len (qac (qe_callTy (call_setI rfl) (by rfl) T.set (by decide +kernel) (qac (qe_ix ix_list (qv 0) (qv 1) (fun _ _=>rfl)) qa_nil)) qa_nil)) (qe_callB call_len_seq (by rfl) T.len PySem.boot_len (qac (qv 0) qa_nil)) (nomark _)) (qw_or1 (qt_cmpR op_ne (qe_callB call_len_setI (by rfl) T.len PySem.boot_len (qac (qe_callTy (call_setI rfl) (by rfl) T.set (by decide +kernel) (qac (qe_comp (g:=gName 0) (N:=["_law_row_here", "_law_k"]) (src:=[none,some 1]) rfl (comp_scope (defScope sLGood) ["_law_rows", "_law_k"] rfl rfl (by decide +kernel) rfl) (qi_list (qv 0)) (fun _ _ _ _ _=>(qg_name (i:=0) (show (["_law_row_here", "_law_k"]:List Str).Nodup by decide +kernel) rfl (Or.inl rfl) (Or.inr rfl))) (fun _ _ _ _ _=>qif_nil) (fun _ _ _ _ _=>(qe_ix (show IxR _ (rIxL K) from ix_list) (qv 0) (qv 1) (fun _ _=>rfl)))) qa_nil)) qa_nil)) (qe_callB call_len_seq (by rfl) T.len PySem.boot_len (qac (qv 0) qa_nil)) (nomark _))))) (qss_one (qs_ret qe_bl)) qss_nil)))
   (qss_one (qs_ret qe_bl))),?_⟩
  refine ⟨_,rfl,l,ws,rfl,.inl (SqL.of hl),((ws.length:Nat):Int),rfl,by omega,by omega,for_range (lo:=0) (n:=ws.length) (fun i σ Hx=>Same H Hx∧(∃ x1,σ=[some (.ref l),x1])∧∀ k,k < i→(∀ r,rs[k]?=some r→r.Nodup)∧(rs.map fun r=>r.getD k 0).Nodup) ⟨Same.refl _,⟨none,rfl⟩,nofun⟩ ?_ ?_⟩
  ·rintro i σ Hx hi ⟨sx,⟨x1,rfl⟩,hg⟩
   rw [Int.zero_add]
   obtain ⟨a,r,ea,hr',ha,hrl,hrx⟩:=bl_at (hB.same sx) hs (show i < n by omega)
   refine ⟨_,rfl,_,rfl,l,ws,_,.ref a,rfl,rfl,SqL.of (sx _ _ hl),ea,a,r.map fun p=>((p:Nat):Int),rfl,by rw [← nats_ints]; exact SqL.of ha,by rw [List.length_map]; omega,fun p S m hp hm=>?_⟩
   have v1:=same_new (o:=.set S m) hp
   refine ⟨p,S,m,rfl,upd_same,_,rfl,l,ws,rfl,.inl (SqL.of (v1 _ _ (sx _ _ hl))),rfl,_,rfl,?_⟩
   refine ite2 (fun _=>iteT (q false _ (sx.trans v1) nofun)) (fun hc=>?_)
   have hmr:m=r.length:=by
    have:V.int ((m:Nat):Int)=V.int ((ws.length:Nat):Int):=by simpa using hc
    injection this with this
    omega
   have hrn:r.Nodup:=nd_ints (hm.mp (by rw [List.length_map]; exact hmr))
   have hl1:=(sx.trans v1) _ _ hl
   have hB1:=hB.same (sx.trans v1)
   refine ⟨_,rfl,l,rfl,⟨_,SqL.of hl1⟩,comp_list (K:=K) (xs:=ws) (fun j us H5=>H5=upd Hx p (.set S m)∧us=nats ((rs.take j).map fun r=>r.getD i 0)) ⟨rfl,rfl⟩ (fun j us H5 _ ⟨e,_⟩=>SqL.of (e▸hl1)) ?_ ?_⟩
   ·rintro j v us H5 N hj ⟨rfl,rfl⟩ nx
    have hjl:=(List.getElem?_eq_some_iff.mp hj).1
    obtain ⟨a2,r2,rfl,hr2,ha2⟩:=hB1.get hj
    have hm2:=hs.2 r2 (List.mem_of_getElem? hr2)
    refine ⟨Weak.set (by intro v z; cases z),⟨_,rfl,_,rfl,a2,_,_,_,rfl,rfl,SqL.of ha2,nat_at (show i < r2.length by omega),?_,nx _ _ ⟨rfl,?_⟩⟩⟩
    ·rw [nats_len,List.length_map,List.length_take]
     exact Nat.lt_of_lt_of_le (show min j rs.length < 8 by omega) (by decide)
    ·rw [take_snoc hr2,List.map_append,List.map_cons,List.map_nil,nats_snoc]
     simp [show i < r2.length by omega]
   ·rintro us H5 ⟨rfl,rfl⟩
    rw [hB1.len,List.take_length]
    refine ⟨by rw [nats_len,List.length_map,hs.1]; exact Nat.le_trans hn7 (by decide),fun d hd=>?_⟩
    have v2:=same_new (o:=.lst (nats (rs.map fun r=>r.getD i 0))) hd
    refine ⟨d,(rs.map fun r=>r.getD i 0).map fun p=>((p:Nat):Int),rfl,by rw [← nats_ints]; exact SqL.of upd_same,by rw [List.length_map,List.length_map,hs.1]; omega,fun p2 S2 m2 hp2 hm2=>?_⟩
    have v3:=same_new (o:=.set S2 m2) hp2
    refine ⟨p2,S2,m2,rfl,upd_same,_,rfl,l,ws,rfl,.inl (SqL.of (v3 _ _ (v2 _ _ hl1))),rfl,_,rfl,?_⟩
    refine ite2 (fun _=>q false _ (sx.trans (v1.trans (v2.trans v3))) nofun) (fun hc2=>⟨sx.trans (v1.trans (v2.trans v3)),⟨_,rfl⟩,fun k hk=>?_⟩)
    by_cases hki:k < i
    ·exact hg k hki
    ·rw [show k=i by omega]
     refine ⟨fun r3 h3=>by rw [hr'] at h3; cases h3; exact hrn,nd_ints (hm2.mp ?_)⟩
     have:V.int ((m2:Nat):Int)=V.int ((ws.length:Nat):Int):=by simpa using hc2
     injection this with this
     rw [List.length_map,List.length_map,hs.1]
     omega
  ·rintro σ Hx ⟨sx,⟨x1,rfl⟩,hg⟩
   refine q true _ sx fun _=>⟨hs,fun r hr=>?_,fun c hc=>(hg c (by omega)).2⟩
   obtain ⟨k,hk,e⟩:=List.getElem_of_mem hr
   exact (hg k (by rw [hwl,← hs.1]; exact hk)).1 r (by rw [List.getElem?_eq_getElem hk,e])
theorem SqsAt.keep {H H':Hp} (s:∀ a xs,H a=some (.tup xs)→H' a=some (.tup xs)):∀ {vs:List V} {sqs:List (List (List Nat))},SqsAt H vs sqs→SqsAt H' vs sqs
 | [],[],_=>trivial
 | _::_,_::_,⟨⟨a,e,ws,h,t⟩,r⟩=>⟨⟨a,e,ws,s _ _ h,t.same s⟩,r.keep s⟩
def xoT (k c:Nat):Nat:=([[0,1,2,3],[0,2,3,1],[0,3,1,2]].getD k []).getD c 0
def xoL (k:Nat):List (List Nat):=(List.range 4).map fun r=>(List.range 4).map fun c=>r ^^^ xoT k c
theorem xo_latF:∀ k:Fin 3,Lat 4 (xoL k.val):=by decide +kernel
theorem xo_valF:∀ (r c:Fin 4) (k:Fin 3),Builtin.bitXor ((r.val:Nat):Int) ((xoT k.val c.val:Nat):Int)=((r.val ^^^ xoT k.val c.val:Nat):Int):=by decide +kernel
theorem xo_at1 {c:Nat} (h:c < 4):atI [V.int 0,V.int 2,V.int 3,V.int 1] ((c:Nat):Int)=some (.int ((xoT 1 c:Nat):Int)):=by
 match c,h with
 | 0,_=>rfl
 | 1,_=>rfl
 | 2,_=>rfl
 | 3,_=>rfl
theorem xo_at2 {c:Nat} (h:c < 4):atI [V.int 0,V.int 3,V.int 1,V.int 2] ((c:Nat):Int)=some (.int ((xoT 2 c:Nat):Int)):=by
 match c,h with
 | 0,_=>rfl
 | 1,_=>rfl
 | 2,_=>rfl
 | 3,_=>rfl
theorem xo_at {c k:Nat} (hk:k < 3) (hc:c < 4):atI [V.int ((c:Nat):Int),V.int ((xoT 1 c:Nat):Int),V.int ((xoT 2 c:Nat):Int)] ((k:Nat):Int)=some (.int ((xoT k c:Nat):Int)):=by
 have h0:xoT 0 c=c:=by
  match c,hc with
  | 0,_=>rfl
  | 1,_=>rfl
  | 2,_=>rfl
  | 3,_=>rfl
 match k,hk with
 | 0,_=>rw [h0]; rfl
 | 1,_=>rfl
 | 2,_=>rfl
def spSqs (K:PySem.W.Frag):Sp:=fun vs H Q _=>∃ (a:Addr) (ns:List Int),vs=[.ref a]∧SqL K H a (ns.map V.int)∧∀ (l:Addr) (n:Nat) (ws:List V) (sqs:List (List (List Nat))) (H':Hp),H l=none→Same H H'→H' l=some (.lst ws)→SqsAt H' ws sqs→1≤n→n≤5→1≤sqs.length→sqs.length≤3→(∀ rs∈sqs,Lat n rs)→Q (.ref l) H'
theorem scLSquares:FnScope ["_law_script", "_law_xs", "_law_size", "_law_found", "_law_k", "_law_ys", "_law_square_here"] ["_law_script"] (defScope sLSquares):=⟨rfl,rfl,rfl,by decide +kernel,rfl,by decide +kernel,by decide +kernel⟩
theorem ok_sqs {f:Addr} {fd:FuncData} (F:Fun K "_law_squares" "_law_squares" sLSquares f fd) (T:TxtB mg) (pCell:Pm P w K mg base CX0 1 "_law_cell" ["_law_script", "_law_k"] (spCell2 K)) (pLNumbers:Pm P w K mg base CX0 1 "_law_numbers" ["_law_cell_here", "_law_many"] spNums) (pLSquare:Pm P w K mg base CX0 2 "_law_square" ["_law_xs", "_law_size"] (spSquare K)) (pLPlain:Pm P w K mg base CX0 1 "_law_plain" ["_law_size", "_law_turn"] spPlainS) (pLGood:Pm P w K mg base CX0 1 "_law_good" ["_law_rows"] spGood):FnOk P w K mg base CX0 3 f fd ["_law_script"] (spSqs K):=by
 refine F.okQ scLSquares (fun vs H Q E h=>?_) (fun cdv A outer s H vs Q E hr2 h=>?_)
 ·obtain ⟨a,ns,rfl,_⟩:=h
  rfl
 ·obtain ⟨a,ns,rfl,hS,q⟩:=h
  have hr1:=hr2.mono (show 1≤2 by decide)
  refine ⟨_,(qss_cons (qs_set (i:=1) scLSquares.nd rfl (Or.inl rfl) (qe_callP pLNumbers hr1 rfl pass0 (qac (qe_callP pCell hr1 rfl pass0 (qac (qv 0) (qac qe_int qa_nil))) (qac qe_int qa_nil))))
   (qss_cons (qs_set (i:=2) scLSquares.nd rfl (Or.inl rfl) (qe_op op_add qe_int (qe_op op_mod (qe_ix ix_list (qv 1) qe_int (fun _ _=>rfl)) qe_int)))
   (qss_cons (qs_set (i:=3) scLSquares.nd rfl (Or.inl rfl) (qe_lst qa_nil))
   (qss_cons (qs_for PassesOwn.never rfl (qi_range1 rfl T.range (qac (qe_op op_add qe_int (qe_op op_mod (qe_ix ix_list (qv 1) qe_int (fun _ _=>rfl)) qe_int)) qa_nil)) (qg_name (i:=4) scLSquares.nd rfl (Or.inr rfl))
    (qss_cons (qs_set (i:=5) scLSquares.nd rfl (Or.inl rfl) (qe_callP pLNumbers hr1 rfl pass0 (qac (qe_callP pCell hr1 rfl pass0 (qac (qv 0) (qac (qe_op op_add qe_int (qv 4)) qa_nil))) (qac qe_int qa_nil))))
    (qss_cons (qs_set (i:=6) scLSquares.nd rfl (Or.inl rfl) (qe_callP pLSquare hr2 rfl pass0 (qac (qv 5) (qac (qv 2) qa_nil))))
    (qss_cons (qs_if (QW.pt (qw_or (qt_cmpR op_eq (qe_op op_mod (qe_ix ix_list (qv 5) qe_int (fun _ _=>rfl)) qe_int) qe_int (nomark _)) (qw_or1 (qt_not (qt_val (qe_callP pLGood hr1 rfl pass0 (qac (qv 6) qa_nil))))))) (qss_one (qs_set (i:=6) scLSquares.nd rfl (Or.inl rfl) (qe_callP pLPlain hr1 rfl pass0 (qac (qv 2) (qac (qe_op op_add qe_int (qe_op op_mod (qv 4) (qe_callB (call_max2 rfl) (by rfl) T.max PyProof.Rows.boot_max (qac qe_int (qac (qe_op op_sub (qv 2) qe_int) qa_nil))))) qa_nil))))) qss_nil)
    (qss_cons (qs_if (qt_not (qt_val (qe_callP pLGood hr1 rfl pass0 (qac (qv 6) qa_nil)))) (qss_one (qs_set (i:=6) scLSquares.nd rfl (Or.inl rfl) (qe_callP pLPlain hr1 rfl pass0 (qac (qv 2) (qac qe_int qa_nil))))) qss_nil)
    (qss_cons (qs_if (QW.pt (qw_and (qt_cmpR op_eq (qv 2) qe_int (nomark _)) (qw_and1 (qt_cmpR op_eq (qe_op op_mod (qe_ix ix_list (qv 5) qe_int (fun _ _=>rfl)) qe_int) qe_int (nomark _))))) (qss_one (qs_setComp (i:=6) (g:=gName 0) (N:=["_law_r", "_law_k"]) (src:=[none,some 4]) rfl (comp_scope (defScope sLSquares) ["_law_script", "_law_xs", "_law_size", "_law_found", "_law_k", "_law_ys", "_law_square_here"] rfl rfl (by decide +kernel) rfl) (qi_range1 rfl T.range (qac qe_int qa_nil)) (fun _ _ _ _ _=>(qg_name (i:=0) (show (["_law_r", "_law_k"]:List Str).Nodup by decide +kernel) rfl (Or.inr rfl) (Or.inl rfl))) (fun _ _ _ _ _=>qif_nil) (fun _ _ _ _ _=>(qe_comp (g:=gName 0) (N:=["_law_c", "_law_r", "_law_k"]) (src:=[none,some 0,some 1]) rfl (comp_scopeX ["_law_r", "_law_k"] rfl rfl rfl) (qi_range1 rfl T.range (qac qe_int qa_nil)) (fun _ _ _ _ _=>(qg_name (i:=0) (show (["_law_c", "_law_r", "_law_k"]:List Str).Nodup by decide +kernel) rfl (Or.inl rfl) (Or.inr rfl))) (fun _ _ _ _ _=>qif_nil) (fun _ _ _ _ _=>(qe_op op_xor (qv 1) (qe_ix (show IxR _ (rIxL K) from ix_list) (qe_lst (qac (qv 0) (qac (qe_ix (show IxR _ (rIxL K) from ix_list) (qe_lst (qac qe_int (qac qe_int (qac qe_int (qac qe_int qa_nil))))) (qv 0) (fun _ _=>rfl)) (qac (qe_ix (show IxR _ (rIxL K) from ix_list) (qe_lst (qac qe_int (qac qe_int (qac qe_int (qac qe_int qa_nil))))) (qv 0) (fun _ _=>rfl)) qa_nil)))) (qv 2) (fun _ _=>rfl)))))) (qg_name (i:=6) scLSquares.nd rfl (Or.inl rfl)))) qss_nil)
    (qss_one (qs_expr (qe_bm PySem.F.plainAttrs_list PySem.F.slot_list_append PySem.F.type_list_append mt_append (qv 3) (qac (qe_callTy call_tuple_of (by rfl) T.tup (by decide +kernel) (qac (qe_comp (g:=gName 0) (N:=["_law_row_here"]) (src:=[none]) rfl (comp_scope (defScope sLSquares) ["_law_script", "_law_xs", "_law_size", "_law_found", "_law_k", "_law_ys", "_law_square_here"] rfl rfl (by decide +kernel) rfl) (qi_list (qv 6)) (fun _ _ _ _ _=>(qg_name (i:=0) (show (["_law_row_here"]:List Str).Nodup by decide +kernel) rfl (Or.inl rfl) (Or.inr rfl))) (fun _ _ _ _ _=>qif_nil) (fun _ _ _ _ _=>(qe_callTy (show CallR _ _ (rTupQ K) from call_tupQ) (by rfl) T.tup (by decide +kernel) (qac (qv 0) qa_nil)))) qa_nil)) qa_nil))))))))))
   (qss_one (qs_ret (qv 3))))))),?_⟩
  refine ⟨_,rfl,a,ns,0,rfl,hS,by omega,fun c0 H1 s1=>?_⟩
  refine ⟨c0,4,rfl,by decide,fun lx xs H2 hlx s2 hx2 hxl hxm=>?_⟩
  obtain ⟨x0,e0,_⟩:=at_ok (ns:=xs) (i:=0) (by omega)
  obtain ⟨x1,e1,_⟩:=at_ok (ns:=xs) (i:=1) (by omega)
  obtain ⟨n,hn,hn1,hn5⟩:∃ n:Nat,1 + x0 % 5=(n:Int)∧1≤n∧n≤5:=by
   have h1:=Int.emod_nonneg x0 (show (5:Int)≠0 by decide)
   have h2:=Int.emod_lt_of_pos x0 (show (0:Int) < 5 by decide)
   exact ⟨(1 + x0 % 5).toNat,by omega,by omega,by omega⟩
  obtain ⟨m,hm,hm1,hm3⟩:∃ m:Nat,1 + x1 % 3=(m:Int)∧1≤m∧m≤3:=by
   have h1:=Int.emod_nonneg x1 (show (3:Int)≠0 by decide)
   have h2:=Int.emod_lt_of_pos x1 (show (0:Int) < 3 by decide)
   exact ⟨(1 + x1 % 3).toNat,by omega,by omega,by omega⟩
  refine ⟨_,rfl,lx,_,0,.int x0,rfl,rfl,SqL.of hx2,e0,_,_,rfl,rfl,(by decide:(0:Int) < 5),_,_,rfl,rfl,?_⟩
  dsimp only
  rw [hn]
  refine ⟨by show 0≤sizeLine; decide,fun fo hfo=>?_⟩
  have w1:=same_new (o:=.lst []) hfo
  have s12:=s1.trans s2
  have hf0:H fo=none:=s12.free hfo
  refine ⟨_,rfl,lx,_,1,.int x1,rfl,rfl,SqL.of (w1 _ _ hx2),e1,_,_,rfl,rfl,(by decide:(0:Int) < 3),_,_,rfl,rfl,1 + x1 % 3,rfl,by omega,by omega,?_⟩
  rw [hm,Int.toNat_natCast]
  have hf3:(L2.upd H2 fo (.lst [])) fo=some (.lst []):=upd_same
  have s3:Same H (L2.upd H2 fo (.lst [])):=s12.trans w1
  generalize L2.upd H2 fo (.lst [])=H3 at hf3 s3 ⊢
  refine for_range (lo:=0) (n:=m) (fun i σ Hx=>Same H Hx∧(∃ x4 x5 x6:Option V,σ=[some (.ref a),some (.ref lx),some (.int ((n:Nat):Int)),some (.ref fo),x4,x5,x6])∧∃ (zs:List V) (sqs:List (List (List Nat))),Hx fo=some (.lst zs)∧SqsAt Hx zs sqs∧sqs.length=i∧∀ rs∈sqs,Lat n rs) ⟨s3,⟨none,none,none,rfl⟩,[],[],hf3,trivial,rfl,by simp⟩ ?_ ?_
  rotate_left
  ·rintro σ Hx ⟨sx,⟨x4,x5,x6,rfl⟩,zs,sqs,hz,hq,hl,hL⟩
   exact ⟨_,rfl,q fo n zs sqs _ hf0 sx hz hq hn1 hn5 (by omega) (by omega) hL⟩
  rintro i σ H4 hi ⟨s4,⟨x4,x5,x6,rfl⟩,zs,sqs,hz4,hq4,hl4,hL4⟩
  rw [Int.zero_add]
  refine ⟨_,rfl,_,rfl,_,_,rfl,rfl,a,ns,1 + i,by show [V.ref a,V.int (1 + ((i:Nat):Int))]=_; rw [show (1:Int) + ((i:Nat):Int)=((1 + i:Nat):Int) by omega],s4.seq hS,by omega,fun ci H5 s5=>?_⟩
  refine ⟨ci,23,rfl,by decide,fun ly ys H6 hly s6 hy6 hyl hym=>?_⟩
  obtain ⟨y21,e21,_⟩:=at_ok (ns:=ys) (i:=21) (by omega)
  obtain ⟨y22,e22,_⟩:=at_ok (ns:=ys) (i:=22) (by omega)
  refine ⟨_,rfl,_,rfl,ly,ys,n,rfl,SqL.of hy6,by omega,hn1,by omega,fun o1 ws1 rs1 H7 ho1 s7 g7 B7 S7=>?_⟩
  have s47:=s5.trans (s6.trans s7)
  have hz7:=s47 _ _ hz4
  have hq7:=hq4.sm s47
  have hy7:=s7 _ _ hy6
  have sH7:=s4.trans s47
  clear s47 s5 s6 s7 hy6 hly ho1 hz4 hq4 s4
  let J:St→Hp→Prop:=fun σ' H'=>Same H7 H'∧∃ (p1:Addr) (u1:List V) (r1:List (List Nat)),σ'=[some (.ref a),some (.ref lx),some (.int ((n:Nat):Int)),some (.ref fo),some (.int ((i:Nat):Int)),some (.ref ly),some (.ref p1)]∧H' p1=some (.lst u1)∧BlAt H' u1 r1∧Sq n r1
  let L:St→Hp→Prop:=fun σ' H'=>Same H7 H'∧∃ (p1:Addr) (u1:List V) (r1:List (List Nat)),σ'=[some (.ref a),some (.ref lx),some (.int ((n:Nat):Int)),some (.ref fo),some (.int ((i:Nat):Int)),some (.ref ly),some (.ref p1)]∧H' p1=some (.lst u1)∧BlAt H' u1 r1∧Lat n r1
  have pl:∀ {D':Ends} (go:∀ σ' H',J σ' H'→D'.nx σ' H'),∀ H8,Same H7 H8→∃ (n' t:Nat),[V.int ((n:Nat):Int),V.int (1 + ((i:Nat):Int) % (if ((n:Nat):Int) - 1 > 1 then ((n:Nat):Int) - 1 else 1))]=[.int ((n':Nat):Int),.int ((t:Nat):Int)]∧1≤n'∧n'≤7∧t≤7∧∀ (l:Addr) (ws:List V) (H':Hp),H8 l=none→Same H8 H'→H' l=some (.lst ws)→BlAt H' ws (plL n' t)→D'.nx [some (.ref a),some (.ref lx),some (.int ((n:Nat):Int)),some (.ref fo),some (.int ((i:Nat):Int)),some (.ref ly),some (.ref l)] H':=fun {D'} go H8 s8=>by
   obtain ⟨t,ht,ht7,hpos⟩:=mod_max (x:=((i:Nat):Int)) (show n≤7 by omega)
   exact ⟨n,t,by rw [ht],hn1,by omega,ht7,fun l ws H9 _ s9 h9 B9=>go _ _ ⟨s8.trans s9,l,ws,_,rfl,h9,B9,pl_sq hn1 t⟩⟩
  obtain ⟨_,_,_,hpos⟩:=mod_max (x:=((i:Nat):Int)) (show n≤7 by omega)
  dsimp only
  refine seqVia J ?_ (fun D' go=>?_)
  rotate_left
  ·refine ⟨_,rfl,ly,_,22,.int y22,rfl,rfl,SqL.of hy7,e22,_,_,rfl,rfl,(by decide:(0:Int) < 2),rfl,_,rfl,?_⟩
   refine ite2 (fun _=>iteT ?_) (fun _=>?_)
   ·exact ⟨_,rfl,_,rfl,_,rfl,_,_,rfl,rfl,_,_,rfl,_,_,rfl,rfl,hpos,_,_,rfl,rfl,pl go H7 (Same.refl _)⟩
   ·refine ⟨_,rfl,o1,n,ws1,rs1,rfl,g7,B7,S7,by omega,fun b H8 s8 _=>⟨_,rfl,?_⟩⟩
    refine ite2 (fun _=>?_) (fun _=>go _ _ ⟨s8,o1,ws1,rs1,rfl,s8 _ _ g7,B7.same s8,S7⟩)
    exact ⟨_,rfl,_,rfl,_,rfl,_,_,rfl,rfl,_,_,rfl,_,_,rfl,rfl,hpos,_,_,rfl,rfl,pl go H8 s8⟩
  rintro σ H8 ⟨s8,p1,u1,r1,rfl,g8,B8,S8⟩
  refine seqVia L ?_ (fun D' go=>?_)
  rotate_left
  ·refine ⟨_,rfl,p1,n,u1,r1,rfl,g8,B8,S8,by omega,fun b H9 s9 hb=>⟨_,rfl,?_⟩⟩
   refine ite2 (fun _=>?_) (fun hc=>go _ _ ⟨s8.trans s9,p1,u1,r1,rfl,s9 _ _ g8,B8.same s9,hb (by simpa using hc)⟩)
   exact ⟨_,rfl,n,1,rfl,hn1,by omega,by omega,fun l ws HA _ sA hA BA=>go _ _ ⟨s8.trans (s9.trans sA),l,ws,_,rfl,hA,BA,pl_lat hn1 (by omega)⟩⟩
  clear g8 B8 S8 s8 p1 u1 r1
  rintro σ H9 ⟨s9,p1,u1,r1,rfl,g9,B9,S9⟩
  refine seqVia L ?_ (fun D' go=>?_)
  rotate_left
  ·refine ⟨_,rfl,rfl,_,rfl,?_⟩
   by_cases h4:n=4
   rotate_left
   ·refine ifF (fun z=>h4 (by injection z with z; omega)) (iteF ?_)
    exact go _ _ ⟨s9,p1,u1,r1,rfl,g9,B9,S9⟩
   subst h4
   refine ifT rfl ?_
   refine ⟨_,rfl,ly,_,21,.int y21,rfl,rfl,SqL.of (s9 _ _ hy7),e21,_,_,rfl,rfl,(by decide:(0:Int) < 2),rfl,_,rfl,?_⟩
   refine ite2 (fun _=>?_) (fun _=>go _ _ ⟨s9,p1,u1,r1,rfl,g9,B9,S9⟩)
   have hi3:i < 3:=by omega
   refine ⟨4,rfl,by omega,by omega,comp_rng (lo:=0) (n:=4) (fun r vs Hx=>Same H9 Hx∧BlAt Hx vs ((List.range r).map fun r=>(List.range 4).map fun c=>r ^^^ xoT i c)) ⟨Same.refl _,trivial⟩ ?_ ?_⟩
   ·rintro r vs HA N hr ⟨sA,BA⟩ nx
    refine ⟨Weak.set (by intro v z; cases z),?_⟩
    refine ⟨4,rfl,by omega,by omega,comp_rng (lo:=0) (n:=4) (fun c us Hx=>Same HA Hx∧us=nats ((List.range c).map fun c=>r ^^^ xoT i c)) ⟨Same.refl _,rfl⟩ ?_ ?_⟩
    ·rintro c us HB N5 hc ⟨sB,rfl⟩ nx5
     rw [Int.zero_add,Int.zero_add]
     refine ⟨Weak.set (by intro v z; cases z),⟨_,rfl,_,rfl,by show 4≤sizeLine; decide,fun d1 hd1=>?_⟩⟩
     have v1:=same_new (o:=.lst [V.int 0,V.int 2,V.int 3,V.int 1]) hd1
     refine ⟨_,rfl,d1,_,_,_,rfl,rfl,SqL.of upd_same,xo_at1 hc,by show 4≤sizeLine; decide,fun d2 hd2=>?_⟩
     have v2:=same_new (o:=.lst [V.int 0,V.int 3,V.int 1,V.int 2]) hd2
     refine ⟨_,rfl,d2,_,_,_,rfl,rfl,SqL.of upd_same,xo_at2 hc,by show 3≤sizeLine; decide,fun d3 hd3=>?_⟩
     have v3:=same_new (o:=.lst [V.int ((c:Nat):Int),V.int ((xoT 1 c:Nat):Int),V.int ((xoT 2 c:Nat):Int)]) hd3
     refine ⟨_,rfl,d3,_,_,_,rfl,rfl,SqL.of upd_same,xo_at hi3 hc,_,_,rfl,rfl,?_,nx5 _ _ ⟨sB.trans (v1.trans (v2.trans v3)),?_⟩⟩
     ·rw [nats_len,List.length_map,List.length_range]
      exact Nat.lt_of_lt_of_le (show c < 5 by omega) (by decide)
     ·rw [List.range_succ,List.map_append,List.map_cons,List.map_nil,nats_snoc]
      dsimp only
      rw [show Builtin.bitXor ((r:Nat):Int) ((xoT i c:Nat):Int)=((r ^^^ xoT i c:Nat):Int) from xo_valF ⟨r,hr⟩ ⟨c,hc⟩ ⟨i,hi3⟩]
    ·rintro us HB ⟨sB,rfl⟩
     refine ⟨by rw [nats_len,List.length_map,List.length_range]; decide,fun d hd=>⟨?_,nx _ _ ⟨sA.trans (sB.trans (same_new hd)),?_⟩⟩⟩
     ·rw [BA.len,List.length_map,List.length_range]
      exact Nat.lt_of_lt_of_le hr (by decide)
     ·rw [show List.range (r + 1)=List.range r++[r] from List.range_succ,List.map_append]
      exact (BA.same (sB.trans (same_new hd))).snoc upd_same
   ·rintro vs HA ⟨sA,BA⟩
    refine ⟨by rw [BA.len,List.length_map,List.length_range]; decide,fun l hl=>?_⟩
    have v1:=same_new (o:=.lst vs) hl
    exact go _ _ ⟨s9.trans (sA.trans v1),l,vs,_,rfl,upd_same,BA.same v1,xo_latF ⟨i,hi3⟩⟩
  clear g9 B9 S9 s9 p1 u1 r1
  rintro σ H9 ⟨s9,p1,u1,r1,rfl,g9,B9,S9⟩
  have hz9:=s9 _ _ hz7
  refine ⟨_,rfl,.inl ⟨rfl,_,SqL.of hz9⟩,_,rfl,p1,rfl,⟨_,SqL.of g9⟩,comp_list (K:=K) (xs:=u1) (fun i vs H2=>Same H9 H2∧TpAt H2 vs (r1.take i)) ⟨Same.refl _,trivial⟩ (fun i zs H2 _ ⟨e,_⟩=>SqL.of (e _ _ g9)) ?_ ?_⟩
  ·rintro i v vs H2 N hi ⟨s2,hT⟩ nx
   obtain ⟨d,r,rfl,hr',ha⟩:=(B9.same s2).get hi
   refine ⟨Weak.set (by intro v z; cases z),⟨_,rfl,d,nats r,rfl,.inl ⟨SqL.of ha,fun p hp=>⟨?_,nx _ _ ⟨s2.trans (same_new hp),?_⟩⟩⟩⟩⟩
   ·rw [hT.len,List.length_take]
    exact Nat.lt_of_le_of_lt (show _≤7 by have:=S9.sq.1; omega) (by decide)
   ·rw [take_snoc hr']
    exact (hT.sm (same_new hp)).snoc upd_same
  rintro vs HA ⟨sA,hTA⟩
  rw [B9.len,List.take_length] at hTA
  refine ⟨by rw [hTA.len,S9.sq.1]; exact Nat.le_trans hn5 (by decide),fun r hr'=>⟨r,vs,rfl,.inl ⟨SqL.of upd_same,fun t1 ht1=>?_⟩⟩⟩
  have v1:=same_new (o:=.lst vs) hr'
  have v2:=same_new (o:=.tup vs) ht1
  have sB:=s9.trans (sA.trans (v1.trans v2))
  have hTB:=hTA.sm (v1.trans v2)
  have hB1:L2.upd (L2.upd HA r (.lst vs)) t1 (.tup vs) t1=some (.tup vs):=upd_same
  generalize L2.upd (L2.upd HA r (.lst vs)) t1 (.tup vs)=HB at sB hTB hB1 ⊢
  have hzB:=sB _ _ hz7
  have up:∀ (o:HO) (d:Addr) (ys:List V),HB d=some (.tup ys)→L2.upd HB fo o d=some (.tup ys):=fun o d ys hd=>by
   rw [upd_ne (fun z=>by rw [z,hzB] at hd; cases hd)]
   exact hd
  have hzl:=(hq7.sm sB).len
  refine ⟨fo,zs,_,rfl,rfl,hzB,Nat.lt_of_lt_of_le (show zs.length < 4 by omega) (by decide),?_⟩
  refine ⟨same_upd (sH7.trans sB) hf0,⟨_,_,_,rfl⟩,_,_,upd_same,((hq7.sm sB).snoc ⟨vs,hB1,hTB⟩).keep (fun d ys hd=>up _ d ys hd),by rw [List.length_append,hl4]; rfl,fun rs hrs=>?_⟩
  rcases List.mem_append.mp hrs with z | z
  ·exact hL4 rs z
  ·rw [List.mem_singleton.mp z]
   exact S9
theorem rowsF:∀ n:Fin 6,∀ r:Fin 6,r.val < n.val→(List.range n.val).map (fun p=>r.val * n.val + p)=(List.range (n.val * n.val)).filter fun c=>decide (c / n.val=r.val):=by decide +kernel
theorem colsF:∀ n:Fin 6,∀ c:Fin 6,c.val < n.val→(List.range n.val).map (fun p=>c.val + p * n.val)=(List.range (n.val * n.val)).filter fun k=>decide (k % n.val=c.val):=by decide +kernel
theorem rng_cF:∀ (n c:Fin 6),c.val < n.val→Builtin.Range.small ((c.val:Nat):Int) ((n.val * n.val:Nat):Int) ((n.val:Nat):Int)=true∧Builtin.Range.rangeSize ((c.val:Nat):Int) ((n.val * n.val:Nat):Int) ((n.val:Nat):Int)=((n.val:Nat):Int):=by decide +kernel
theorem rows_nats {n r:Nat} (hn:n≤5) (hr:r < n):((List.range n).map fun p=>V.int ((r * n + p:Nat):Int))=nats ((List.range (n * n)).filter fun c=>decide (c / n=r)):=by
 rw [← rowsF ⟨n,by omega⟩ ⟨r,by omega⟩ hr]
 unfold nats
 rw [List.map_map]
 rfl
theorem cols_nats {n c:Nat} (hn:n≤5) (hc:c < n):((List.range n).map fun p=>V.int (((c:Nat):Int) + ((p:Nat):Int) * ((n:Nat):Int)))=nats ((List.range (n * n)).filter fun k=>decide (k % n=c)):=by
 rw [← colsF ⟨n,by omega⟩ ⟨c,by omega⟩ hc]
 unfold nats
 rw [List.map_map]
 refine List.map_congr_left fun p _=>?_
 show V.int _=V.int _
 rw [show ((c + p * n:Nat):Int)=((c:Nat):Int) + ((p:Nat):Int) * ((n:Nat):Int) by rw [Int.natCast_add,Int.natCast_mul]]
def clsK (n:Nat) (f:Nat→Nat) (i:Nat):List (List Nat):=(List.range i).map fun x=>(List.range (n * n)).filter fun c=>decide (f c=x)
theorem scLNet:FnScope ["_law_squares_here", "_law_size", "_law_blocks", "_law_square_here", "_law_x"] ["_law_squares_here"] (defScope sLNet):=⟨rfl,rfl,rfl,by decide +kernel,rfl,by decide +kernel,by decide +kernel⟩
theorem ok_lnet {f:Addr} {fd:FuncData} (F:Fun K "_law_net" "_law_net" sLNet f fd) (T:TxtB mg):FnOk P w K mg base CX0 1 f fd ["_law_squares_here"] spNet:=by
 refine F.okQ scLNet (fun vs H Q E h=>?_) (fun cdv A outer s H vs Q E hr h=>?_)
 ·obtain ⟨l,n,ws,sqs,rfl,_⟩:=h
  rfl
 ·obtain ⟨l,n,ws,sqs,rfl,hl,hS,hn1,hn5,hq1,hq4,hsq,q⟩:=h
  refine ⟨_,(qss_cons (qs_set (i:=1) scLNet.nd rfl (Or.inr rfl) (qe_callB call_len_seq (by rfl) T.len PySem.boot_len (qac (qe_ix ix_list (qv 0) qe_int (fun _ _=>rfl)) qa_nil)))
   (qss_cons (qs_setComp (i:=2) (g:=gName 0) (N:=["_law_r", "_law_size"]) (src:=[none,some 1]) rfl (comp_scope (defScope sLNet) ["_law_squares_here", "_law_size", "_law_blocks", "_law_square_here", "_law_x"] rfl rfl (by decide +kernel) rfl) (qi_range1 rfl T.range (qac (qv 1) qa_nil)) (fun _ _ _ _ _=>(qg_name (i:=0) (show (["_law_r", "_law_size"]:List Str).Nodup by decide +kernel) rfl (Or.inl rfl) (Or.inr rfl))) (fun _ _ _ _ _=>qif_nil) (fun _ _ _ _ _=>(qe_callTy (call_tuple_rng rfl) (by rfl) T.tup (by decide +kernel) (qac (qe_callTy call_rng2 (by rfl) T.range (by decide +kernel) (qac (qe_op op_mul (qv 0) (qv 1)) (qac (qe_op op_add (qe_op op_mul (qv 0) (qv 1)) (qv 1)) qa_nil))) qa_nil))) (qg_name (i:=2) scLNet.nd rfl (Or.inl rfl)))
   (qss_cons (qs_set (i:=2) scLNet.nd rfl (Or.inl rfl) (qe_op op_cat (qv 2) (qe_comp (g:=gName 0) (N:=["_law_c", "_law_size"]) (src:=[none,some 1]) rfl (comp_scope (defScope sLNet) ["_law_squares_here", "_law_size", "_law_blocks", "_law_square_here", "_law_x"] rfl rfl (by decide +kernel) rfl) (qi_range1 rfl T.range (qac (qv 1) qa_nil)) (fun _ _ _ _ _=>(qg_name (i:=0) (show (["_law_c", "_law_size"]:List Str).Nodup by decide +kernel) rfl (Or.inl rfl) (Or.inr rfl))) (fun _ _ _ _ _=>qif_nil) (fun _ _ _ _ _=>(qe_callTy (call_tuple_rng3 rfl) (by rfl) T.tup (by decide +kernel) (qac (qe_callTy call_rng3 (by rfl) T.range (by decide +kernel) (qac (qv 0) (qac (qe_op op_mul (qv 1) (qv 1)) (qac (qv 1) qa_nil)))) qa_nil))))))
   (qss_cons (qs_for PassesOwn.never rfl (qi_list (qv 0)) (qg_name (i:=3) scLNet.nd rfl (Or.inr rfl))
    (qss_one (qs_for PassesOwn.never rfl (qi_range1 rfl T.range (qac (qv 1) qa_nil)) (qg_name (i:=4) scLNet.nd rfl (Or.inr rfl))
     (qss_one (qs_expr (qe_bm PySem.F.plainAttrs_list PySem.F.slot_list_append PySem.F.type_list_append mt_append (qv 2) (qac (qe_callTy call_tuple_of (by rfl) T.tup (by decide +kernel) (qac (qe_comp (g:=gName 0) (N:=["_law_k", "_law_size", "_law_square_here", "_law_x"]) (src:=[none,some 1,some 3,some 4]) rfl (comp_scope (defScope sLNet) ["_law_squares_here", "_law_size", "_law_blocks", "_law_square_here", "_law_x"] rfl rfl (by decide +kernel) rfl) (qi_range1 rfl T.range (qac (qe_op op_mul (qv 1) (qv 1)) qa_nil)) (fun _ _ _ _ _=>(qg_name (i:=0) (show (["_law_k", "_law_size", "_law_square_here", "_law_x"]:List Str).Nodup by decide +kernel) rfl (Or.inl rfl) (Or.inr rfl))) (fun _ _ _ _ _=>(qif_one (qt_cmpR op_eq (qe_ix (show IxR _ (rIxT K) from ix_tup) (qe_ix (show IxR _ (rIxT K) from ix_tup) (qv 2) (qe_op op_fdiv (qv 0) (qv 1)) (fun _ _=>rfl)) (qe_op op_mod (qv 0) (qv 1)) (fun _ _=>rfl)) (qv 3) (nomark _)))) (fun _ _ _ _ _=>(qv 0))) qa_nil)) qa_nil)))))))
   (qss_one (qs_ret (qe_tup (qac (qe_op op_mul (qv 1) (qv 1)) (qac (qe_callTy call_tuple_of (by rfl) T.tup (by decide +kernel) (qac (qv 2) qa_nil)) qa_nil))))))))),?_⟩
  have hwl:=hS.len
  have g0:ws[0]?=some (ws[0]'(by omega)):=List.getElem?_eq_getElem _
  obtain ⟨a0,r0,ea0,hr0,us0,ha0,hT0⟩:=hS.get g0
  have hs0:=hsq r0 (List.mem_of_getElem? hr0)
  have hu0:us0.length=n:=by rw [hT0.len,hs0.1]
  refine ⟨_,rfl,l,_,_,_,rfl,rfl,SqL.of hl,atI_nat (j:=0) g0,a0,us0,by rw [ea0],.inr (SqT.of ha0),?_⟩
  dsimp only
  rw [hu0]
  have hnn:((n:Nat):Int) * ((n:Nat):Int)=((n * n:Nat):Int):=by rw [Int.natCast_mul]
  have hn25:n * n≤25:=Nat.mul_le_mul hn5 hn5
  have hn0:(0:Int) < ((n:Nat):Int):=by omega
  refine ⟨_,rfl,((n:Nat):Int),rfl,by omega,by omega,?_⟩
  rw [Int.toNat_natCast]
  refine comp_rng (lo:=0) (n:=n) (fun i ys H2=>Same H H2∧TpAt H2 ys (clsK n (· / n) i)) ⟨Same.refl _,trivial⟩ ?_ ?_
  ·rintro i ys H2 N hi ⟨s2,hT⟩ nx
   rw [Int.zero_add]
   have hii:((i:Nat):Int) * ((n:Nat):Int)=((i * n:Nat):Int):=by rw [Int.natCast_mul]
   have hi25:i * n≤25:=Nat.mul_le_mul (show i≤5 by omega) hn5
   refine ⟨Weak.set (by intro v z; cases z),⟨_,rfl,_,rfl,_,_,rfl,rfl,.inl ⟨by omega,by omega⟩,_,rfl,_,rfl,_,_,rfl,rfl,.inl ⟨by omega,by omega⟩,_,rfl,_,_,rfl,rfl,((i * n:Nat):Int),((i * n + n:Nat):Int),by dsimp only; rw [hii,Int.natCast_add],fun r hr=>?_⟩⟩
   have v1:=same_new (o:=.rng ((i * n:Nat):Int) ((i * n + n:Nat):Int)) hr
   refine ⟨r,i * n,n,rfl,upd_same,by omega,by omega,fun t ht=>⟨?_,nx _ _ ⟨s2.trans (v1.trans (same_new ht)),?_⟩⟩⟩
   ·rw [hT.len]
    unfold clsK
    rw [List.length_map,List.length_range]
    exact Nat.lt_of_lt_of_le (show i < 6 by omega) (by decide)
   ·unfold clsK
    rw [List.range_succ,List.map_append]
    refine ((hT.sm v1).sm (same_new ht)).snoc ?_
    rw [upd_same,rows_nats hn5 hi]
  rintro ys H2 ⟨s2,hT2⟩
  have hyl:ys.length=n:=by rw [hT2.len]; unfold clsK; rw [List.length_map,List.length_range]
  refine ⟨by rw [hyl]; exact Nat.le_trans hn5 (by decide),fun b1 hb1=>?_⟩
  have v1:=same_new (o:=.lst ys) hb1
  have s3:=s2.trans v1
  have hb3:L2.upd H2 b1 (.lst ys) b1=some (.lst ys):=upd_same
  have hT3:=hT2.sm v1
  dsimp only [gName]
  generalize L2.upd H2 b1 (.lst ys)=H3 at s3 hb3 hT3 ⊢
  refine ⟨_,rfl,_,rfl,((n:Nat):Int),rfl,by omega,by omega,?_⟩
  rw [Int.toNat_natCast]
  refine comp_rng (lo:=0) (n:=n) (fun i zs H4=>Same H3 H4∧TpAt H4 zs (clsK n (· % n) i)) ⟨Same.refl _,trivial⟩ ?_ ?_
  ·rintro i zs H4 N hi ⟨s4,hT⟩ nx
   rw [Int.zero_add]
   obtain ⟨sm,rs⟩:=rng_cF ⟨n,by omega⟩ ⟨i,by omega⟩ hi
   refine ⟨Weak.set (by intro v z; cases z),⟨_,rfl,_,rfl,_,rfl,_,_,rfl,rfl,.inl ⟨by omega,by omega⟩,_,rfl,((i:Nat):Int),((n * n:Nat):Int),((n:Nat):Int),by dsimp only; rw [hnn],by omega,by omega,fun r hr=>?_⟩⟩
   have v1:=same_new (o:=RgO r ((i:Nat):Int) ((n * n:Nat):Int) ((n:Nat):Int)) hr
   refine ⟨r,_,_,_,n,rfl,upd_same,sm,rs,by omega,fun t ht=>⟨?_,nx _ _ ⟨s4.trans (v1.trans (same_new ht)),?_⟩⟩⟩
   ·rw [hT.len]
    unfold clsK
    rw [List.length_map,List.length_range]
    exact Nat.lt_of_lt_of_le (show i < 6 by omega) (by decide)
   ·unfold clsK
    rw [List.range_succ,List.map_append]
    refine ((hT.sm v1).sm (same_new ht)).snoc ?_
    rw [upd_same,cols_nats hn5 hi]
  rintro zs H4 ⟨s4,hT4⟩
  have hzl:zs.length=n:=by rw [hT4.len]; unfold clsK; rw [List.length_map,List.length_range]
  refine ⟨by rw [hzl]; exact Nat.le_trans hn5 (by decide),fun b2 hb2=>?_⟩
  have v2:=same_new (o:=.lst zs) hb2
  refine ⟨b1,b2,ys,zs,rfl,rfl,v2 _ _ (s4 _ _ hb3),upd_same,Nat.le_trans (show ys.length + zs.length≤10 by omega) (by decide),fun b hb=>?_⟩
  have v3:=same_new (o:=.lst (ys++zs)) hb
  have hb0:H b=none:=(s3.trans (s4.trans v2)).free hb
  have s5:Same H (L2.upd (L2.upd H4 b2 (.lst zs)) b (.lst (ys++zs))):=s3.trans (s4.trans (v2.trans v3))
  have hb5:L2.upd (L2.upd H4 b2 (.lst zs)) b (.lst (ys++zs)) b=some (.lst (ys++zs)):=upd_same
  have hT5:=(((hT3.sm s4).app hT4).sm v2).sm v3
  generalize L2.upd (L2.upd H4 b2 (.lst zs)) b (.lst (ys++zs))=H5 at s5 hb5 hT5 ⊢
  clear hT4 hT3 hT2 v3 v2 v1 hb hb2 hb3 s4 s3 s2
  have up:∀ {H6:Hp} {xs:List V},H6 b=some (.lst xs)→∀ (o:HO) (d:Addr) (zs:List V),H6 d=some (.tup zs)→L2.upd H6 b o d=some (.tup zs):=fun {H6 xs} hb6 o d zs hd=>by
   rw [upd_ne (fun z=>by rw [z,hb6] at hd; cases hd)]
   exact hd
  refine ⟨_,rfl,l,rfl,⟨_,SqL.of (s5 _ _ hl)⟩,for_list (K:=K) (xs:=ws) (fun i σ H6=>Same H H6∧∃ (zs:List V) (x3 x4:Option V),σ=[some (.ref l),some (.int ((n:Nat):Int)),some (.ref b),x3,x4]∧H6 b=some (.lst zs)∧TpAt H6 zs (netL n (sqs.take i))) ⟨s5,ys++zs,none,none,rfl,hb5,by unfold netL; rw [List.take_zero,List.flatMap_nil,List.append_nil]; exact hT5⟩ (fun i σ H6 _ ⟨s6,_⟩=>SqL.of (s6 _ _ hl)) ?_ ?_⟩
  ·rintro i v σ H6 hi ⟨s6,zs,x3,x4,rfl,hb6,hT6⟩
   obtain ⟨ai,ri,rfl,hri,ui,hai,hTi⟩:=(hS.sm s6).get hi
   have hil:=(List.getElem?_eq_some_iff.mp hri).1
   have hsi:=hsq ri (List.mem_of_getElem? hri)
   have hz:=hT6.len
   rw [net_len,List.length_take] at hz
   have hzz:zs.length≤30:=by
    rw [hz]
    exact Nat.le_trans (Nat.mul_le_mul hn5 (show 2 + min i sqs.length≤6 by omega)) (by decide)
   refine ⟨_,rfl,((n:Nat):Int),rfl,by omega,by omega,?_⟩
   rw [Int.toNat_natCast]
   refine for_range (lo:=0) (n:=n) (fun j σ H7=>Same H H7∧∃ (us:List V) (x4:Option V),σ=[some (.ref l),some (.int ((n:Nat):Int)),some (.ref b),some (.ref ai),x4]∧H7 b=some (.lst us)∧TpAt H7 us (netL n (sqs.take i)++clsK n (fS n ri) j)) ⟨s6,zs,x4,rfl,hb6,by unfold clsK; rw [List.range_zero,List.map_nil,List.append_nil]; exact hT6⟩ ?_ ?_
   ·rintro j σ H7 hj ⟨s7,us,x4,rfl,hb7,hT7⟩
    rw [Int.zero_add]
    obtain ⟨_,ri',e',hri',ui7,hai7,hTi7⟩:=(hS.sm s7).get hi
    cases e'
    rw [hri] at hri'
    cases hri'
    refine ⟨_,rfl,.inl ⟨rfl,_,SqL.of hb7⟩,_,rfl,_,rfl,_,_,rfl,rfl,.inl ⟨by omega,by omega⟩,((n:Nat):Int) * ((n:Nat):Int),rfl,by omega,by omega,?_⟩
    rw [hnn,Int.toNat_natCast]
    refine comp_rng (lo:=0) (n:=n * n) (fun c ks H8=>H8=H7∧ks=nats ((List.range c).filter fun c=>decide (fS n ri c=j))) ⟨rfl,rfl⟩ ?_ ?_
    ·rintro c ks H8 N hc ⟨rfl,rfl⟩ nx
     rw [Int.zero_add]
     have hjd:c / n < n:=Nat.div_lt_of_lt_mul hc
     have hjm:c % n < n:=Nat.mod_lt _ hn1
     have gr:ui7[c / n]?=some (ui7[c / n]'(by rw [hTi7.len,hsi.1]; exact hjd)):=List.getElem?_eq_getElem _
     obtain ⟨tr,rr,etr,hrr,htr⟩:=hTi7.get gr
     have hrl:=(hsi.2 rr (List.mem_of_getElem? hrr)).1
     have gc:(nats rr)[c % n]?=some (.int ((fS n ri c:Nat):Int)):=by
      unfold nats fS
      have e1:ri.getD (c / n) []=rr:=by rw [List.getD_eq_getElem?_getD,hrr]; rfl
      rw [List.getElem?_map,e1,List.getElem?_eq_getElem (by omega)]
      simp [show c % n < rr.length by omega]
     refine ⟨Weak.set (by intro v z; cases z),⟨_,rfl,_,rfl,_,rfl,_,_,rfl,rfl,⟨by omega,by omega⟩,ai,_,_,_,rfl,rfl,SqT.of hai7,atI_nat gr,_,rfl,_,rfl,_,_,rfl,rfl,hn0,tr,_,_,_,etr,rfl,SqT.of htr,atI_nat gc,_,rfl,rfl,_,rfl,?_⟩⟩
     by_cases hx:fS n ri c=j
     ·refine ifT (by rw [hx]) ⟨_,rfl,?_,nx _ _ ⟨rfl,?_⟩⟩
      ·rw [nats_len]
       exact Nat.lt_of_le_of_lt (Nat.le_trans (List.length_filter_le ..) (by rw [List.length_range]; exact Nat.le_refl _)) (Nat.lt_of_lt_of_le (show c < 26 by omega) (by decide))
      ·rw [List.range_succ,List.filter_append,List.filter_cons,if_pos (decide_eq_true hx),List.filter_nil,nats_snoc]
     ·refine ifF (fun z=>hx (by injection z with z; exact Int.ofNat.inj z)) (nx _ _ ⟨rfl,?_⟩)
      rw [List.range_succ,List.filter_append,List.filter_cons,if_neg (by simpa using hx),List.filter_nil,List.append_nil]
    rintro ks H8 ⟨rfl,rfl⟩
    refine ⟨by rw [nats_len]; exact Nat.le_trans (Nat.le_trans (List.length_filter_le ..) (by rw [List.length_range]; exact hn25)) (by decide),fun r hr'=>⟨r,_,rfl,.inl ⟨SqL.of upd_same,fun t ht=>?_⟩⟩⟩
    have v1:=same_new (o:=.lst (nats ((List.range (n * n)).filter fun c=>decide (fS n ri c=j)))) hr'
    have v2:=same_new (o:=.tup (nats ((List.range (n * n)).filter fun c=>decide (fS n ri c=j)))) ht
    have v12:=v1.trans v2
    have hT8:=(hT7.sm v12).snoc (a:=t) (b:=(List.range (n * n)).filter fun c=>decide (fS n ri c=j)) upd_same
    have hul:us.length < 40:=by
     have e:=hT7.len
     rw [List.length_append,net_len,List.length_take] at e
     unfold clsK at e
     rw [List.length_map,List.length_range] at e
     have:=Nat.mul_le_mul hn5 (show 2 + min i sqs.length≤6 by omega)
     omega
    have hb8:=v12 _ _ hb7
    generalize L2.upd (L2.upd H8 r (.lst (nats ((List.range (n * n)).filter fun c=>decide (fS n ri c=j))))) t (.tup (nats ((List.range (n * n)).filter fun c=>decide (fS n ri c=j))))=H9 at v12 hT8 hb8 ⊢
    refine ⟨b,us,_,rfl,rfl,hb8,Nat.lt_of_lt_of_le hul (by decide),?_⟩
    refine ⟨same_upd (s7.trans v12) hb0,_,_,rfl,upd_same,?_⟩
    have e:netL n (sqs.take i)++clsK n (fS n ri) (j + 1)=(netL n (sqs.take i)++clsK n (fS n ri) j)++[(List.range (n * n)).filter fun c=>decide (fS n ri c=j)]:=by
     unfold clsK
     rw [List.range_succ,List.map_append,List.append_assoc]
     rfl
    rw [e]
    exact hT8.same fun d zs hd=>up hb8 _ d zs hd
   ·rintro σ H7 ⟨s7,us,x4,rfl,hb7,hT7⟩
    refine ⟨s7,us,_,_,rfl,hb7,?_⟩
    have e:netL n (sqs.take (i + 1))=netL n (sqs.take i)++clsK n (fS n ri) n:=by
     unfold netL
     rw [List.take_add_one,hri,Option.toList_some,List.flatMap_append,List.flatMap_cons,List.flatMap_nil,List.append_nil,← List.append_assoc]
     rfl
    rw [e]
    exact hT7
  ·rintro σ H6 ⟨s6,zs,x3,x4,rfl,hb6,hT6⟩
   rw [hwl,List.take_length] at hT6
   refine ⟨_,rfl,_,rfl,_,_,rfl,rfl,.inl ⟨by omega,by omega⟩,_,rfl,b,_,rfl,.inl ⟨SqL.of hb6,fun u hu=>⟨by show 2≤sizeLine; decide,fun t ht=>?_⟩⟩⟩
   have w1:=same_new (o:=.tup zs) hu
   dsimp only
   rw [hnn]
   have w2:=same_new (o:=.tup [.int ((n * n:Nat):Int),.ref u]) ht
   exact q t u zs _ ((s6.trans w1).free ht) (s6.trans (w1.trans w2)) upd_same (w2 _ _ upd_same) (hT6.sm (w1.trans w2))
theorem tpErase {H:Hp}:∀ {vs:List V} {bs:List (List Nat)} (n:Nat),TpAt H vs bs→TpAt H (vs.eraseIdx n) (bs.eraseIdx n)
 | [],[],_,_=>by simp [TpAt]
 | _::_,_::_,0,⟨_,t⟩=>t
 | _::_,_::_,n + 1,⟨h,t⟩=>⟨h,tpErase n t⟩
theorem tpCut {H:Hp} {vs:List V} {bs:List (List Nat)} (h:TpAt H vs bs) (lo hi:Option Int):∃ cs,TpAt H (cutV vs lo hi) cs∧(∀ b∈cs,b∈bs)∧cs.length≤bs.length:=by
 unfold cutV
 refine ⟨(bs.drop _).take _,(tp_drop _ h).take _,fun b hb=>List.mem_of_mem_drop (List.mem_of_mem_take hb),?_⟩
 rw [List.length_take,List.length_drop]
 omega
structure Bd (m:Nat) (bs:List (List Nat)):Prop where
 lt:∀ b∈bs,∀ x∈b,x < m
 m1:1≤m
 m26:m≤26
 len:bs.length≤25
 five:∀ b∈bs,b.length≤5
theorem Bd.sub {m:Nat} {bs cs:List (List Nat)} (h:Bd m bs) (h1:∀ b∈cs,b∈bs) (h2:cs.length≤bs.length):Bd m cs:=
 ⟨fun b hb=>h.lt b (h1 b hb),h.m1,h.m26,Nat.le_trans h2 h.len,fun b hb=>h.five b (h1 b hb)⟩
theorem Bd.set {m k:Nat} {bs:List (List Nat)} {b:List Nat} (h:Bd m bs) (h1:∀ x∈b,x < m) (h2:b.length≤5):Bd m (bs.set k b):=by
 have key:∀ c∈bs.set k b,c∈bs∨c=b:=fun c hc=>List.mem_or_eq_of_mem_set hc
 refine ⟨fun c hc=>?_,h.m1,h.m26,by rw [List.length_set]; exact h.len,fun c hc=>?_⟩
 ·rcases key c hc with z | rfl
  ·exact h.lt c z
  ·exact h1
 ·rcases key c hc with z | rfl
  ·exact h.five c z
  ·exact h2
def spBent:Sp:=fun vs H Q _=>∃ (t l:Addr) (c:Int) (m:Nat) (ws:List V) (bs:List (List Nat)),vs=[.ref t,.int c]∧H t=some (.tup [.int ((m:Nat):Int),.ref l])∧H l=some (.tup ws)∧TpAt H ws bs∧Bd m bs∧m≤25∧3≤bs.length∧∀ (t' l':Addr) (m':Nat) (ws':List V) (bs':List (List Nat)) (H':Hp),Same H H'→H' t'=some (.tup [.int ((m':Nat):Int),.ref l'])→H' l'=some (.tup ws')→TpAt H' ws' bs'→Bd m' bs'→Q (.ref t') H'
theorem scLBent:FnScope ["_law_net_here", "_law_cell_here", "_law_xs", "_law_many", "_law_blocks", "_law_k", "_law_j", "_law_point"] ["_law_net_here", "_law_cell_here"] (defScope sLBent):=⟨rfl,rfl,rfl,by decide +kernel,rfl,by decide +kernel,by decide +kernel⟩
theorem ok_bent {f:Addr} {fd:FuncData} (F:Fun K "_law_bent" "_law_bent" sLBent f fd) (T:TxtB mg) (pLNumbers:Pm P w K mg base CX0 1 "_law_numbers" ["_law_cell_here", "_law_many"] spNums):FnOk P w K mg base CX0 2 f fd ["_law_net_here", "_law_cell_here"] spBent:=by
 refine F.okQ scLBent (fun vs H Q E h=>?_) (fun cdv A outer s H vs Q E hr1 h=>?_)
 ·obtain ⟨t,l,c,m,ws,bs,rfl,_⟩:=h
  rfl
 ·obtain ⟨t,l,c,m,ws,bs,rfl,ht,hl,hT,hBd,hm25,hb3,q⟩:=h
  refine ⟨_,(qss_cons (qs_set (i:=2) scLBent.nd rfl (Or.inl rfl) (qe_callP pLNumbers hr1 rfl pass0 (qac (qv 1) (qac qe_int qa_nil))))
   (qss_cons (qs_asg (qv 0) (qg_tup rfl (qgs_cons (qg_name (i:=3) scLBent.nd rfl (Or.inl rfl)) (qgs_cons (qg_name (i:=4) scLBent.nd rfl (Or.inl rfl)) qgs_nil))))
   (qss_cons (qs_set (i:=4) scLBent.nd rfl (Or.inl rfl) (qe_callTy call_list_of (by rfl) T.lst (by decide +kernel) (qac (qv 4) qa_nil)))
   (qss_cons (qs_set (i:=5) scLBent.nd rfl (Or.inl rfl) (qe_op op_mod (qe_ix ix_list (qv 2) qe_int (fun _ _=>rfl)) (qe_callB call_len_seq (by rfl) T.len PySem.boot_len (qac (qv 4) qa_nil))))
   (qss_cons (qs_set (i:=6) scLBent.nd rfl (Or.inl rfl) (qe_op op_mod (qe_ix ix_list (qv 2) qe_int (fun _ _=>rfl)) (qe_callB call_len_seq (by rfl) T.len PySem.boot_len (qac (qv 4) qa_nil))))
   (qss_cons (qs_if (qt_cmpR op_eq (qe_op op_mod (qe_ix ix_list (qv 2) qe_int (fun _ _=>rfl)) qe_int) qe_int (nomark _)) (qss_cons (qs_set (i:=7) scLBent.nd rfl (Or.inl rfl) (qe_op op_mod (qe_ix ix_list (qv 2) qe_int (fun _ _=>rfl)) (qv 3)))
    (qss_one (qs_asg (qe_callTy call_tuple_of (by rfl) T.tup (by decide +kernel) (qac (qe_callB (show CallR _ _ (rSortS P w) from call_sortS rfl) (by rfl) T.sor (by decide +kernel) (qac (qe_callTy (show CallR _ _ (rSetW P w K) from call_setW rfl) (by rfl) T.set (by decide +kernel) (qac (qe_op op_cat (qe_callTy call_list_of (by rfl) T.lst (by decide +kernel) (qac (qe_slice sl_tupA (qe_ix ix_list (qv 4) (qv 5) (fun _ _=>rfl)) (qo_some qe_int) qo_none) qa_nil)) (qe_lst (qac (qv 7) qa_nil))) qa_nil)) qa_nil)) qa_nil)) (qg_sub (qv 4) (qv 5) set_list)))) qss_nil)
   (qss_cons (qs_if (qt_cmpR op_eq (qe_op op_mod (qe_ix ix_list (qv 2) qe_int (fun _ _=>rfl)) qe_int) qe_int (nomark _)) (qss_one (qs_expr (qe_bm PySem.F.plainAttrs_list PySem.F.slot_list_pop PySem.F.type_list_pop mt_popAt (qv 4) (qac (qv 5) qa_nil)))) qss_nil)
   (qss_cons (qs_if (qt_cmpR op_eq (qe_op op_mod (qe_ix ix_list (qv 2) qe_int (fun _ _=>rfl)) qe_int) qe_int (nomark _)) (qss_one (qs_asg (qe_tup (qac (qe_ix ix_list (qv 4) (qv 6) (fun _ _=>rfl)) (qac (qe_ix ix_list (qv 4) (qv 5) (fun _ _=>rfl)) qa_nil))) (qg_tup rfl (qgs_cons (qg_sub (qv 4) (qv 5) set_list) (qgs_cons (qg_sub (qv 4) (qv 6) set_list) qgs_nil))))) qss_nil)
   (qss_cons (qs_if (qt_cmpR op_eq (qe_op op_mod (qe_ix ix_list (qv 2) qe_int (fun _ _=>rfl)) qe_int) qe_int (nomark _)) (qss_one (qs_set (i:=4) scLBent.nd rfl (Or.inl rfl) (qe_slice sl_list (qv 4) (qo_some (qe_callB call_len_seq (by rfl) T.len PySem.boot_len (qac (qe_ix ix_list (qv 4) qe_int (fun _ _=>rfl)) qa_nil))) qo_none))) qss_nil)
   (qss_cons (qs_if (qt_cmpR op_eq (qe_op op_mod (qe_ix ix_list (qv 2) qe_int (fun _ _=>rfl)) qe_int) qe_int (nomark _)) (qss_one (qs_set (i:=3) scLBent.nd rfl (Or.inl rfl) (qe_op op_add (qv 3) qe_int))) qss_nil)
   (qss_cons (qs_if (qt_cmpR op_gt (qe_op op_mod (qe_ix ix_list (qv 2) qe_int (fun _ _=>rfl)) qe_int) qe_int (nomark _)) (qss_one (qs_set (i:=4) scLBent.nd rfl (Or.inl rfl) (qe_slice sl_list (qv 4) qo_none (qo_some (qe_op op_mul (qe_callB call_len_seq (by rfl) T.len PySem.boot_len (qac (qe_ix ix_list (qv 4) qe_int (fun _ _=>rfl)) qa_nil)) (qe_op op_sub (qe_op op_mod (qe_ix ix_list (qv 2) qe_int (fun _ _=>rfl)) qe_int) qe_int)))))) qss_nil)
   (qss_one (qs_ret (qe_tup (qac (qv 3) (qac (qe_callTy call_tuple_of (by rfl) T.tup (by decide +kernel) (qac (qv 4) qa_nil)) qa_nil)))))))))))))))),?_⟩
  refine ⟨_,rfl,c,8,rfl,by decide,fun lx xs H1 hlx s1 hx1 hxl hxm=>?_⟩
  obtain ⟨x0,e0,_⟩:=at_ok (ns:=xs) (i:=0) (by omega)
  obtain ⟨x1,e1,_⟩:=at_ok (ns:=xs) (i:=1) (by omega)
  obtain ⟨x2,e2,_⟩:=at_ok (ns:=xs) (i:=2) (by omega)
  obtain ⟨x3,e3,_⟩:=at_ok (ns:=xs) (i:=3) (by omega)
  have hwl:=hT.len
  refine ⟨_,rfl,t,_,rfl,SqT.of (s1 _ _ ht),rfl,_,_,rfl,_,_,rfl,rfl,?_⟩
  refine ⟨_,rfl,l,_,rfl,.inr (SqT.of (s1 _ _ hl)),fun lb hlb=>?_⟩
  have w1:=same_new (o:=.lst ws) hlb
  have hlb0:H lb=none:=s1.free hlb
  have s2:=s1.trans w1
  have hb2:L2.upd H1 lb (.lst ws) lb=some (.lst ws):=upd_same
  have hx2:=w1 _ _ hx1
  have hT2:=hT.sm s2
  generalize L2.upd H1 lb (.lst ws)=H2 at s2 hb2 hx2 hT2 ⊢
  have hbx:lb≠lx:=fun z=>by rw [z,hx1] at hlb; cases hlb
  clear w1 hlb hx1 hlx s1
  have hwp:(0:Int) < ((ws.length:Nat):Int):=by omega
  obtain ⟨k,ek,hk⟩:∃ k:Nat,x1 % ((ws.length:Nat):Int)=((k:Nat):Int)∧k < bs.length:=by
   have h1:=Int.emod_nonneg x1 (show ((ws.length:Nat):Int)≠0 by omega)
   have h2:=Int.emod_lt_of_pos x1 hwp
   exact ⟨(x1 % ((ws.length:Nat):Int)).toNat,by omega,by omega⟩
  obtain ⟨j,ej,hj⟩:∃ k:Nat,x2 % ((ws.length:Nat):Int)=((k:Nat):Int)∧k < bs.length:=by
   have h1:=Int.emod_nonneg x2 (show ((ws.length:Nat):Int)≠0 by omega)
   have h2:=Int.emod_lt_of_pos x2 hwp
   exact ⟨(x2 % ((ws.length:Nat):Int)).toNat,by omega,by omega⟩
  refine ⟨_,rfl,lx,_,1,.int x1,rfl,rfl,SqL.of hx2,e1,_,rfl,lb,ws,rfl,.inl (SqL.of hb2),_,_,rfl,rfl,hwp,?_⟩
  refine ⟨_,rfl,lx,_,2,.int x2,rfl,rfl,SqL.of hx2,e2,_,rfl,lb,ws,rfl,.inl (SqL.of hb2),_,_,rfl,rfl,hwp,?_⟩
  dsimp only
  rw [ek,ej]
  have hB25:=hBd.len
  let J:Prop→Prop→Prop→St→Hp→Prop:=fun g g2 g5 σ' H'=>Same H H'∧H' lx=some (.lst (xs.map V.int))∧∃ (m':Nat) (lb:Addr) (vs:List V) (cs:List (List Nat)) (x7:Option V),σ'=[some (.ref t),some (.int c),some (.ref lx),some (.int ((m':Nat):Int)),some (.ref lb),some (.int ((k:Nat):Int)),some (.int ((j:Nat):Int)),x7]∧H lb=none∧lb≠lx∧H' lb=some (.lst vs)∧TpAt H' vs cs∧Bd m' cs∧(g5→m'≤25)∧(g2→2≤cs.length)∧(g→g2→cs.length=bs.length)
  have tst:∀ {H':Hp},H' lx=some (.lst (xs.map V.int))→SqL K H' lx (xs.map V.int):=fun h=>SqL.of h
  have up:∀ {H6:Hp} {b:Addr} {xs:List V},H6 b=some (.lst xs)→∀ (o:HO) (d:Addr) (zs:List V),H6 d=some (.tup zs)→L2.upd H6 b o d=some (.tup zs):=fun {H6 b xs} hb6 o d zs hd=>by
   rw [upd_ne (fun z=>by rw [z,hb6] at hd; cases hd)]
   exact hd
  refine seqVia (J True True True) ?_ (fun D' go=>?_)
  rotate_left
  ·refine ⟨_,rfl,lx,_,0,.int x0,rfl,rfl,SqL.of hx2,e0,_,_,rfl,rfl,(by decide:(0:Int) < 8),rfl,_,rfl,?_⟩
   refine ite2 (fun hc=>?_) (fun hc=>go _ _ ⟨s2,hx2,m,lb,ws,bs,_,rfl,hlb0,hbx,hb2,hT2,hBd,fun _=>hm25,fun _=>by omega,fun _ _=>rfl⟩)
   obtain ⟨p,ep,hp⟩:∃ p:Nat,x3 % ((m:Nat):Int)=((p:Nat):Int)∧p < m:=by
    have h0:=hBd.m1
    have h1:=Int.emod_nonneg x3 (show ((m:Nat):Int)≠0 by omega)
    have h2:=Int.emod_lt_of_pos x3 (show (0:Int) < ((m:Nat):Int) by omega)
    exact ⟨(x3 % ((m:Nat):Int)).toNat,by omega,by omega⟩
   refine ⟨_,rfl,lx,_,3,.int x3,rfl,rfl,SqL.of hx2,e3,_,rfl,_,_,rfl,rfl,by have:=hBd.m1; omega,?_⟩
   dsimp only
   rw [ep]
   have gk:ws[k]?=some (ws[k]'(by omega)):=List.getElem?_eq_getElem _
   obtain ⟨a,b,ea,hb,ha⟩:=hT2.get gk
   have hbm:=List.mem_of_getElem? hb
   have hb5:=hBd.five b hbm
   refine ⟨_,rfl,_,rfl,lb,_,_,_,rfl,rfl,SqL.of hb2,atI_nat gk,_,rfl,a,nats b,ea,ha,fun p1 H3 s3 hp3=>?_⟩
   rw [show cutV (nats b) (some 1) none=nats (b.drop 1) from by
    cases b with
    | nil=>rfl
    | cons y b=>rw [show ((1:Int))=((1:Nat):Int) from rfl,cut_from (by rw [nats_len,List.length_cons]; omega)]; rfl] at hp3
   refine ⟨p1,_,rfl,.inr (SqT.of hp3),fun p2 hp2=>?_⟩
   have v2:=same_new (o:=.lst (nats (b.drop 1))) hp2
   refine ⟨_,rfl,by show 1≤sizeLine; decide,fun p3 hp3'=>?_⟩
   have v3:=same_new (o:=.lst [V.int ((p:Nat):Int)]) hp3'
   refine ⟨p2,p3,_,_,rfl,rfl,v3 _ _ upd_same,upd_same,by rw [nats_len,List.length_drop]; exact Nat.le_trans (show b.length - 1 + 1≤6 by omega) (by decide),fun p4 hp4=>?_⟩
   have enat:nats (b.drop 1)++[V.int ((p:Nat):Int)]=((b.drop 1++[p]).map fun x=>((x:Nat):Int)).map V.int:=by rw [← nats_ints,nats_snoc]
   rw [enat]
   have v4:=same_new (o:=.lst (((b.drop 1++[p]).map fun x=>((x:Nat):Int)).map V.int)) hp4
   refine ⟨p4,_,rfl,SqL.of upd_same,by rw [List.length_map,List.length_append,List.length_drop]; show b.length - 1 + 1≤1000; omega,fun p5 L hp5 nd hL=>?_⟩
   have v5:=same_new (o:=LS P w p5 L) hp5
   have hLl:L.length≤5:=by
    have:=List.Nodup.length_le_of_subset nd (l₂:=(b.drop 1++[p]).map fun x=>((x:Nat):Int)) fun x hx=>(hL x).mp hx
    rw [List.length_map,List.length_append,List.length_drop] at this
    have h1:[p].length=1:=rfl
    omega
   refine ⟨p5,L,rfl,upd_same,by omega,fun p6 ns hp6 hperm hsort=>?_⟩
   have v6:=same_new (o:=.lst (ns.map V.int)) hp6
   have hnn:∀ x∈L,∃ y:Nat,y < m∧x=((y:Nat):Int):=fun x hx=>by
    obtain ⟨y,hy,rfl⟩:=List.mem_map.mp ((hL x).mp hx)
    rcases List.mem_append.mp hy with z | z
    ·exact ⟨y,hBd.lt b hbm y (List.mem_of_mem_drop z),rfl⟩
    ·rw [List.mem_singleton.mp z]
     exact ⟨p,hp,rfl⟩
   have eL:L=(L.map Int.toNat).map fun x=>((x:Nat):Int):=by
    rw [List.map_map]
    conv=>lhs; rw [← List.map_id L]
    exact List.map_congr_left fun x hx=>by
     obtain ⟨y,_,rfl⟩:=hnn x hx
     rfl
   rw [eL] at hperm
   obtain ⟨b',eb,hpb,_⟩:=back_nats hperm hsort
   rw [eb] at v6 ⊢
   refine ⟨p6,_,rfl,.inl ⟨SqL.of upd_same,fun p7 hp7=>?_⟩⟩
   have v7:=same_new (o:=.tup (nats b')) hp7
   have s37:=s3.trans (v2.trans (v3.trans (v4.trans (v5.trans (v6.trans v7)))))
   have h7:L2.upd (L2.upd (L2.upd (L2.upd (L2.upd (L2.upd H3 p2 (.lst (nats (b.drop 1)))) p3 (.lst [V.int ((p:Nat):Int)])) p4 (.lst (((b.drop 1++[p]).map fun x=>((x:Nat):Int)).map V.int))) p5 (LS P w p5 L)) p6 (.lst (nats b'))) p7 (.tup (nats b')) p7=some (.tup (nats b')):=upd_same
   generalize L2.upd (L2.upd (L2.upd (L2.upd (L2.upd (L2.upd H3 p2 (.lst (nats (b.drop 1)))) p3 (.lst [V.int ((p:Nat):Int)])) p4 (.lst (((b.drop 1++[p]).map fun x=>((x:Nat):Int)).map V.int))) p5 (LS P w p5 L)) p6 (.lst (nats b'))) p7 (.tup (nats b'))=H8 at s37 h7 ⊢
   have hb8:=s37 _ _ hb2
   refine ⟨_,rfl,_,rfl,lb,_,_,k,rfl,rfl,hb8,?_,?_⟩
   ·unfold ixN
    rw [if_pos (by omega),if_pos (by omega),Int.toNat_natCast]
   refine go _ _ ⟨same_upd (s2.trans s37) hlb0,?_,m,lb,_,bs.set k b',_,rfl,hlb0,hbx,upd_same,((hT2.sm s37).set h7 k).same (fun d zs hd=>up hb8 _ d zs hd),hBd.set ?_ ?_,fun _=>hm25,fun _=>by rw [List.length_set]; omega,fun _ _=>by rw [List.length_set]⟩
   ·rw [upd_ne (fun z=>hbx z.symm)]
    exact s37 _ _ hx2
   ·intro x hx
    obtain ⟨y,hy,e⟩:=List.mem_map.mp (hpb.mem_iff.mp hx)
    obtain ⟨z,hz,rfl⟩:=hnn y hy
    rw [← e]
    exact hz
   ·rw [hpb.length_eq,List.length_map]
    exact hLl
  clear hb2 hT2 hx2 hbx hlb0
  clear s2
  rintro σ H3 ⟨s3,hx3,m',lb,vs,cs,x7,rfl,hlb0,hbx,hb3',hT3,hB3,hm3,h23,hl3⟩
  have hvl:=hT3.len
  refine seqVia (J (x0 % 8≠2) True True) ?_ (fun D' go=>?_)
  rotate_left
  ·refine ⟨_,rfl,lx,_,0,.int x0,rfl,rfl,SqL.of hx3,e0,_,_,rfl,rfl,(by decide:(0:Int) < 8),rfl,_,rfl,?_⟩
   by_cases he:x0 % 8=2
   rotate_left
   ·exact ifF (fun z=>he (by injection z)) (go _ _ ⟨s3,hx3,m',lb,vs,cs,_,rfl,hlb0,hbx,hb3',hT3,hB3,hm3,h23,fun _=>hl3 trivial⟩)
   have hcl:cs.length=bs.length:=hl3 trivial trivial
   refine ifT (by show V.int (x0 % 8)=V.int 2; rw [he]) ?_
   have gk:vs[k]?=some (vs[k]'(by omega)):=List.getElem?_eq_getElem _
   refine ⟨_,rfl,.inl ⟨rfl,_,SqL.of hb3'⟩,_,rfl,lb,vs,_,k,_,rfl,rfl,hb3',by omega,by omega,?_,gk,?_⟩
   ·unfold seqIndex?
    rw [if_neg (show ¬((k:Nat):Int) < 0 by omega),if_pos (by simp; omega),Int.toNat_natCast]
   refine go _ _ ⟨same_upd s3 hlb0,?_,m',lb,_,cs.eraseIdx k,_,rfl,hlb0,hbx,upd_same,(tpErase k hT3).same (fun d zs hd=>up hb3' _ d zs hd),hB3.sub (fun b hb=>List.mem_of_mem_eraseIdx hb) (by rw [List.length_eraseIdx_of_lt (by omega)]; omega),hm3,fun _=>by rw [List.length_eraseIdx_of_lt (by omega)]; omega,fun z=>(z he).elim⟩
   rw [upd_ne (fun z=>hbx z.symm)]
   exact hx3
  clear hb3' hT3 hx3 hbx hlb0 h23 hl3 hB3 hm3 hvl
  clear s3 vs cs x7 lb m'
  rintro σ H3 ⟨s3,hx3,m',lb,vs,cs,x7,rfl,hlb0,hbx,hb3',hT3,hB3,hm3,h23,hl3⟩
  have hvl:=hT3.len
  refine seqVia (J (x0 % 8≠2) True True) ?_ (fun D' go=>?_)
  rotate_left
  ·refine ⟨_,rfl,lx,_,0,.int x0,rfl,rfl,SqL.of hx3,e0,_,_,rfl,rfl,(by decide:(0:Int) < 8),rfl,_,rfl,?_⟩
   by_cases he:x0 % 8=3
   rotate_left
   ·exact ifF (fun z=>he (by injection z)) (go _ _ ⟨s3,hx3,m',lb,vs,cs,_,rfl,hlb0,hbx,hb3',hT3,hB3,hm3,h23,hl3⟩)
   have hcl:cs.length=bs.length:=hl3 (by omega) trivial
   refine ifT (by show V.int (x0 % 8)=V.int 3; rw [he]) ?_
   have gk:vs[k]?=some (vs[k]'(by omega)):=List.getElem?_eq_getElem _
   have gj:vs[j]?=some (vs[j]'(by omega)):=List.getElem?_eq_getElem _
   obtain ⟨ak,bk,eak,hbk,hak⟩:=hT3.get gk
   obtain ⟨aj,bj,eaj,hbj,haj⟩:=hT3.get gj
   rw [eak] at gk
   rw [eaj] at gj
   refine ⟨_,rfl,_,rfl,lb,_,_,_,rfl,rfl,SqL.of hb3',atI_nat gj,_,rfl,_,rfl,lb,_,_,_,rfl,rfl,SqL.of hb3',atI_nat gk,by show 2≤sizeLine; decide,fun pr hpr=>?_⟩
   have v1:=same_new (o:=.tup [.ref aj,.ref ak]) hpr
   have hb4:=v1 _ _ hb3'
   refine ⟨pr,_,rfl,SqT.of upd_same,rfl,_,_,rfl,_,rfl,_,rfl,lb,_,_,k,rfl,rfl,hb4,?_,?_⟩
   ·unfold ixN
    rw [if_pos (by omega),if_pos (by omega),Int.toNat_natCast]
   have hk5:L2.upd H3 pr (.tup [.ref aj,.ref ak]) lb=some (.lst vs):=hb4
   have v5:=v1
   have hT5:=((hT3.sm v1).set (v1 _ _ haj) k)
   have hak5:=v1 _ _ hak
   generalize L2.upd H3 pr (.tup [.ref aj,.ref ak])=H5 at v5 hk5 hT5 hak5 ⊢
   have hT6:=hT5.same (fun d zs hd=>up hk5 (.lst (vs.set k (.ref aj))) d zs hd)
   have hak6:=up hk5 (.lst (vs.set k (.ref aj))) _ _ hak5
   have hb6:L2.upd H5 lb (.lst (vs.set k (.ref aj))) lb=some (.lst (vs.set k (.ref aj))):=upd_same
   have s6:Same H (L2.upd H5 lb (.lst (vs.set k (.ref aj)))):=same_upd (s3.trans v5) hlb0
   have hx6:L2.upd H5 lb (.lst (vs.set k (.ref aj))) lx=some (.lst (xs.map V.int)):=by
    rw [upd_ne (fun z=>hbx z.symm)]
    exact v5 _ _ hx3
   generalize L2.upd H5 lb (.lst (vs.set k (.ref aj)))=H6 at hT6 hak6 hb6 s6 hx6 ⊢
   refine ⟨_,_,rfl,_,rfl,_,rfl,lb,_,_,j,rfl,rfl,hb6,?_,rfl,?_⟩
   ·unfold ixN
    rw [if_pos (by omega),if_pos (by rw [List.length_set]; omega),Int.toNat_natCast]
   have hbjm:=List.mem_of_getElem? hbj
   have hbkm:=List.mem_of_getElem? hbk
   refine go _ _ ⟨same_upd s6 hlb0,?_,m',lb,_,(cs.set k bj).set j bk,_,rfl,hlb0,hbx,upd_same,(hT6.set hak6 j).same (fun d zs hd=>up hb6 _ d zs hd),(hB3.set (hB3.lt bj hbjm) (hB3.five bj hbjm)).set (hB3.lt bk hbkm) (hB3.five bk hbkm),hm3,fun z=>by rw [List.length_set,List.length_set]; exact h23 z,fun y z=>by rw [List.length_set,List.length_set]; exact hl3 y z⟩
   rw [upd_ne (fun z=>hbx z.symm)]
   exact hx6
  clear hb3' hT3 hx3 hbx hlb0 h23 hl3 hB3 hm3 hvl
  clear s3 vs cs x7 lb m'
  rintro σ H3 ⟨s3,hx3,m',lb,vs,cs,x7,rfl,hlb0,hbx,hb3',hT3,hB3,hm3,h23,hl3⟩
  have hvl:=hT3.len
  refine seqVia (J (x0 % 8≠2) (x0 % 8≠4) True) ?_ (fun D' go=>?_)
  rotate_left
  ·refine ⟨_,rfl,lx,_,0,.int x0,rfl,rfl,SqL.of hx3,e0,_,_,rfl,rfl,(by decide:(0:Int) < 8),rfl,_,rfl,?_⟩
   by_cases he:x0 % 8=4
   rotate_left
   ·exact ifF (fun z=>he (by injection z)) (go _ _ ⟨s3,hx3,m',lb,vs,cs,_,rfl,hlb0,hbx,hb3',hT3,hB3,hm3,fun _=>h23 trivial,fun z _=>hl3 z trivial⟩)
   refine ifT (by show V.int (x0 % 8)=V.int 4; rw [he]) ?_
   have hc2:=h23 trivial
   have g0:vs[0]?=some (vs[0]'(by omega)):=List.getElem?_eq_getElem _
   obtain ⟨a0,b0,ea0,hb0,ha0⟩:=hT3.get g0
   rw [ea0] at g0
   refine ⟨_,rfl,_,rfl,lb,_,_,_,rfl,rfl,SqL.of hb3',atI_nat (j:=0) g0,a0,_,rfl,.inr (SqT.of ha0),_,rfl,lb,_,rfl,SqL.of hb3',fun p hp=>?_⟩
   have v1:=same_new (o:=.lst (cutV vs (some (((nats b0).length:Nat):Int)) none)) hp
   obtain ⟨ds,hTd,hds,hdl⟩:=tpCut hT3 (some (((nats b0).length:Nat):Int)) none
   exact go _ _ ⟨s3.trans v1,v1 _ _ hx3,m',p,_,ds,_,rfl,s3.free hp,fun z=>by (rw [z,hx3] at hp; cases hp),upd_same,hTd.sm v1,hB3.sub hds hdl,hm3,fun z=>(z he).elim,fun _ z=>(z he).elim⟩
  clear hb3' hT3 hx3 hbx hlb0 h23 hl3 hB3 hm3 hvl
  clear s3 vs cs x7 lb m'
  rintro σ H3 ⟨s3,hx3,m',lb,vs,cs,x7,rfl,hlb0,hbx,hb3',hT3,hB3,hm3,h23,hl3⟩
  have hvl:=hT3.len
  refine seqVia (J (x0 % 8≠2) (x0 % 8≠4) (x0 % 8≠5)) ?_ (fun D' go=>?_)
  rotate_left
  ·refine ⟨_,rfl,lx,_,0,.int x0,rfl,rfl,SqL.of hx3,e0,_,_,rfl,rfl,(by decide:(0:Int) < 8),rfl,_,rfl,?_⟩
   by_cases he:x0 % 8=5
   rotate_left
   ·exact ifF (fun z=>he (by injection z)) (go _ _ ⟨s3,hx3,m',lb,vs,cs,_,rfl,hlb0,hbx,hb3',hT3,hB3,fun _=>hm3 trivial,h23,hl3⟩)
   refine ifT (by show V.int (x0 % 8)=V.int 5; rw [he]) ?_
   refine ⟨_,rfl,_,_,rfl,rfl,?_⟩
   refine go _ _ ⟨s3,hx3,m' + 1,lb,vs,cs,_,by rw [Int.natCast_add]; rfl,hlb0,hbx,hb3',hT3,⟨fun b hb x hx=>Nat.lt_succ_of_lt (hB3.lt b hb x hx),by omega,?_,hB3.len,hB3.five⟩,fun z=>(z he).elim,h23,hl3⟩
   have:=hm3 trivial
   omega
  clear hb3' hT3 hx3 hbx hlb0 h23 hl3 hB3 hm3 hvl
  clear s3 vs cs x7 lb m'
  rintro σ H3 ⟨s3,hx3,m',lb,vs,cs,x7,rfl,hlb0,hbx,hb3',hT3,hB3,hm3,h23,hl3⟩
  have hvl:=hT3.len
  refine seqVia (fun σ' H'=>Same H H'∧∃ (m':Nat) (lb:Addr) (vs:List V) (cs:List (List Nat)) (x7:Option V),σ'=[some (.ref t),some (.int c),some (.ref lx),some (.int ((m':Nat):Int)),some (.ref lb),some (.int ((k:Nat):Int)),some (.int ((j:Nat):Int)),x7]∧H' lb=some (.lst vs)∧TpAt H' vs cs∧Bd m' cs) ?_ (fun D' go=>?_)
  rotate_left
  ·refine ⟨_,rfl,lx,_,0,.int x0,rfl,rfl,SqL.of hx3,e0,_,_,rfl,rfl,(by decide:(0:Int) < 8),_,_,rfl,rfl,_,rfl,?_⟩
   by_cases he:x0 % 8 > 5
   rotate_left
   ·exact ifF he (go _ _ ⟨s3,m',lb,vs,cs,_,rfl,hb3',hT3,hB3⟩)
   refine ifT he ?_
   have hc2:=h23 (by omega)
   have g0:vs[0]?=some (vs[0]'(by omega)):=List.getElem?_eq_getElem _
   obtain ⟨a0,b0,ea0,hb0,ha0⟩:=hT3.get g0
   rw [ea0] at g0
   have hb05:=hB3.five b0 (List.mem_of_getElem? hb0)
   have hnl:(nats b0).length≤5:=by rw [nats_len]; exact hb05
   have hlt:x0 % 8 < 8:=Int.emod_lt_of_pos x0 (by decide)
   refine ⟨_,rfl,_,rfl,lb,_,_,_,rfl,rfl,SqL.of hb3',atI_nat (j:=0) g0,a0,_,rfl,.inr (SqT.of ha0),_,rfl,lx,_,0,.int x0,rfl,rfl,SqL.of hx3,e0,_,_,rfl,rfl,(by decide:(0:Int) < 8),_,_,rfl,rfl,_,_,rfl,rfl,.inl ⟨by omega,by omega⟩,_,rfl,lb,_,rfl,SqL.of hb3',fun p hp=>?_⟩
   dsimp only
   have v1:=same_new (o:=.lst (cutV vs none (some ((((nats b0).length:Nat):Int) * (x0 % 8 - 6))))) hp
   obtain ⟨ds,hTd,hds,hdl⟩:=tpCut hT3 none (some ((((nats b0).length:Nat):Int) * (x0 % 8 - 6)))
   exact go _ _ ⟨s3.trans v1,m',p,_,ds,_,rfl,upd_same,hTd.sm v1,hB3.sub hds hdl⟩
  clear hb3' hT3 hx3 hbx hlb0 h23 hl3 hB3 hm3 hvl
  clear s3 vs cs x7 lb m'
  rintro σ H3 ⟨s3,m',lb,vs,cs,x7,rfl,hb3',hT3,hB3⟩
  refine ⟨_,rfl,_,rfl,lb,_,rfl,.inl ⟨SqL.of hb3',fun u hu=>⟨by show 2≤sizeLine; decide,fun t' ht'=>?_⟩⟩⟩
  have w1:=same_new (o:=.tup vs) hu
  have w2:=same_new (o:=.tup [.int ((m':Nat):Int),.ref u]) ht'
  exact q t' u m' vs cs _ (s3.trans (w1.trans w2)) upd_same (w2 _ _ upd_same) (hT3.sm (w1.trans w2)) hB3
theorem so_uniq {a b:List Nat} (h:a.Perm b) (ha:a.Pairwise (·≤·)) (hb:b.Pairwise (·≤·)):a=b:=h.eq_of_pairwise (fun x y _ _ h1 h2=>Nat.le_antisymm h1 h2) ha hb
theorem range_so (n:Nat):(List.range n).Pairwise (·≤·):=List.pairwise_lt_range.imp fun h=>Nat.le_of_lt h
theorem isD_blkS {K:PySem.W.Frag} {H:Hp} {a:Addr} {L:List Nat} (h:H a=some (.lst (nats L))):IsD K H (dBlk L) (.ref a):=by
 simp only [dBlk,IsD]
 exact ⟨a,_,rfl,SqL.of h,ints_isD' L⟩
theorem eqv_intsS:∀ L M:List Nat,PyData.eqvAll (L.map fun p=>PyData.int ((p:Nat):Int)) (M.map fun p=>PyData.int ((p:Nat):Int))=decide (L=M)
 | [],[]=>by simp [PyData.eqvAll]
 | [],_::_=>by simp [PyData.eqvAll]
 | _::_,[]=>by simp [PyData.eqvAll]
 | x::L,y::M=>by
  have ih:=eqv_intsS L M
  simp only [List.map_cons,PyData.eqvAll,PyData.eqv,ih]
  by_cases h:x=y
  ·subst h
   simp
  ·have:¬ ((x:Int)=(y:Int)):=by omega
   simp [h,this]
theorem eqv_blkS (L M:List Nat):PyData.eqv (dBlk L) (dBlk M)=decide (L=M):=by
 simp only [dBlk,PyData.eqv]
 exact eqv_intsS L M
theorem part_perm {m:Nat} {bs:List (List Nat)} (h:∀ b∈bs,∀ x∈b,x < m):Part m bs↔bs.flatten.Perm (List.range m):=by
 constructor
 ·intro hp
  rw [List.perm_iff_count]
  intro x
  rw [hp.1.count,List.nodup_range.count]
  by_cases hx:x < m
  ·rw [if_pos (hp.2 x hx),if_pos (List.mem_range.mpr hx)]
  ·rw [if_neg,if_neg (fun z=>hx (List.mem_range.mp z))]
   intro z
   obtain ⟨b,hb,hxb⟩:=List.mem_flatten.mp z
   exact hx (h b hb x hxb)
 ·exact fun hp=>⟨hp.nodup_iff.mpr List.nodup_range,fun p hpm=>hp.mem_iff.mpr (List.mem_range.mpr hpm)⟩
structure Cls (n m:Nat) (bs:List (List Nat)) (k:Nat):Prop where
 sq:n * n=m
 len:bs.length=k * n
 two:2≤k
 part:∀ i,i < k→Part m (prt n bs i)
theorem cls_n {n m k r:Nat} {bs:List (List Nat)} (h:Cls n m bs k) (h1:r * r≤m) (h2:m < (r + 1) * (r + 1)):n=r:=by
 have e:=h.sq
 rcases Nat.lt_trichotomy n r with z | z | z
 ·have:=Nat.mul_le_mul (show n + 1≤r from z) (show n + 1≤r from z)
  have h3:(n + 1) * (n + 1)=n * n + (2 * n + 1):=by rw [Nat.mul_add,Nat.add_mul]; omega
  omega
 ·exact z
 ·have:=Nat.mul_le_mul (show r + 1≤n from z) (show r + 1≤n from z)
  omega
theorem fl_len {bs:List (List Nat)} (h:∀ b∈bs,b.length≤5):bs.flatten.length≤bs.length * 5:=by
 induction bs with
 | nil=>simp
 | cons b bs ih=>
  rw [List.flatten_cons,List.length_append,List.length_cons]
  have:=ih fun c hc=>h c (List.mem_cons_of_mem _ hc)
  have h2:=h b (List.mem_cons_self ..)
  omega
def spClasses:Sp:=fun vs H Q _=>∃ (l:Addr) (m:Nat) (ws:List V) (bs:List (List Nat)),vs=[.int ((m:Nat):Int),.ref l]∧H l=some (.tup ws)∧TpAt H ws bs∧Bd m bs∧
 (∀ n k,Cls n m bs k→∀ (g:Addr) (us:List V) (H':Hp),Same H H'→H' g=some (.lst us)→SqsAt H' us ((List.range k).map (prt n bs))→Q (.ref g) H')∧((∀ n k,¬Cls n m bs k)→∀ H',Same H H'→Q .non H')
theorem scLClasses:FnScope ["_law_many", "_law_blocks", "_law_size", "_law_found", "_law_part", "_law_points", "_law_block"] ["_law_many", "_law_blocks"] (defScope sLClasses):=⟨rfl,rfl,rfl,by decide +kernel,rfl,by decide +kernel,by decide +kernel⟩
theorem ok_classes {f:Addr} {fd:FuncData} (F:Fun K "_law_classes" "_law_classes" sLClasses f fd) (T:TxtB mg):FnOk P w K mg base CX0 1 f fd ["_law_many", "_law_blocks"] spClasses:=by
 refine F.okQ scLClasses (fun vs H Q E h=>?_) (fun cdv A outer s H vs Q E hr h=>?_)
 ·obtain ⟨l,m,ws,bs,rfl,_⟩:=h
  rfl
 ·obtain ⟨l,m,ws,bs,rfl,hl,hT,hBd,q,qn⟩:=h
  refine ⟨_,(qss_cons (qs_set (i:=2) scLClasses.nd rfl (Or.inr rfl) qe_int)
   (qss_cons (qs_while PassesOwn.never (qt_cmpR op_le (qe_op op_mul (qe_op op_add (qv 2) qe_int) (qe_op op_add (qv 2) qe_int)) (qv 0) (nomark _))
    (qss_one (qs_set (i:=2) scLClasses.nd rfl (Or.inr rfl) (qe_op op_add (qv 2) qe_int))))
   (qss_cons (qs_if (QW.pt (qw_or (qt_cmpR op_ne (qe_op op_mul (qv 2) (qv 2)) (qv 0) (nomark _)) (qw_or (qt_cmpR op_ne (qe_op op_mod (qe_callB call_len_seq (by rfl) T.len PySem.boot_len (qac (qv 1) qa_nil)) (qv 2)) qe_int (nomark _)) (qw_or1 (qt_cmpR op_lt (qe_callB call_len_seq (by rfl) T.len PySem.boot_len (qac (qv 1) qa_nil)) (qe_op op_mul qe_int (qv 2)) (nomark _)))))) (qss_one (qs_ret qe_non)) qss_nil)
   (qss_cons (qs_setComp (i:=3) (g:=gName 0) (N:=["_law_k", "_law_blocks", "_law_size"]) (src:=[none,some 1,some 2]) rfl (comp_scope (defScope sLClasses) ["_law_many", "_law_blocks", "_law_size", "_law_found", "_law_part", "_law_points", "_law_block"] rfl rfl (by decide +kernel) rfl) (qi_range3 rfl T.range (qac qe_int (qac (qe_callB call_len_seq (by rfl) T.len PySem.boot_len (qac (qv 1) qa_nil)) (qac (qv 2) qa_nil)))) (fun _ _ _ _ _=>(qg_name (i:=0) (show (["_law_k", "_law_blocks", "_law_size"]:List Str).Nodup by decide +kernel) rfl (Or.inl rfl) (Or.inr rfl))) (fun _ _ _ _ _=>qif_nil) (fun _ _ _ _ _=>(qe_slice (show SlR _ rSlA from sl_tupA) (qv 1) (qo_some (qv 0)) (qo_some (qe_op op_add (qv 0) (qv 2))))) (qg_name (i:=3) scLClasses.nd rfl (Or.inl rfl)))
   (qss_cons (qs_for PassesOwn.never rfl (qi_list (qv 3)) (qg_name (i:=4) scLClasses.nd rfl (Or.inl rfl))
    (qss_cons (qs_set (i:=5) scLClasses.nd rfl (Or.inl rfl) (qe_lst qa_nil))
    (qss_cons (qs_for PassesOwn.never rfl (qi_tup (qv 4)) (qg_name (i:=6) scLClasses.nd rfl (Or.inl rfl))
     (qss_one (qs_expr (qe_bm PySem.F.plainAttrs_list PySem.F.slot_list_extend PySem.F.type_list_extend mt_extendT (qv 5) (qac (qv 6) qa_nil)))))
    (qss_one (qs_if (qt_cmpR (op_neD hr.units) (qe_callB call_sortI (by rfl) T.sor (by decide +kernel) (qac (qv 5) qa_nil)) (qe_callTy (call_list_rng rfl) (by rfl) T.lst (by decide +kernel) (qac (qe_callTy call_rng1 (by rfl) T.range PyProof.Rows.boot_range (qac (qv 0) qa_nil)) qa_nil)) (nomark _)) (qss_one (qs_ret qe_non)) qss_nil)))))
   (qss_one (qs_ret (qv 3)))))))),?_⟩
  have hm1:=hBd.m1
  have hm26:=hBd.m26
  have hb25:=hBd.len
  have hwl:=hT.len
  refine while_w (fun σ H2=>H2=H∧∃ r:Nat,σ=[some (.int ((m:Nat):Int)),some (.ref l),some (.int ((r:Nat):Int)),none,none,none,none]∧1≤r∧r * r≤m)
   (fun σ _=>match σ with | [_,_,some (.int r),_,_,_,_]=>30 - r.toNat | _=>0) ⟨rfl,1,rfl,Nat.le_refl _,hm1⟩ ?_
  rintro mu σ H2 ⟨rfl,r,rfl,hr1,hrm⟩ hmu
  have hr5:r≤5:=by
   refine Classical.byContradiction fun z=>?_
   have:=Nat.mul_le_mul (show 6≤r by omega) (show 6≤r by omega)
   omega
  refine ⟨_,rfl,_,_,rfl,rfl,_,rfl,_,_,rfl,rfl,_,_,rfl,rfl,.inl ⟨by omega,by omega⟩,_,rfl,_,_,rfl,rfl,_,rfl,?_⟩
  have hpp:(((r:Nat):Int) + 1) * (((r:Nat):Int) + 1)=(((r + 1) * (r + 1):Nat):Int):=by rw [Int.natCast_mul]; rfl
  by_cases hnx:(r + 1) * (r + 1)≤m
  ·refine ifT (by show (((r:Nat):Int) + 1) * (((r:Nat):Int) + 1)≤((m:Nat):Int); rw [hpp]; omega) (WTurn.of ?_)
   refine ⟨_,rfl,_,_,rfl,rfl,⟨rfl,r + 1,rfl,by omega,hnx⟩,?_⟩
   rw [hmu]
   show 30 - (((r:Nat):Int) + 1).toNat < 30 - (((r:Nat):Int)).toNat
   omega
  refine ifF (by show ¬(((r:Nat):Int) + 1) * (((r:Nat):Int) + 1)≤((m:Nat):Int); rw [hpp]; omega) ?_
  have hra:r * r≤m:=hrm
  have hrb:m < (r + 1) * (r + 1):=by omega
  clear hmu hpp hnx hrm mu
  refine ⟨_,rfl,_,rfl,_,_,rfl,rfl,.inl ⟨by omega,by omega⟩,_,rfl,rfl,_,rfl,?_⟩
  by_cases hsq:r * r=m
  rotate_left
  ·show if (!decide (V.int (((r:Nat):Int) * ((r:Nat):Int))=V.int ((m:Nat):Int)))=true then _ else _
   rw [decide_eq_false (fun z=>hsq (by injection z with z; rw [← Int.natCast_mul] at z; exact Int.ofNat.inj z))]
   exact iteT (iteT (qn (fun n k hB=>hsq (by rw [← cls_n hB hra hrb]; exact hB.sq)) _ (Same.refl _)))
  refine iteNS (by show V.int (((r:Nat):Int) * ((r:Nat):Int))=V.int ((m:Nat):Int); rw [← Int.natCast_mul,hsq]) ?_
  refine ⟨_,rfl,l,ws,rfl,.inr (SqT.of hl),_,rfl,_,_,rfl,rfl,by omega,rfl,_,rfl,?_⟩
  by_cases hmod:bs.length % r=0
  rotate_left
  ·show if (!decide (V.int (((ws.length:Nat):Int) % ((r:Nat):Int))=V.int 0))=true then _ else _
   rw [decide_eq_false (fun z=>hmod (by injection z with z; rw [← Int.natCast_emod,hwl] at z; exact Int.ofNat.inj z))]
   exact iteT (iteT (qn (fun n k hB=>hmod (by
    have e:=cls_n hB hra hrb
    have h1:=hB.len
    rw [e] at h1
    rw [h1,Nat.mul_mod_left])) _ (Same.refl _)))
  refine iteNS (by show V.int (((ws.length:Nat):Int) % ((r:Nat):Int))=V.int 0; rw [← Int.natCast_emod,hwl,hmod]; rfl) ?_
  refine ⟨_,rfl,l,ws,rfl,.inr (SqT.of hl),_,rfl,_,_,rfl,rfl,.inl ⟨by omega,by omega⟩,_,_,rfl,rfl,_,rfl,?_⟩
  by_cases htwo:bs.length < 2 * r
  ·refine ifT (by show ((ws.length:Nat):Int) < 2 * ((r:Nat):Int); omega) (qn (fun n k hB=>?_) _ (Same.refl _))
   have e:=cls_n hB hra hrb
   have h1:=hB.len
   have h2:=Nat.mul_le_mul_right n hB.two
   rw [e] at h1 h2
   omega
  refine ifF (by show ¬((ws.length:Nat):Int) < 2 * ((r:Nat):Int); omega) ?_
  obtain ⟨k,hk⟩:∃ k,bs.length=k * r:=⟨bs.length / r,by
   have:=Nat.div_add_mod bs.length r
   rw [hmod,Nat.add_zero,Nat.mul_comm] at this
   exact this.symm⟩
  have hk2:2≤k:=by
   refine Classical.byContradiction fun z=>htwo ?_
   rw [hk]
   exact (Nat.mul_lt_mul_right (by omega)).mpr (by omega)
  have hk25:k≤25:=by
   have:=Nat.mul_le_mul_left k hr1
   omega
  have hil:∀ i,i < k→i * r + r≤bs.length:=fun i hi=>by
   rw [hk]
   have:(i + 1) * r≤k * r:=Nat.mul_le_mul_right r hi
   rwa [Nat.succ_mul] at this
  have cN:∀ {n k'},Cls n m bs k'→n=r∧k'=k:=fun {n k'} hC=>by
   have e:=cls_n hC hra hrb
   refine ⟨e,?_⟩
   subst e
   have:=hC.len
   rw [hk] at this
   exact (Nat.eq_of_mul_eq_mul_right (by omega) this).symm
  obtain ⟨sm,rs⟩:=rng_q (q:=k) hr1 (by omega) (by omega)
  refine ⟨_,rfl,l,ws,rfl,.inr (SqT.of hl),_,rfl,0,((k * r:Nat):Int),((r:Nat):Int),k,by rw [hwl,hk],by omega,by omega,sm,rs,?_⟩
  refine comp_its (lo:=0) (c:=((r:Nat):Int)) (n:=k) (fun i ys H3=>Same H2 H3∧SqsAt H3 ys ((List.range i).map (prt r bs))) ⟨Same.refl _,trivial⟩ ?_ ?_
  ·rintro i ys H3 N hi ⟨s3,hS⟩ nx
   rw [Int.zero_add,← Int.natCast_mul]
   refine ⟨Weak.set (by intro v z; cases z),⟨_,rfl,_,rfl,_,rfl,_,rfl,_,rfl,_,_,rfl,rfl,_,rfl,l,ws,rfl,s3 _ _ hl,fun p H4 s4 hp4=>?_⟩⟩
   skip
   rw [show ((i * r:Nat):Int) + ((r:Nat):Int)=((i * r + r:Nat):Int) by omega,cut_prt (by rw [hwl]; exact hil i hi)] at hp4
   refine ⟨?_,nx _ _ ⟨s3.trans s4,?_⟩⟩
   ·rw [hS.len,List.length_map,List.length_range]
    exact Nat.lt_of_lt_of_le (show i < 41 by omega) (by decide)
   ·rw [List.range_succ,List.map_append]
    refine (hS.sm s4).snoc ⟨prt r ws i,hp4,?_⟩
    unfold prt
    exact (tp_drop _ (hT.sm (s3.trans s4))).take _
  rintro ys H3 ⟨s3,hS3⟩
  have hyl:ys.length=k:=by rw [hS3.len,List.length_map,List.length_range]
  refine ⟨Nat.le_trans (show ys.length≤40 by omega) (by decide),fun c hc=>?_⟩
  have w1:=same_new (o:=.lst ys) hc
  have hc4:L2.upd H3 c (.lst ys) c=some (.lst ys):=upd_same
  have hS4:=hS3.sm w1
  have s4:Same H2 (L2.upd H3 c (.lst ys)):=s3.trans w1
  dsimp only [gName]
  generalize L2.upd H3 c (.lst ys)=H4 at hc4 hS4 s4 ⊢
  clear w1 hc hS3 s3
  refine ⟨_,rfl,c,rfl,⟨_,SqL.of hc4⟩,for_list (K:=K) (xs:=ys) (fun i σ H5=>Same H4 H5∧(∃ x4 x5 x6:Option V,σ=[some (.int ((m:Nat):Int)),some (.ref l),some (.int ((r:Nat):Int)),some (.ref c),x4,x5,x6])∧∀ j,j < i→Part m (prt r bs j)) ⟨Same.refl _,⟨none,none,none,rfl⟩,nofun⟩ (fun i σ H5 _ ⟨s5,_⟩=>SqL.of (s5 _ _ hc4)) ?_ ?_⟩
  ·rintro i v σ H5 hi ⟨s5,⟨x4,x5,x6,rfl⟩,hP⟩
   have hik:i < k:=by
    have:=(List.getElem?_eq_some_iff.mp hi).1
    omega
   obtain ⟨a,bp,rfl,hbp,vs,hav,hTv⟩:=(hS4.sm s5).get hi
   rw [List.getElem?_map,List.getElem?_range hik] at hbp
   cases hbp
   have hpb:∀ b∈prt r bs i,b∈bs:=fun b hb=>List.mem_of_mem_drop (List.mem_of_mem_take hb)
   have hpl:=prt_len (hil i hik)
   have hfl:(prt r bs i).flatten.length≤25:=by
    have:=fl_len fun b hb=>hBd.five b (hpb b hb)
    rw [hpl] at this
    omega
   refine ⟨by show 0≤sizeLine; decide,fun pt hpt=>?_⟩
   have w3:=same_new (o:=.lst []) hpt
   have hpt6:L2.upd H5 pt (.lst []) pt=some (.lst (nats ((prt r bs i).take 0).flatten)):=upd_same
   have hpt4:H4 pt=none:=s5.free hpt
   have hav6:=w3 _ _ hav
   have s6:=s5.trans w3
   have hTv6:=hTv.sm w3
   generalize L2.upd H5 pt (.lst [])=H6 at hpt6 hav6 s6 hTv6 ⊢
   have hap:a≠pt:=fun z=>by rw [z,hpt] at hav; cases hav
   dsimp only
   refine seqVia (fun σ' H'=>Same H4 H'∧H' pt=some (.lst (nats (prt r bs i).flatten))∧∃ x6,σ'=[some (.int ((m:Nat):Int)),some (.ref l),some (.int ((r:Nat):Int)),some (.ref c),some (.ref a),some (.ref pt),x6]) ?_ (fun D' go=>?_)
   rotate_left
   ·refine ⟨_,rfl,a,rfl,⟨_,SqT.of hav6⟩,for_tup (K:=K) (a:=a) (xs:=vs) (fun j σ H7=>Same H4 H7∧H7 a=some (.tup vs)∧TpAt H7 vs (prt r bs i)∧H7 pt=some (.lst (nats ((prt r bs i).take j).flatten))∧∃ x6,σ=[some (.int ((m:Nat):Int)),some (.ref l),some (.int ((r:Nat):Int)),some (.ref c),some (.ref a),some (.ref pt),x6]) ⟨s6,hav6,hTv6,hpt6,_,rfl⟩ (fun j σ H7 _ ⟨_,h7,_⟩=>SqT.of h7) ?_ ?_⟩
    ·rintro j v σ H7 hj ⟨s7,hav7,hTv7,hpt7,y6,rfl⟩
     obtain ⟨d,b,rfl,hb,hd⟩:=hTv7.get hj
     have up:∀ (o:HO) (d:Addr) (zs:List V),H7 d=some (.tup zs)→L2.upd H7 pt o d=some (.tup zs):=fun o d zs hd=>by
      rw [upd_ne (fun z=>by rw [z,hpt7] at hd; cases hd)]
      exact hd
     have hfj:((prt r bs i).take j).flatten.length≤25:=by
      have:=fl_len (bs:=(prt r bs i).take j) fun b hb=>hBd.five b (hpb b (List.mem_of_mem_take hb))
      rw [List.length_take,hpl] at this
      omega
     have hb5:=hBd.five b (hpb b (List.mem_of_getElem? hb))
     refine ⟨_,rfl,.inl ⟨rfl,_,SqL.of hpt7⟩,_,rfl,pt,d,_,_,rfl,rfl,hpt7,hd,by rw [nats_len,nats_len]; exact Nat.le_trans (show _≤30 by omega) (by decide),same_upd s7 hpt4,up _ _ _ hav7,hTv7.same (fun d zs hd=>up _ d zs hd),?_,_,rfl⟩
     rw [upd_same,take_snoc hb,List.flatten_append]
     unfold nats
     simp
    ·rintro σ H7 ⟨s7,hav7,hTv7,hpt7,y6,rfl⟩
     rw [hTv7.len,List.take_length] at hpt7
     exact go _ _ ⟨s7,hpt7,_,rfl⟩
   rintro σ' H7 ⟨s7,hpt7,y6,rfl⟩
   refine ⟨_,rfl,pt,(prt r bs i).flatten.map fun p=>((p:Nat):Int),rfl,SqL.of (by rw [← nats_ints]; exact hpt7),by rw [List.length_map]; omega,fun l4 ns2 hl4 hp4 hs4=>?_⟩
   obtain ⟨b2,eb2,hp5,hs5⟩:=back_nats hp4 hs4
   rw [eb2]
   have w14:=same_new (o:=.lst (nats b2)) hl4
   refine ⟨_,rfl,_,rfl,fun rg2 hrg2=>⟨rg2,m,rfl,upd_same,by omega,fun ev2 hev2=>?_⟩⟩
   have w15:=same_new (o:=.rng 0 ((m:Nat):Int)) hrg2
   have w16:=same_new (o:=.lst (nats (List.range m))) hev2
   have w146:=s7.trans (w14.trans (w15.trans w16))
   refine ⟨dBlk b2,dBlk (List.range m),isD_blkS ((w15.trans w16) _ _ upd_same),isD_blkS upd_same,shaped_blk _,shaped_blk _,_,rfl,?_⟩
   show if (!PyData.eqv (dBlk b2) (dBlk (List.range m)))=true then _ else _
   rw [eqv_blkS]
   have hpq:=part_perm fun b hb=>hBd.lt b (hpb b hb)
   by_cases hpart:Part m (prt r bs i)
   ·have e2:=so_uniq (hp5.trans (hpq.mp hpart)) hs5 (range_so m)
    rw [decide_eq_true e2]
    refine iteF ⟨w146,⟨_,_,_,rfl⟩,fun j hj=>?_⟩
    by_cases hji:j < i
    ·exact hP j hji
    ·rw [show j=i by omega]
     exact hpart
   ·rw [decide_eq_false (fun e=>hpart (hpq.mpr (by rw [← e]; exact hp5.symm)))]
    refine iteT (qn (fun n k' hC=>hpart ?_) _ (s4.trans w146))
    obtain ⟨rfl,rfl⟩:=cN hC
    exact hC.part i hik
  ·rintro σ H5 ⟨s5,⟨x4,x5,x6,rfl⟩,hP⟩
   rw [hyl] at hP
   exact ⟨_,rfl,q r k ⟨hsq,hk,hk2,hP⟩ c ys _ (s4.trans s5) (s5 _ _ hc4) (hS4.sm s5)⟩
def One (a b:List Nat):Prop:=∃ p,(p∈a∧p∈b)∧∀ q,q∈a→q∈b→q=p
theorem one_len {a b:List Nat} {L:List Int} (nd:L.Nodup) (hL:∀ k,k∈L↔((a.map fun p=>((p:Nat):Int)).any (· == k))=true∧((b.map fun p=>((p:Nat):Int)).any (· == k))=true):L.length=1↔One a b:=by
 have mem:∀ (c:List Nat) (k:Int),((c.map fun p=>((p:Nat):Int)).any (· == k))=true↔∃ p∈c,((p:Nat):Int)=k:=fun c k=>by
  rw [List.any_eq_true]
  constructor
  ·rintro ⟨x,hx,e⟩
   obtain ⟨p,hp,rfl⟩:=List.mem_map.mp hx
   exact ⟨p,hp,by simpa using e⟩
  ·rintro ⟨p,hp,e⟩
   exact ⟨_,List.mem_map.mpr ⟨p,hp,rfl⟩,by simpa using e⟩
 have key:∀ k,k∈L↔∃ p,p∈a∧p∈b∧((p:Nat):Int)=k:=fun k=>by
  rw [hL,mem,mem]
  constructor
  ·rintro ⟨⟨p,hp,e⟩,q,hq,e'⟩
   have:p=q:=by omega
   subst this
   exact ⟨p,hp,hq,e⟩
  ·rintro ⟨p,h1,h2,e⟩
   exact ⟨⟨p,h1,e⟩,p,h2,e⟩
 constructor
 ·intro h
  match L,h,key with
  | [x],_,key=>
   obtain ⟨p,h1,h2,e⟩:=(key x).mp (List.mem_singleton.mpr rfl)
   refine ⟨p,⟨h1,h2⟩,fun q hq hq'=>?_⟩
   have:=List.mem_singleton.mp ((key ((q:Nat):Int)).mpr ⟨q,hq,hq',rfl⟩)
   omega
 ·rintro ⟨p,⟨h1,h2⟩,hu⟩
  have hp:=(key ((p:Nat):Int)).mpr ⟨p,h1,h2,rfl⟩
  have hle:L.length≤1:=by
   have:=List.Nodup.length_le_of_subset nd (l₂:=[((p:Nat):Int)]) fun x hx=>by
    obtain ⟨q,hq1,hq2,e⟩:=(key x).mp hx
    rw [List.mem_singleton,← e,hu q hq1 hq2]
   exact this
  have:=List.length_pos_of_mem hp
  omega
theorem kap_onto {n m:Nat} {A B:List (List Nat)} (hm:n * n=m) (hA:Part m A) (hB:Part m B) (la:A.length=n) (lb:B.length=n) (hI:Inj m A B) {i j:Nat} (hi:i < n) (hj:j < n):∃ p,p < m∧nmL A p=i∧nmL B p=j:=by
 have hc:i * n + j < m:=by
  have:=row_le hi
  omega
 obtain ⟨p,hp,e⟩:=inj_onto (fun x hx=>kap_lt hm hA hB la lb hx) (fun x y hx hy e=>kap_inj hB lb hI hx hy e) hc
 have h1:=div_of (a:=nmL A p) (show nmL B p < n by have:=nm_lt hB hp; omega)
 have h2:=div_of (a:=i) hj
 unfold kap at e
 rw [e] at h1
 exact ⟨p,hp,h1.1.symm.trans h2.1,h1.2.symm.trans h2.2⟩
theorem inj_one {n m:Nat} {A B:List (List Nat)} (hm:n * n=m) (hA:Part m A) (hB:Part m B) (la:A.length=n) (lb:B.length=n) (ltA:∀ b∈A,∀ x∈b,x < m):Inj m A B↔∀ a∈A,∀ b∈B,One a b:=by
 constructor
 ·intro hI a ha b hb
  obtain ⟨i,hi,ei⟩:=List.getElem_of_mem ha
  obtain ⟨j,hj,ej⟩:=List.getElem_of_mem hb
  obtain ⟨p,hp,h1,h2⟩:=kap_onto hm hA hB la lb hI (show i < n by omega) (show j < n by omega)
  have ga:A[i]?=some a:=by rw [List.getElem?_eq_getElem hi,ei]
  have gb:B[j]?=some b:=by rw [List.getElem?_eq_getElem hj,ej]
  obtain ⟨a',ga',hpa⟩:=nm_mem hA hp
  obtain ⟨b',gb',hpb⟩:=nm_mem hB hp
  rw [h1,ga] at ga'
  rw [h2,gb] at gb'
  cases ga'
  cases gb'
  refine ⟨p,⟨hpa,hpb⟩,fun q hqa hqb=>?_⟩
  have hq:=ltA a ha q hqa
  exact hI q p hq hp ((nm_at hA ga hqa hq).trans h1.symm) ((nm_at hB gb hqb hq).trans h2.symm)
 ·intro h p q hp hq e1 e2
  obtain ⟨a,ga,hpa⟩:=nm_mem hA hp
  obtain ⟨a',ga',hqa⟩:=nm_mem hA hq
  obtain ⟨b,gb,hpb⟩:=nm_mem hB hp
  obtain ⟨b',gb',hqb⟩:=nm_mem hB hq
  rw [← e1,ga] at ga'
  rw [← e2,gb] at gb'
  cases ga'
  cases gb'
  obtain ⟨r,_,hu⟩:=h a (List.mem_of_getElem? ga) b (List.mem_of_getElem? gb)
  rw [hu p hpa hpb,hu q hqa hqb]
theorem prt_map {n m i:Nat} {F:Nat→Nat} (h:i * n + n≤m):prt n ((List.range m).map F) i=(List.range n).map fun j=>F (i * n + j):=by
 unfold prt
 apply List.ext_getElem
 ·rw [List.length_take,List.length_drop,List.length_map,List.length_range,List.length_map,List.length_range]
  omega
 intro j h1 h2
 simp
theorem first_one {n m i j:Nat} {A B:List (List Nat)} {a b:List Nat} (hm:n * n=m) (hA:Part m A) (hB:Part m B) (la:A.length=n) (lb:B.length=n) (ltA:∀ b∈A,∀ x∈b,x < m) (hI:Inj m A B) (ga:A[i]?=some a) (gb:B[j]?=some b):(a.filter fun p=>decide (p∈b))[0]?=some (ptf n m A B (i * n + j)):=by
 have hi:=(List.getElem?_eq_some_iff.mp ga).1
 have hj:=(List.getElem?_eq_some_iff.mp gb).1
 obtain ⟨p,hp,h1,h2⟩:=kap_onto hm hA hB la lb hI (show i < n by omega) (show j < n by omega)
 obtain ⟨a',ga',hpa⟩:=nm_mem hA hp
 obtain ⟨b',gb',hpb⟩:=nm_mem hB hp
 rw [h1,ga] at ga'
 rw [h2,gb] at gb'
 cases ga'
 cases gb'
 have e:ptf n m A B (i * n + j)=p:=by
  rw [← ptf_kap hB lb hI hp]
  unfold kap
  rw [h1,h2]
 have hmem:p∈a.filter fun p=>decide (p∈b):=List.mem_filter.mpr ⟨hpa,decide_eq_true hpb⟩
 cases hf:a.filter fun p=>decide (p∈b) with
 | nil=>rw [hf] at hmem; cases hmem
 | cons q r=>
  have hq:q∈a.filter fun p=>decide (p∈b):=by rw [hf]; exact List.mem_cons_self ..
  obtain ⟨hqa,hqb⟩:=List.mem_filter.mp hq
  have hqm:=ltA a (List.mem_of_getElem? ga) q hqa
  have:q=p:=hI q p hqm hp ((nm_at hA ga hqa hqm).trans h1.symm) ((nm_at hB gb (of_decide_eq_true hqb) hqm).trans h2.symm)
  rw [e,this]
  rfl
theorem back_cls {n m k:Nat} {bs:List (List Nat)} (h:Back n m bs k):Cls n m bs k:=⟨h.sq,h.len,h.two,h.part⟩
theorem cls_un {n n' m k k':Nat} {bs:List (List Nat)} (hm:1≤m) (h:Cls n m bs k) (h':Cls n' m bs k'):n=n'∧k=k':=by
 have e1:=h.sq
 have e2:=h'.sq
 have hn:n=n':=by
  rcases Nat.lt_trichotomy n n' with z | z | z
  ·have:=Nat.mul_self_lt_mul_self z
   omega
  ·exact z
  ·have:=Nat.mul_self_lt_mul_self z
   omega
 refine ⟨hn,?_⟩
 subst hn
 have l1:=h.len
 have l2:=h'.len
 rw [l1] at l2
 rcases Nat.eq_zero_or_pos n with z | z
 ·exfalso
  subst z
  omega
 ·exact Nat.eq_of_mul_eq_mul_right z l2
def rowV (n m:Nat) (bs:List (List Nat)) (q i:Nat):List Nat:=(List.range n).map fun j=>nmL (prt n bs q) (ptf n m (prt n bs 0) (prt n bs 1) (i * n + j))
theorem sqB_rows {n m q:Nat} {bs:List (List Nat)} (hm:n * n=m):sqB n m bs q=(List.range n).map (rowV n m bs q):=by
 unfold sqB rowV
 refine List.map_congr_left fun i hi=>?_
 rw [prt_map (by rw [← hm]; exact row_le (List.mem_range.mp hi))]
theorem mt_indexK {X:Cx} {K:PySem.W.Frag} (hK:X.K=K) (hu:X.A.units + 80 < cLine):MtM X "list.index" (rIndexD K):=by
 subst hK
 exact mt_indexD hu
theorem bls_isDs {K:PySem.W.Frag} {H:Hp}:∀ bs:List Bool,IsDs K H (bs.map PyData.bool) (bs.map V.bl)
 | []=>by simp [IsDs]
 | b::bs=>by
  simp only [List.map_cons,IsDs]
  exact ⟨_,_,rfl,by simp [IsD],bls_isDs bs⟩
theorem lay_bls:∀ bs:List Bool,PyData.canLayAll0 (bs.map PyData.bool)=true
 | []=>by simp [PyData.canLayAll0]
 | b::bs=>by simp [PyData.canLayAll0,PyData.canLay0,lay_bls bs]
def spDueN:Sp:=fun vs H Q _=>∃ (t l:Addr) (m:Nat) (ws:List V) (bs:List (List Nat)),vs=[.ref t]∧H t=some (.tup [.int ((m:Nat):Int),.ref l])∧H l=some (.tup ws)∧TpAt H ws bs∧Bd m bs∧∀ (v:V) (H':Hp),Same H H'→DueAt H' v m bs→Q v H'
theorem scDue:FnScope ["_law_net_here", "_law_parts", "_law_i", "_law_j", "_law_one", "_law_found", "_law_part", "_law_rows", "_law_cells"] ["_law_net_here"] (defScope sDue):=⟨rfl,rfl,rfl,by decide +kernel,rfl,by decide +kernel,by decide +kernel⟩
theorem ok_dueN {f:Addr} {fd:FuncData} (F:Fun K "_law_due" "_law_due" sDue f fd) (T:TxtB mg) (pLClasses:Pm P w K mg base CX0 1 "_law_classes" ["_law_many", "_law_blocks"] spClasses):FnOk P w K mg base CX0 2 f fd ["_law_net_here"] spDueN:=by
 refine F.okQ scDue (fun vs H Q E h=>?_) (fun cdv A outer s H vs Q E hr1 h=>?_)
 ·obtain ⟨t,l,m,ws,bs,rfl,_⟩:=h
  rfl
 ·obtain ⟨t,l,m,ws,bs,rfl,ht,hl,hT,hBd,q⟩:=h
  have hu:A.units + 3 + 80 < cLine:=by
   have h0:A.units + 3 + 16 * 1 + 200 < cLine:=hr1.un
   omega
  refine ⟨_,(qss_cons (qs_set (i:=1) scDue.nd rfl (Or.inl rfl) (qe_callP pLClasses hr1 rfl pass0 (qac (qe_ix ix_tup (qv 0) qe_int (fun _ _=>rfl)) (qac (qe_ix ix_tup (qv 0) qe_int (fun _ _=>rfl)) qa_nil))))
   (qss_cons (qs_if (qt_cmpR op_isN (qv 1) qe_non (nomark _)) (qss_one (qs_ret qe_non)) qss_nil)
   (qss_cons (qs_for PassesOwn.never rfl (qi_range1 rfl T.range (qac (qe_callB call_len_seq (by rfl) T.len PySem.boot_len (qac (qv 1) qa_nil)) qa_nil)) (qg_name (i:=2) scDue.nd rfl (Or.inl rfl))
    (qss_one (qs_for PassesOwn.never rfl (qi_range1 rfl T.range (qac (qv 2) qa_nil)) (qg_name (i:=3) scDue.nd rfl (Or.inl rfl))
     (qss_one (qs_for PassesOwn.never rfl (qi_tup (qe_ix ix_list (qv 1) (qv 2) (fun _ _=>rfl))) (qg_name (i:=4) scDue.nd rfl (Or.inr rfl))
      (qss_one (qs_if (qt_val (qe_callB (call_any rfl) (by rfl) T.any (by decide +kernel) (qac (qe_comp (g:=gName 0) (N:=["_law_other", "_law_one"]) (src:=[none,some 4]) rfl (comp_scope (defScope sDue) ["_law_net_here", "_law_parts", "_law_i", "_law_j", "_law_one", "_law_found", "_law_part", "_law_rows", "_law_cells"] rfl rfl (by decide +kernel) rfl) (qi_tup (qe_ix ix_list (qv 1) (qv 3) (fun _ _=>rfl))) (fun _ _ _ _ _=>(qg_name (i:=0) (show (["_law_other", "_law_one"]:List Str).Nodup by decide +kernel) rfl (Or.inl rfl) (Or.inr rfl))) (fun _ _ _ _ _=>qif_nil) (fun _ _ _ _ _=>(qe_cmpR op_ne (qe_callB call_len_setI (by rfl) T.len PySem.boot_len (qac (qe_op op_andS (qe_callTy (show CallR _ _ (rSetT K) from call_setT rfl) (by rfl) T.set (by decide +kernel) (qac (qv 1) qa_nil)) (qe_callTy (show CallR _ _ (rSetT K) from call_setT rfl) (by rfl) T.set (by decide +kernel) (qac (qv 0) qa_nil))) qa_nil)) qe_int (nomark _)))) qa_nil))) (qss_one (qs_ret qe_non)) qss_nil)))))))
   (qss_cons (qs_set (i:=5) scDue.nd rfl (Or.inl rfl) (qe_lst qa_nil))
   (qss_cons (qs_for PassesOwn.never rfl (qi_list (qe_slice sl_list (qv 1) (qo_some qe_int) qo_none)) (qg_name (i:=6) scDue.nd rfl (Or.inr rfl))
    (qss_cons (qs_set (i:=7) scDue.nd rfl (Or.inl rfl) (qe_lst qa_nil))
    (qss_cons (qs_for PassesOwn.never rfl (qi_tup (qe_ix ix_list (qv 1) qe_int (fun _ _=>rfl))) (qg_name (i:=4) scDue.nd rfl (Or.inr rfl))
     (qss_cons (qs_setComp (i:=8) (g:=gName 0) (N:=["_law_other", "_law_one"]) (src:=[none,some 4]) rfl (comp_scope (defScope sDue) ["_law_net_here", "_law_parts", "_law_i", "_law_j", "_law_one", "_law_found", "_law_part", "_law_rows", "_law_cells"] rfl rfl (by decide +kernel) rfl) (qi_tup (qe_ix ix_list (qv 1) qe_int (fun _ _=>rfl))) (fun _ _ _ _ _=>(qg_name (i:=0) (show (["_law_other", "_law_one"]:List Str).Nodup by decide +kernel) rfl (Or.inr rfl) (Or.inl rfl))) (fun _ _ _ _ _=>qif_nil) (fun _ _ _ _ _=>(qe_ix (show IxR _ (rIxL K) from ix_list) (qe_comp (g:=gName 0) (N:=["_law_point", "_law_other"]) (src:=[none,some 0]) rfl (comp_scopeX ["_law_other", "_law_one"] rfl rfl rfl) (show QI _ _ _ (iTup K _) from qi_tup (qv 1)) (fun _ _ _ _ _=>(qg_name (i:=0) (show (["_law_point", "_law_other"]:List Str).Nodup by decide +kernel) rfl (Or.inl rfl) (Or.inr rfl))) (fun _ _ _ _ _=>(qif_one (qt_cmpR (show OpR _ _ (rIn K false) from op_in_seq) (qv 0) (qv 1) rfl))) (fun _ _ _ _ _=>(qv 0))) qe_int (fun _ _=>rfl))) (qg_name (i:=8) scDue.nd rfl (Or.inl rfl)))
     (qss_one (qs_expr (qe_bm PySem.F.plainAttrs_list PySem.F.slot_list_append PySem.F.type_list_append mt_append (qv 7) (qac (qe_callTy call_tuple_of (by rfl) T.tup (by decide +kernel) (qac (qe_comp (g:=gName 0) (N:=["_law_point", "_law_part"]) (src:=[none,some 6]) rfl (comp_scope (defScope sDue) ["_law_net_here", "_law_parts", "_law_i", "_law_j", "_law_one", "_law_found", "_law_part", "_law_rows", "_law_cells"] rfl rfl (by decide +kernel) rfl) (qi_list (qv 8)) (fun _ _ _ _ _=>(qg_name (i:=0) (show (["_law_point", "_law_part"]:List Str).Nodup by decide +kernel) rfl (Or.inr rfl) (Or.inl rfl))) (fun _ _ _ _ _=>qif_nil) (fun _ _ _ _ _=>(show QE _ _ (tBM K "list" (rIndexD K) _ _) from qe_bm PySem.F.plainAttrs_list PySem.F.slot_list_index PySem.F.type_list_index (mt_indexK (K:=K) rfl hu) (qe_comp (g:=gName 0) (N:=["_law_block", "_law_point"]) (src:=[none,some 0]) rfl (comp_scopeX ["_law_point", "_law_part"] rfl rfl rfl) (show QI _ _ _ (iTup K _) from qi_tup (qv 1)) (fun _ _ _ _ _=>(qg_name (i:=0) (show (["_law_block", "_law_point"]:List Str).Nodup by decide +kernel) rfl (Or.inl rfl) (Or.inr rfl))) (fun _ _ _ _ _=>qif_nil) (fun _ _ _ _ _=>(qe_cmpR (show OpR _ _ (rIn K false) from op_in_seq) (qv 1) (qv 0) rfl))) (qac qe_bl qa_nil)))) qa_nil)) qa_nil))))))
    (qss_one (qs_expr (qe_bm PySem.F.plainAttrs_list PySem.F.slot_list_append PySem.F.type_list_append mt_append (qv 5) (qac (qe_callTy call_tuple_of (by rfl) T.tup (by decide +kernel) (qac (qv 7) qa_nil)) qa_nil)))))))
   (qss_one (qs_ret (qv 5)))))))),?_⟩
  have hm1:=hBd.m1
  have hm26:=hBd.m26
  have hb25:=hBd.len
  refine ⟨_,rfl,t,_,0,.int ((m:Nat):Int),rfl,rfl,SqT.of ht,rfl,_,rfl,t,_,1,.ref l,rfl,rfl,SqT.of ht,rfl,l,m,ws,bs,rfl,hl,hT,hBd,fun n k hC g us H1 s1 hg hS=>?_,fun hn H1 s1=>?_⟩
  rotate_left
  ·exact ⟨_,rfl,rfl,_,rfl,ifT rfl (q .non _ s1 (.inl ⟨rfl,fun n k hB=>hn n k (back_cls hB)⟩))⟩
  refine ⟨_,rfl,rfl,_,rfl,ifF (fun z=>by cases z) ?_⟩
  have hsq:=hC.sq
  have hk2:=hC.two
  have hul:us.length=k:=by rw [hS.len,List.length_map,List.length_range]
  have hn1:1≤n:=by
   rcases Nat.eq_zero_or_pos n with z | z
   ·subst z
    omega
   ·exact z
  have hn5:n≤5:=by
   refine Classical.byContradiction fun z=>?_
   have:=Nat.mul_le_mul (show 6≤n by omega) (show 6≤n by omega)
   omega
  have hk25:k≤25:=by
   have h1:=hC.len
   have:=Nat.mul_le_mul_left k hn1
   omega
  have hil:∀ i,i < k→i * n + n≤bs.length:=fun i hi=>by
   rw [hC.len]
   have:(i + 1) * n≤k * n:=Nat.mul_le_mul_right n hi
   rwa [Nat.succ_mul] at this
  have hpl:∀ i,i < k→(prt n bs i).length=n:=fun i hi=>prt_len (hil i hi)
  have hpb:∀ i,∀ b∈prt n bs i,b∈bs:=fun i b hb=>List.mem_of_mem_drop (List.mem_of_mem_take hb)
  have hplt:∀ i,∀ b∈prt n bs i,∀ x∈b,x < m:=fun i b hb=>hBd.lt b (hpb i b hb)
  have hp5:∀ i,∀ b∈prt n bs i,b.length≤5:=fun i b hb=>hBd.five b (hpb i b hb)
  have gp:∀ {H2:Hp},Same H1 H2→∀ i,i < k→∃ a vs,us[i]?=some (.ref a)∧H2 a=some (.tup vs)∧TpAt H2 vs (prt n bs i):=fun {H2} s2 i hi=>by
   have g0:us[i]?=some (us[i]'(by omega)):=List.getElem?_eq_getElem _
   obtain ⟨a,rs,e,hr,vs,ha,hv⟩:=(hS.sm s2).get g0
   rw [List.getElem?_map,List.getElem?_range hi] at hr
   cases hr
   exact ⟨a,vs,by rw [g0,e],ha,hv⟩
  have cB:∀ {n' k'},Back n' m bs k'→n'=n∧k'=k:=fun hB=>cls_un hm1 (back_cls hB) hC
  have no:∀ i j,j < i→i < k→(¬∀ x∈prt n bs i,∀ y∈prt n bs j,One x y)→∀ n' k',¬Back n' m bs k':=fun i j hji hik hx n' k' hB=>by
   obtain ⟨rfl,rfl⟩:=cB hB
   exact hx ((inj_one hsq (hB.part i hik) (hB.part j (by omega)) (hpl i hik) (hpl j (by omega)) (hplt i)).mp (hB.inj i j hji hik))
  refine ⟨_,rfl,g,us,rfl,.inl (SqL.of hg),((us.length:Nat):Int),rfl,by omega,by omega,?_⟩
  rw [Int.toNat_natCast,hul]
  refine for_range (lo:=0) (n:=k) (fun i σ H2=>Same H1 H2∧(∃ x2 x3 x4:Option V,σ=[some (.ref t),some (.ref g),x2,x3,x4,none,none,none,none])∧∀ a b,b < a→a < i→∀ x∈prt n bs a,∀ y∈prt n bs b,One x y) ⟨Same.refl _,⟨none,none,none,rfl⟩,fun a b _ h=>absurd h (Nat.not_lt_zero _)⟩ ?_ ?_
  ·rintro i σ H2 hi ⟨s2,⟨x2,x3,x4,rfl⟩,hI⟩
   rw [Int.zero_add]
   refine ⟨_,rfl,((i:Nat):Int),rfl,by omega,by omega,?_⟩
   rw [Int.toNat_natCast]
   refine for_range (lo:=0) (n:=i) (fun j σ H3=>Same H1 H3∧(∃ x3 x4:Option V,σ=[some (.ref t),some (.ref g),some (.int ((i:Nat):Int)),x3,x4,none,none,none,none])∧∀ b,b < j→∀ x∈prt n bs i,∀ y∈prt n bs b,One x y) ⟨s2,⟨_,_,rfl⟩,nofun⟩ ?_ ?_
   rotate_left
   ·rintro σ H3 ⟨s3,⟨x3,x4,rfl⟩,hJ⟩
    refine ⟨s3,⟨_,_,_,rfl⟩,fun a b hba hai=>?_⟩
    by_cases hlt:a < i
    ·exact hI a b hba hlt
    ·rw [show a=i by omega] at hba ⊢
     exact hJ b hba
   rintro j σ H3 hj ⟨s3,⟨x3,x4,rfl⟩,hJ⟩
   rw [Int.zero_add]
   obtain ⟨ai,vi,eai,hai,hTi⟩:=gp s3 i hi
   refine ⟨_,rfl,_,rfl,g,_,_,_,rfl,rfl,SqL.of (s3 _ _ hg),atI_nat eai,ai,rfl,⟨_,SqT.of hai⟩,for_tup (K:=K) (a:=ai) (xs:=vi) (fun c σ H4=>Same H3 H4∧(∃ x4:Option V,σ=[some (.ref t),some (.ref g),some (.int ((i:Nat):Int)),some (.int ((j:Nat):Int)),x4,none,none,none,none])∧∀ x∈(prt n bs i).take c,∀ y∈prt n bs j,One x y) ⟨Same.refl _,⟨_,rfl⟩,by simp⟩ (fun c σ H4 _ ⟨s4,_⟩=>SqT.of (s4 _ _ hai)) ?_ ?_⟩
   rotate_left
   ·rintro σ H4 ⟨s4,⟨x4,rfl⟩,hc⟩
    rw [hTi.len,List.take_length] at hc
    refine ⟨s3.trans s4,⟨_,_,rfl⟩,fun b hb=>?_⟩
    by_cases hbj:b < j
    ·exact hJ b hbj
    ·rw [show b=j by omega]
     exact hc
   rintro c v σ H4 hc ⟨s4,⟨x4,rfl⟩,hcc⟩
   obtain ⟨ax,x,rfl,hx,hax⟩:=(hTi.sm s4).get hc
   have hxm:=List.mem_of_getElem? hx
   obtain ⟨aj,vj,eaj,haj,hTj⟩:=gp (s3.trans s4) j (by omega)
   refine ⟨_,rfl,_,rfl,g,_,_,_,rfl,rfl,SqL.of ((s3.trans s4) _ _ hg),atI_nat eaj,aj,rfl,⟨_,SqT.of haj⟩,comp_tup (K:=K) (a:=aj) (xs:=vj) (fun d zs H5=>Same H4 H5∧∃ L:List Bool,zs=L.map V.bl∧L.length=d∧((L.any id=true)↔∃ y∈(prt n bs j).take d,¬One x y)) ⟨Same.refl _,[],rfl,rfl,by simp⟩ (fun d zs H5 _ ⟨s5,_⟩=>SqT.of (s5 _ _ haj)) ?_ ?_⟩
   ·rintro d v zs H5 N hd ⟨s5,L,rfl,hLl,hLa⟩ nx
    obtain ⟨ay,y,rfl,hy,hay⟩:=(hTj.sm s5).get hd
    have hym:=List.mem_of_getElem? hy
    have hdl:=(List.getElem?_eq_some_iff.mp hy).1
    rw [hpl j (by omega)] at hdl
    have hx5:=hp5 i x hxm
    have hy5:=hp5 j y hym
    refine ⟨Weak.set (by intro v z; cases z),⟨_,rfl,ax,x.map fun p=>((p:Nat):Int),rfl,by rw [← nats_ints]; exact SqT.of (s5 _ _ hax),by rw [List.length_map]; omega,fun l1 n1 hl1=>?_⟩⟩
    have v1:=same_new (o:=.set (fun k=>(x.map fun p=>((p:Nat):Int)).any (· == k)) n1) hl1
    refine ⟨_,rfl,ay,y.map fun p=>((p:Nat):Int),rfl,by rw [← nats_ints]; exact SqT.of (v1 _ _ hay),by rw [List.length_map]; omega,fun l2 n2 hl2=>?_⟩
    have v2:=same_new (o:=.set (fun k=>(y.map fun p=>((p:Nat):Int)).any (· == k)) n2) hl2
    refine ⟨l1,l2,_,_,n1,n2,rfl,rfl,fun z=>?_,v2 _ _ upd_same,upd_same,fun l3 TT LL hl3 nd hLL=>?_⟩
    ·rw [z,upd_same] at hl2
     cases hl2
    have v3:=same_new (o:=.set TT LL.length) hl3
    refine ⟨l3,TT,LL.length,rfl,upd_same,rfl,?_,nx _ _ ⟨s5.trans (v1.trans (v2.trans v3)),L++[!decide (V.int ((LL.length:Nat):Int)=V.int 1)],by rw [List.map_append]; rfl,by rw [List.length_append,hLl]; rfl,?_⟩⟩
    ·rw [List.length_map,hLl]
     exact Nat.lt_of_lt_of_le (show d < 6 by omega) (by decide)
    ·have h1:=one_len nd hLL
     have h2:(!decide (V.int ((LL.length:Nat):Int)=V.int 1))=true↔¬One x y:=by
      rw [← h1]
      simp
      omega
     rw [List.any_append,Bool.or_eq_true,hLa,take_snoc hy]
     constructor
     ·rintro (⟨z,hz,hn⟩ | hb)
      ·exact ⟨z,List.mem_append_left _ hz,hn⟩
      ·refine ⟨y,List.mem_append_right _ (List.mem_singleton.mpr rfl),h2.mp ?_⟩
       simpa using hb
     ·rintro ⟨z,hz,hn⟩
      rcases List.mem_append.mp hz with u | u
      ·exact .inl ⟨z,u,hn⟩
      ·rw [List.mem_singleton.mp u] at hn
       refine .inr ?_
       rw [List.any_cons,List.any_nil,Bool.or_false]
       exact h2.mpr hn
   rintro zs H5 ⟨s5,L,rfl,hLl,hLa⟩
   have hvj:vj.length=n:=by rw [hTj.len,hpl j (by omega)]
   rw [hTj.len,List.take_length] at hLa
   refine ⟨by rw [List.length_map,hLl,hvj]; exact Nat.le_trans hn5 (by decide),fun r hr'=>?_⟩
   have v1:=same_new (o:=.lst (L.map V.bl)) hr'
   refine ⟨r,L,rfl,SqL.of upd_same,_,rfl,?_⟩
   refine ite2 (fun hT'=>?_) (fun hF=>?_)
   ·obtain ⟨y,hy,hno⟩:=hLa.mp hT'
    exact q .non _ (s1.trans (s3.trans (s4.trans (s5.trans v1)))) (.inl ⟨rfl,no i j hj hi fun h=>hno (h x hxm y hy)⟩)
   ·refine ⟨s4.trans (s5.trans v1),⟨_,rfl⟩,fun z hz y hy=>?_⟩
    rw [take_snoc hx] at hz
    rcases List.mem_append.mp hz with u | u
    ·exact hcc z u y hy
    ·rw [List.mem_singleton.mp u]
     exact Classical.byContradiction fun hno=>hF (hLa.mpr ⟨y,hy,hno⟩)
  rintro σ H2 ⟨s2,⟨x2,x3,x4,rfl⟩,hI⟩
  have hBack:Back n m bs k:=⟨hsq,hC.len,hk2,hC.part,fun i j hji hik=>(inj_one hsq (hC.part i hik) (hC.part j (by omega)) (hpl i hik) (hpl j (by omega)) (hplt i)).mpr (hI i j hji hik)⟩
  have hPA:=hC.part 0 (by omega)
  have hPB:=hC.part 1 (by omega)
  have la:=hpl 0 (by omega)
  have lb:=hpl 1 (by omega)
  have hAB:Inj m (prt n bs 0) (prt n bs 1):=fun p q hp hq e1 e2=>hBack.inj 1 0 (by omega) (by omega) p q hp hq e2 e1
  refine ⟨by show 0≤sizeLine; decide,fun fo hfo=>?_⟩
  have w1:=same_new (o:=.lst []) hfo
  have s3:=s2.trans w1
  have hfo3:L2.upd H2 fo (.lst []) fo=some (.lst []):=upd_same
  have s23:Same H2 (L2.upd H2 fo (.lst [])):=w1
  generalize L2.upd H2 fo (.lst [])=H3 at s3 hfo3 s23 ⊢
  clear w1
  refine ⟨_,rfl,_,rfl,g,_,rfl,SqL.of (s3 _ _ hg),fun p hp=>?_⟩
  rw [show cutV us (some 2) none=us.drop 2 from cut_from (k:=2) (by omega)]
  have w1:=same_new (o:=.lst (us.drop 2)) hp
  have hp4:L2.upd H3 p (.lst (us.drop 2)) p=some (.lst (us.drop 2)):=upd_same
  have hpfo:p≠fo:=fun z=>by rw [z,hfo3] at hp; cases hp
  have hp2:H2 p=none:=s23.free hp
  have hfo4:=w1 _ _ hfo3
  have s24:=s23.trans w1
  generalize L2.upd H3 p (.lst (us.drop 2))=H4 at hp4 hfo4 s24 ⊢
  clear w1 hp s23 hfo3
  refine ⟨p,rfl,⟨_,SqL.of hp4⟩,for_list (K:=K) (a:=p) (xs:=us.drop 2) (fun i σ H5=>Same H2 H5∧H5 p=some (.lst (us.drop 2))∧(∃ x2 x3 x4 x6 x7 x8:Option V,σ=[some (.ref t),some (.ref g),x2,x3,x4,some (.ref fo),x6,x7,x8])∧∃ zs,H5 fo=some (.lst zs)∧SqsAt H5 zs ((List.range i).map fun j=>sqB n m bs (j + 2))) ⟨s24,hp4,⟨_,_,_,_,_,_,rfl⟩,[],hfo4,trivial⟩ (fun i σ H5 _ ⟨_,h5,_⟩=>SqL.of h5) ?_ ?_⟩
  rotate_left
  ·rintro σ H5 ⟨s5,hp5,⟨x2,x3,x4,x6,x7,x8,rfl⟩,zs,hf5,hZ⟩
   rw [List.length_drop,hul] at hZ
   exact ⟨_,rfl,q _ _ (s1.trans (s2.trans s5)) (.inr ⟨fo,zs,n,k,rfl,hf5,hZ,hBack⟩)⟩
  rintro i v σ H5 hi ⟨s5,hpp5,⟨x2,x3,x4,x6,x7,x8,rfl⟩,zs,hf5,hZ5⟩
  have hik:i + 2 < k:=by
   have:=(List.getElem?_eq_some_iff.mp hi).1
   rw [List.length_drop] at this
   omega
  rw [List.getElem?_drop,Nat.add_comm] at hi
  obtain ⟨aq,vq,eaq,haq,hTq⟩:=gp (s2.trans s5) (i + 2) hik
  rw [eaq] at hi
  cases hi
  refine ⟨by show 0≤sizeLine; decide,fun ro hro=>?_⟩
  have w1:=same_new (o:=.lst []) hro
  have hro2:H2 ro=none:=s5.free hro
  have hrofo:ro≠fo:=fun z=>by rw [z,hf5] at hro; cases hro
  have hrop:ro≠p:=fun z=>by rw [z,hpp5] at hro; cases hro
  have hro6:L2.upd H5 ro (.lst []) ro=some (.lst []):=upd_same
  have s6:=s5.trans w1
  have hf6:=w1 _ _ hf5
  have hpp6:=w1 _ _ hpp5
  have hZ6:=hZ5.sm w1
  generalize L2.upd H5 ro (.lst [])=H6 at hro6 s6 hf6 hpp6 hZ6 ⊢
  clear w1 hro hf5 hZ5 hpp5 hTq haq
  obtain ⟨a0,v0,ea0,ha0,hT0⟩:=gp (s2.trans s6) 0 (by omega)
  refine ⟨_,rfl,g,_,0,_,rfl,rfl,SqL.of ((s2.trans s6) _ _ hg),atI_nat (j:=0) ea0,a0,rfl,⟨_,SqT.of ha0⟩,for_tup (K:=K) (a:=a0) (xs:=v0) (fun c σ H7=>Same H2 H7∧H7 a0=some (.tup v0)∧TpAt H7 v0 (prt n bs 0)∧H7 p=some (.lst (us.drop 2))∧H7 fo=some (.lst zs)∧SqsAt H7 zs ((List.range i).map fun j=>sqB n m bs (j + 2))∧(∃ x4 x8:Option V,σ=[some (.ref t),some (.ref g),x2,x3,x4,some (.ref fo),some (.ref aq),some (.ref ro),x8])∧∃ rs,H7 ro=some (.lst rs)∧TpAt H7 rs ((List.range c).map (rowV n m bs (i + 2)))) ⟨s6,ha0,hT0,hpp6,hf6,hZ6,⟨_,_,rfl⟩,[],hro6,trivial⟩ (fun c σ H7 _ ⟨_,h7,_⟩=>SqT.of h7) ?_ ?_⟩
  rotate_left
  ·rintro σ H7 ⟨s7,ha7,hT7,hpp7,hf7,hZ7,⟨y4,y8,rfl⟩,rs,hro7,hR7⟩
   have hv0:v0.length=n:=by rw [hT7.len,la]
   rw [hv0,← sqB_rows hsq] at hR7
   refine ⟨_,rfl,.inl ⟨rfl,_,SqL.of hf7⟩,_,rfl,ro,rs,rfl,.inl ⟨SqL.of hro7,fun tt htt=>?_⟩⟩
   have w1:=same_new (o:=.tup rs) htt
   have hf8:=w1 _ _ hf7
   have htt8:L2.upd H7 tt (.tup rs) tt=some (.tup rs):=upd_same
   have s8:=s7.trans w1
   have hZ8:=(hZ7.sm w1).snoc (a:=tt) (rs:=sqB n m bs (i + 2)) ⟨rs,htt8,hR7.sm w1⟩
   have hpp8:=w1 _ _ hpp7
   generalize L2.upd H7 tt (.tup rs)=H8 at hf8 htt8 s8 hZ8 hpp8 ⊢
   have hzl:=hZ7.len
   rw [List.length_map,List.length_range] at hzl
   refine ⟨fo,zs,_,rfl,rfl,hf8,Nat.lt_of_lt_of_le (show zs.length < 30 by omega) (by decide),?_⟩
   refine ⟨same_upd s8 hfo,?_,⟨_,_,_,_,_,_,rfl⟩,_,upd_same,?_⟩
   ·rw [upd_ne hpfo]
    exact hpp8
   ·rw [List.range_succ,List.map_append]
    refine hZ8.keep fun d ys hd=>?_
    rw [upd_ne (fun z=>by rw [z,hf8] at hd; cases hd)]
    exact hd
  rintro c v σ H7 hc ⟨s7,ha7,hT7,hpp7,hf7,hZ7,⟨y4,y8,rfl⟩,rs,hro7,hR7⟩
  obtain ⟨ax,x,rfl,hx,hax⟩:=hT7.get hc
  have hxm:=List.mem_of_getElem? hx
  have hcn:c < n:=by
   have:=(List.getElem?_eq_some_iff.mp hx).1
   rw [la] at this
   exact this
  obtain ⟨a1,v1,ea1,ha1,hT1⟩:=gp (s2.trans s7) 1 (by omega)
  have hv1:v1.length=n:=by rw [hT1.len,lb]
  refine ⟨_,rfl,g,_,1,_,rfl,rfl,SqL.of ((s2.trans s7) _ _ hg),atI_nat (j:=1) ea1,a1,rfl,⟨_,SqT.of ha1⟩,comp_tup (K:=K) (a:=a1) (xs:=v1) (fun d ys H8=>Same H7 H8∧ys=nats ((List.range d).map fun j=>ptf n m (prt n bs 0) (prt n bs 1) (c * n + j))) ⟨Same.refl _,rfl⟩ (fun d ys H8 _ ⟨s8,_⟩=>SqT.of (s8 _ _ ha1)) ?_ ?_⟩
  ·rintro d v ys H8 N hd ⟨s8,rfl⟩ nx
   obtain ⟨ay,y,rfl,hy,hay⟩:=(hT1.sm s8).get hd
   have hdn:d < n:=by
    have:=(List.getElem?_eq_some_iff.mp hy).1
    rw [lb] at this
    exact this
   have hx5:=hp5 0 x hxm
   refine ⟨Weak.set (by intro v z; cases z),?_⟩
   refine ⟨_,rfl,ax,rfl,⟨_,SqT.of (s8 _ _ hax)⟩,comp_tup (K:=K) (a:=ax) (xs:=nats x) (fun e zs H9=>H9=H8∧zs=nats ((x.take e).filter fun p=>decide (p∈y))) ⟨rfl,rfl⟩ (fun e zs H9 _ ⟨h9,_⟩=>SqT.of (h9▸s8 _ _ hax)) ?_ ?_⟩
   ·rintro e v zs H9 N9 he ⟨rfl,rfl⟩ nx9
    obtain ⟨p',hp',rfl⟩:=L2.nats_get he
    refine ⟨Weak.set (by intro v z; cases z),⟨_,rfl,_,rfl,ay,nats y,rfl,.inr (SqT.of hay),rfl,flat_nats y,_,rfl,?_⟩⟩
    rw [if_neg (by decide),inV_nats]
    by_cases hpy:p'∈y
    ·refine ifT hpy ⟨_,rfl,?_,nx9 _ _ ⟨rfl,?_⟩⟩
     ·rw [nats_len]
      refine Nat.lt_of_le_of_lt (List.length_filter_le ..) ?_
      rw [List.length_take]
      exact Nat.lt_of_lt_of_le (show min e x.length < 6 by omega) (by decide)
     ·rw [take_snoc hp',List.filter_append,List.filter_cons,if_pos (decide_eq_true hpy),List.filter_nil,nats_snoc]
    ·refine ifF hpy (nx9 _ _ ⟨rfl,?_⟩)
     rw [take_snoc hp',List.filter_append,List.filter_cons,if_neg (by simpa using hpy),List.filter_nil,List.append_nil]
   rintro zs H9 ⟨rfl,rfl⟩
   rw [nats_len x,List.take_length]
   have hfo1:=first_one hsq hPA hPB la lb (hplt 0) hAB hx hy
   refine ⟨by rw [nats_len]; exact Nat.le_trans (Nat.le_trans (List.length_filter_le ..) hx5) (by decide),fun r hr'=>?_⟩
   have w1:=same_new (o:=.lst (nats (x.filter fun p=>decide (p∈y)))) hr'
   have gat:(nats (x.filter fun p=>decide (p∈y)))[0]?=some (.int ((ptf n m (prt n bs 0) (prt n bs 1) (c * n + d):Nat):Int)):=by
    unfold nats
    rw [List.getElem?_map,hfo1]
    rfl
   refine ⟨r,_,0,_,rfl,rfl,SqL.of upd_same,atI_nat (j:=0) gat,?_,nx _ _ ⟨s8.trans w1,?_⟩⟩
   ·rw [nats_len,List.length_map,List.length_range]
    exact Nat.lt_of_lt_of_le (show d < 6 by omega) (by decide)
   ·rw [List.range_succ,List.map_append,List.map_cons,List.map_nil,nats_snoc]
  rintro ys H8 ⟨s8,rfl⟩
  rw [hv1]
  refine ⟨by rw [nats_len,List.length_map,List.length_range]; exact Nat.le_trans hn5 (by decide),fun ce hce=>?_⟩
  have w1:=same_new (o:=.lst (nats ((List.range n).map fun j=>ptf n m (prt n bs 0) (prt n bs 1) (c * n + j)))) hce
  have s9:=s8.trans w1
  have hce9:L2.upd H8 ce (.lst (nats ((List.range n).map fun j=>ptf n m (prt n bs 0) (prt n bs 1) (c * n + j)))) ce=some (.lst (nats ((List.range n).map fun j=>ptf n m (prt n bs 0) (prt n bs 1) (c * n + j)))):=upd_same
  dsimp only [gName]
  generalize L2.upd H8 ce (.lst (nats ((List.range n).map fun j=>ptf n m (prt n bs 0) (prt n bs 1) (c * n + j))))=H9 at s9 hce9 ⊢
  clear w1 hce s8
  have hro9:=s9 _ _ hro7
  obtain ⟨aq',vq,eaq',haq,hTq⟩:=gp (s2.trans (s7.trans s9)) (i + 2) hik
  rw [eaq] at eaq'
  cases eaq'
  have hvq:vq.length=n:=by rw [hTq.len,hpl (i + 2) hik]
  refine ⟨_,rfl,.inl ⟨rfl,_,SqL.of hro9⟩,_,rfl,ce,rfl,⟨_,SqL.of hce9⟩,comp_list (K:=K) (a:=ce) (xs:=nats ((List.range n).map fun j=>ptf n m (prt n bs 0) (prt n bs 1) (c * n + j))) (fun d ys HA=>Same H9 HA∧ys=nats ((List.range d).map fun j=>nmL (prt n bs (i + 2)) (ptf n m (prt n bs 0) (prt n bs 1) (c * n + j)))) ⟨Same.refl _,rfl⟩ (fun d ys HA _ ⟨sA,_⟩=>SqL.of (sA _ _ hce9)) ?_ ?_⟩
  ·rintro d v ys HA N hd ⟨sA,rfl⟩ nx
   have hdn:d < n:=by
    have:=(List.getElem?_eq_some_iff.mp hd).1
    rw [nats_len,List.length_map,List.length_range] at this
    exact this
   have ev:v=.int ((ptf n m (prt n bs 0) (prt n bs 1) (c * n + d):Nat):Int):=by
    unfold nats at hd
    rw [List.getElem?_map,List.getElem?_map,List.getElem?_range hdn] at hd
    cases hd
    rfl
   subst ev
   generalize hpe:ptf n m (prt n bs 0) (prt n bs 1) (c * n + d)=pe
   have hpm:pe < m:=by rw [← hpe]; exact ptf_lt (by omega) _
   have haqA:=sA _ _ haq
   have hTqA:=hTq.sm sA
   refine ⟨Weak.set (by intro v z; cases z),?_⟩
   refine ⟨_,rfl,aq,rfl,⟨_,SqT.of haqA⟩,comp_tup (K:=K) (a:=aq) (xs:=vq) (fun e zs HB=>HB=HA∧zs=(((prt n bs (i + 2)).take e).map fun b=>decide (pe∈b)).map V.bl) ⟨rfl,rfl⟩ (fun e zs HB _ ⟨hB,_⟩=>SqT.of (hB▸haqA)) ?_ ?_⟩
   ·rintro e v zs HB NB he ⟨rfl,rfl⟩ nxB
    obtain ⟨ab,b,rfl,hb,hab⟩:=hTqA.get he
    have hel:=(List.getElem?_eq_some_iff.mp he).1
    refine ⟨Weak.set (by intro v z; cases z),⟨_,rfl,_,rfl,ab,nats b,rfl,.inr (SqT.of hab),rfl,flat_nats b,?_,nxB _ _ ⟨rfl,?_⟩⟩⟩
    ·rw [List.length_map,List.length_map,List.length_take]
     exact Nat.lt_of_lt_of_le (show min e (prt n bs (i + 2)).length < 6 by omega) (by decide)
    ·rw [if_neg (by decide),inV_nats,take_snoc hb,List.map_append,List.map_append]
     rfl
   rintro zs HB ⟨rfl,rfl⟩
   rw [hTqA.len,List.take_length]
   refine ⟨by rw [List.length_map,List.length_map,hpl (i + 2) hik]; exact Nat.le_trans hn5 (by decide),fun r hr'=>?_⟩
   have w1:=same_new (o:=.lst (((prt n bs (i + 2)).map fun b=>decide (pe∈b)).map V.bl)) hr'
   have hPq:=hC.part (i + 2) hik
   have hnl:=nm_lt hPq hpm
   obtain ⟨b0,gb0,hb0⟩:=nm_mem hPq hpm
   refine ⟨.inl ⟨rfl,_,SqL.of upd_same⟩,r,_,.bl true,.bool true,((prt n bs (i + 2)).map fun b=>decide (pe∈b)).map PyData.bool,nmL (prt n bs (i + 2)) pe,rfl,rfl,upd_same,bls_isDs _,by simp [IsD],by decide,lay_bls _,⟨.bool true,?_,by simp [PyData.eqv]⟩,fun m' e hm' he=>?_,?_,nx _ _ ⟨sA.trans w1,?_⟩⟩
   ·rw [List.getElem?_map,List.getElem?_map,gb0]
    simp [hb0]
   ·rw [List.getElem?_map,List.getElem?_map,List.getElem?_eq_getElem (show m' < (prt n bs (i + 2)).length by omega)] at he
    have hnot:¬pe∈(prt n bs (i + 2))[m']:=by
     have:=List.not_of_lt_findIdx (xs:=prt n bs (i + 2)) (p:=fun b=>decide (pe∈b)) hm'
     simpa using this
    simp [hnot] at he
    rw [← he]
    simp [PyData.eqv]
   ·rw [nats_len,List.length_map,List.length_range]
    exact Nat.lt_of_lt_of_le (show d < 6 by omega) (by decide)
   ·rw [List.range_succ,List.map_append,List.map_cons,List.map_nil,nats_snoc,hpe]
  rintro ys HA ⟨sA,rfl⟩
  rw [show (nats ((List.range n).map fun j=>ptf n m (prt n bs 0) (prt n bs 1) (c * n + j))).length=n by rw [nats_len,List.length_map,List.length_range]]
  refine ⟨by rw [nats_len,List.length_map,List.length_range]; exact Nat.le_trans hn5 (by decide),fun r hr'=>⟨r,_,rfl,.inl ⟨SqL.of upd_same,fun tt htt=>?_⟩⟩⟩
  have w1:=same_new (o:=.lst (nats (rowV n m bs (i + 2) c))) hr'
  have w2:=same_new (o:=.tup (nats (rowV n m bs (i + 2) c))) htt
  have s79:=s9.trans (sA.trans (w1.trans w2))
  have httB:L2.upd (L2.upd HA r (.lst (nats (rowV n m bs (i + 2) c)))) tt (.tup (nats (rowV n m bs (i + 2) c))) tt=some (.tup (nats (rowV n m bs (i + 2) c))):=upd_same
  have hRB:=(hR7.sm s79).snoc httB
  unfold rowV at s79 httB hRB
  generalize L2.upd (L2.upd HA r (.lst (nats ((List.range n).map fun j=>nmL (prt n bs (i + 2)) (ptf n m (prt n bs 0) (prt n bs 1) (c * n + j)))))) tt (.tup (nats ((List.range n).map fun j=>nmL (prt n bs (i + 2)) (ptf n m (prt n bs 0) (prt n bs 1) (c * n + j)))))=HB at s79 httB hRB ⊢
  have hroB:=s79 _ _ hro7
  have upB:∀ (o:HO) (d:Addr) (zs:List V),HB d=some (.tup zs)→L2.upd HB ro o d=some (.tup zs):=fun o d zs hd=>by
   rw [upd_ne (fun z=>by rw [z,hroB] at hd; cases hd)]
   exact hd
  have hrl:=hR7.len
  rw [List.length_map,List.length_range] at hrl
  refine ⟨ro,rs,_,rfl,rfl,hroB,Nat.lt_of_lt_of_le (show rs.length < 6 by omega) (by decide),?_⟩
  refine ⟨same_upd (s7.trans s79) hro2,upB _ _ _ (s79 _ _ ha7),(hT7.sm s79).same (fun d zs hd=>upB _ d zs hd),?_,?_,(hZ7.sm s79).keep (fun d zs hd=>upB _ d zs hd),⟨_,_,rfl⟩,_,upd_same,?_⟩
  ·rw [upd_ne hrop.symm]
   exact s79 _ _ hpp7
  ·rw [upd_ne hrofo.symm]
   exact s79 _ _ hf7
  ·rw [List.range_succ,List.map_append]
   exact hRB.same (fun d zs hd=>upB _ d zs hd)
def Ov (n:Nat) (rs qs:List (List Nat)):Prop:=∀ p q,p < n * n→q < n * n→fS n rs p=fS n rs q→fS n qs p=fS n qs q→p=q
def spAll:Sp:=fun vs H Q _=>∃ (l:Addr) (n:Nat) (ws:List V) (sqs:List (List (List Nat))),vs=[.ref l]∧H l=some (.lst ws)∧SqsAt H ws sqs∧1≤n∧n≤5∧1≤sqs.length∧sqs.length≤4∧(∀ rs∈sqs,Sq n rs)∧∀ (b:Bool) (H':Hp),Same H H'→(b=true↔∀ i j,j < i→i < sqs.length→Ov n (sqs.getD i []) (sqs.getD j []))→Q (.bl b) H'
theorem scLAllOver:FnScope ["_law_squares_here", "_law_size", "_law_i", "_law_j", "_law_pairs"] ["_law_squares_here"] (defScope sLAllOver):=⟨rfl,rfl,rfl,by decide +kernel,rfl,by decide +kernel,by decide +kernel⟩
theorem pairs_len {m:Nat} {f g:Nat→Nat} {cs:List (List Nat)} (nd:cs.Nodup) (h1:∀ c∈cs,c∈(List.range m).map fun p=>[f p,g p]) (h2:∀ c∈(List.range m).map fun p=>[f p,g p],c∈cs):cs.length=m↔∀ p q,p < m→q < m→f p=f q→g p=g q→p=q:=by
 have hle:cs.length≤m:=by
  have:=List.Nodup.length_le_of_subset nd h1
  rwa [List.length_map,List.length_range] at this
 constructor
 ·intro e p q hp hq e1 e2
  refine Classical.byContradiction fun hne=>?_
  have hsub:∀ c∈cs,c∈((List.range m).filter fun x=>decide (x≠p)).map fun x=>[f x,g x]:=fun c hc=>by
   obtain ⟨x,hx,rfl⟩:=List.mem_map.mp (h1 c hc)
   by_cases hxp:x=p
   ·subst hxp
    refine List.mem_map.mpr ⟨q,List.mem_filter.mpr ⟨List.mem_range.mpr hq,by simpa using fun z:q=x=>hne z.symm⟩,by rw [e1,e2]⟩
   ·exact List.mem_map.mpr ⟨x,List.mem_filter.mpr ⟨hx,by simpa using hxp⟩,rfl⟩
  have hl:=List.Nodup.length_le_of_subset nd hsub
  rw [List.length_map] at hl
  have hlt:((List.range m).filter fun x=>decide (x≠p)).length < m:=by
   have:=List.length_filter_lt_length_iff_exists (l:=List.range m) (p:=fun x=>decide (x≠p)) |>.mpr ⟨p,List.mem_range.mpr hp,by simp⟩
   rwa [List.length_range] at this
  omega
 ·intro hI
  have ndm:((List.range m).map fun p=>[f p,g p]).Nodup:=by
   rw [List.nodup_iff_pairwise_ne,List.pairwise_map]
   refine (List.nodup_iff_pairwise_ne.mp List.nodup_range).imp_of_mem fun {x y} hx hy h e=>h ?_
   injection e with e1 e2
   injection e2 with e2 _
   exact hI x y (List.mem_range.mp hx) (List.mem_range.mp hy) e1 e2
  have hge:=List.Nodup.length_le_of_subset ndm (l₂:=cs) fun x hx=>h2 x hx
  rw [List.length_map,List.length_range] at hge
  omega
theorem ok_all {f:Addr} {fd:FuncData} (F:Fun K "_law_all_over" "_law_all_over" sLAllOver f fd) (T:TxtB mg):FnOk P w K mg base CX0 1 f fd ["_law_squares_here"] spAll:=by
 refine F.okQ scLAllOver (fun vs H Q E h=>?_) (fun cdv A outer s H vs Q E hr h=>?_)
 ·obtain ⟨l,n,ws,sqs,rfl,_⟩:=h
  rfl
 ·obtain ⟨l,n,ws,sqs,rfl,hl,hS,hn1,hn5,hq1,hq4,hsq,q⟩:=h
  have hu:(A.deeper (PyProof.Rows.envOfC "_law_all_over" (defScope sLAllOver) s.heap.objs.size _ cdv)).units + 64 < cLine:=hr.units
  refine ⟨_,(qss_cons (qs_set (i:=1) scLAllOver.nd rfl (Or.inr rfl) (qe_callB call_len_seq (by rfl) T.len PySem.boot_len (qac (qe_ix ix_list (qv 0) qe_int (fun _ _=>rfl)) qa_nil)))
   (qss_cons (qs_for PassesOwn.never rfl (qi_range1 rfl T.range (qac (qe_callB call_len_seq (by rfl) T.len PySem.boot_len (qac (qv 0) qa_nil)) qa_nil)) (qg_name (i:=2) scLAllOver.nd rfl (Or.inr rfl))
    (qss_one (qs_for PassesOwn.never rfl (qi_range1 rfl T.range (qac (qv 2) qa_nil)) (qg_name (i:=3) scLAllOver.nd rfl (Or.inr rfl))
     (qss_cons (qs_setComp (i:=4) (g:=gName 0) (N:=["_law_k", "_law_squares_here", "_law_size", "_law_i", "_law_j"]) (src:=[none,some 0,some 1,some 2,some 3]) rfl (comp_scope (defScope sLAllOver) ["_law_squares_here", "_law_size", "_law_i", "_law_j", "_law_pairs"] rfl rfl (by decide +kernel) rfl) (qi_range1 rfl T.range (qac (qe_op op_mul (qv 1) (qv 1)) qa_nil)) (fun _ _ _ _ _=>(qg_name (i:=0) (show (["_law_k", "_law_squares_here", "_law_size", "_law_i", "_law_j"]:List Str).Nodup by decide +kernel) rfl (Or.inl rfl) (Or.inr rfl))) (fun _ _ _ _ _=>qif_nil) (fun _ _ _ _ _=>(qe_tup (qac (qe_ix (show IxR _ (rIxT K) from ix_tup) (qe_ix (show IxR _ (rIxT K) from ix_tup) (qe_ix (show IxR _ (rIxL K) from ix_list) (qv 1) (qv 3) (fun _ _=>rfl)) (qe_op op_fdiv (qv 0) (qv 2)) (fun _ _=>rfl)) (qe_op op_mod (qv 0) (qv 2)) (fun _ _=>rfl)) (qac (qe_ix (show IxR _ (rIxT K) from ix_tup) (qe_ix (show IxR _ (rIxT K) from ix_tup) (qe_ix (show IxR _ (rIxL K) from ix_list) (qv 1) (qv 4) (fun _ _=>rfl)) (qe_op op_fdiv (qv 0) (qv 2)) (fun _ _=>rfl)) (qe_op op_mod (qv 0) (qv 2)) (fun _ _=>rfl)) qa_nil)))) (qg_name (i:=4) scLAllOver.nd rfl (Or.inl rfl)))
     (qss_one (qs_if (qt_cmpR op_ne (qe_callB (show CallR _ _ (rLenTs P w) from call_lenTs) (by rfl) T.len PySem.boot_len (qac (qe_callTy (show CallR _ _ (rSetTs P w K) from call_setTs rfl hu) (by rfl) T.set (by decide +kernel) (qac (qv 4) qa_nil)) qa_nil)) (qe_op op_mul (qv 1) (qv 1)) (nomark _)) (qss_one (qs_ret qe_bl)) qss_nil))))))
   (qss_one (qs_ret qe_bl)))),?_⟩
  have hwl:=hS.len
  have g0:ws[0]?=some (ws[0]'(by omega)):=List.getElem?_eq_getElem _
  obtain ⟨a0,r0,ea0,hr0,us0,ha0,hT0⟩:=hS.get g0
  have hs0:=hsq r0 (List.mem_of_getElem? hr0)
  have hu0:us0.length=n:=by rw [hT0.len,hs0.1]
  refine ⟨_,rfl,l,_,_,_,rfl,rfl,SqL.of hl,atI_nat (j:=0) g0,a0,us0,by rw [ea0],.inr (SqT.of ha0),?_⟩
  dsimp only
  rw [hu0]
  have hnn:((n:Nat):Int) * ((n:Nat):Int)=((n * n:Nat):Int):=by rw [Int.natCast_mul]
  have hn25:n * n≤25:=Nat.mul_le_mul hn5 hn5
  have hn0:(0:Int) < ((n:Nat):Int):=by omega
  refine ⟨_,rfl,l,ws,rfl,.inl (SqL.of hl),((ws.length:Nat):Int),rfl,by omega,by omega,?_⟩
  rw [Int.toNat_natCast,hwl]
  refine for_range (lo:=0) (n:=sqs.length) (fun i σ H2=>Same H H2∧(∃ x2 x3 x4:Option V,σ=[some (.ref l),some (.int ((n:Nat):Int)),x2,x3,x4])∧∀ a b,b < a→a < i→Ov n (sqs.getD a []) (sqs.getD b [])) ⟨Same.refl _,⟨none,none,none,rfl⟩,fun a b _ h=>absurd h (Nat.not_lt_zero _)⟩ ?_ ?_
  rotate_left
  ·rintro σ H2 ⟨s2,⟨x2,x3,x4,rfl⟩,hI⟩
   exact q true _ s2 ⟨fun _ i j=>hI i j,fun _=>rfl⟩
  rintro i σ H2 hi ⟨s2,⟨x2,x3,x4,rfl⟩,hI⟩
  rw [Int.zero_add]
  refine ⟨_,rfl,((i:Nat):Int),rfl,by omega,by omega,?_⟩
  rw [Int.toNat_natCast]
  refine for_range (lo:=0) (n:=i) (fun j σ H3=>Same H H3∧(∃ x3 x4:Option V,σ=[some (.ref l),some (.int ((n:Nat):Int)),some (.int ((i:Nat):Int)),x3,x4])∧∀ b,b < j→Ov n (sqs.getD i []) (sqs.getD b [])) ⟨s2,⟨_,_,rfl⟩,nofun⟩ ?_ ?_
  rotate_left
  ·rintro σ H3 ⟨s3,⟨x3,x4,rfl⟩,hJ⟩
   refine ⟨s3,⟨_,_,_,rfl⟩,fun a b hba hai=>?_⟩
   by_cases hlt:a < i
   ·exact hI a b hba hlt
   ·rw [show a=i by omega] at hba ⊢
    exact hJ b hba
  rintro j σ H3 hj ⟨s3,⟨x3,x4,rfl⟩,hJ⟩
  rw [Int.zero_add]
  have cell:∀ {H4:Hp},Same H H4→∀ i,i < sqs.length→∀ c,c < n * n→∃ (a:Addr) (ui:List V) (tr:Addr) (rr:List V),atI ws ((i:Nat):Int)=some (.ref a)∧H4 a=some (.tup ui)∧atI ui (((c:Nat):Int) / ((n:Nat):Int))=some (.ref tr)∧H4 tr=some (.tup rr)∧atI rr (((c:Nat):Int) % ((n:Nat):Int))=some (.int ((fS n (sqs.getD i []) c:Nat):Int)):=fun {H4} s4 i hi c hc=>by
   have gi:ws[i]?=some (ws[i]'(by omega)):=List.getElem?_eq_getElem _
   obtain ⟨ai,ri,eai,hri,ui,hai,hTi⟩:=(hS.sm s4).get gi
   have hsi:=hsq ri (List.mem_of_getElem? hri)
   have hjd:c / n < n:=Nat.div_lt_of_lt_mul hc
   have hjm:c % n < n:=Nat.mod_lt _ hn1
   have gr:ui[c / n]?=some (ui[c / n]'(by rw [hTi.len,hsi.1]; exact hjd)):=List.getElem?_eq_getElem _
   obtain ⟨tr,rr,etr,hrr,htr⟩:=hTi.get gr
   have hrl:=(hsi.2 rr (List.mem_of_getElem? hrr)).1
   have eri:sqs.getD i []=ri:=by rw [List.getD_eq_getElem?_getD,hri]; rfl
   have gc:(nats rr)[c % n]?=some (.int ((fS n (sqs.getD i []) c:Nat):Int)):=by
    rw [eri]
    unfold nats fS
    have e1:ri.getD (c / n) []=rr:=by rw [List.getD_eq_getElem?_getD,hrr]; rfl
    rw [List.getElem?_map,e1,List.getElem?_eq_getElem (by omega)]
    simp [show c % n < rr.length by omega]
   rw [etr] at gr
   rw [eai] at gi
   exact ⟨ai,ui,tr,nats rr,atI_nat gi,hai,by rw [← Int.natCast_ediv]; exact atI_nat gr,htr,by rw [← Int.natCast_emod]; exact atI_nat gc⟩
  refine ⟨_,rfl,_,rfl,_,_,rfl,rfl,.inl ⟨by omega,by omega⟩,((n:Nat):Int) * ((n:Nat):Int),rfl,by omega,by omega,?_⟩
  rw [hnn,Int.toNat_natCast]
  refine comp_rng (lo:=0) (n:=n * n) (fun c ys H4=>Same H3 H4∧TpAt H4 ys ((List.range c).map fun p=>[fS n (sqs.getD i []) p,fS n (sqs.getD j []) p])) ⟨Same.refl _,trivial⟩ ?_ ?_
  ·rintro c ys H4 N hc ⟨s4,hT⟩ nx
   rw [Int.zero_add]
   obtain ⟨ai,ui,ti,ri,e1,e2,e3,e4,e5⟩:=cell (s3.trans s4) i hi c hc
   obtain ⟨aj,uj,tj,rj,d1,d2,d3,d4,d5⟩:=cell (s3.trans s4) j (by omega) c hc
   refine ⟨Weak.set (by intro v z; cases z),⟨_,rfl,_,rfl,l,_,_,_,rfl,rfl,SqL.of ((s3.trans s4) _ _ hl),e1,_,rfl,_,rfl,_,_,rfl,rfl,⟨by omega,by omega⟩,ai,_,_,_,rfl,rfl,SqT.of e2,e3,_,rfl,_,rfl,_,_,rfl,rfl,hn0,ti,_,_,_,rfl,rfl,SqT.of e4,e5,_,rfl,_,rfl,l,_,_,_,rfl,rfl,SqL.of ((s3.trans s4) _ _ hl),d1,_,rfl,_,rfl,_,_,rfl,rfl,⟨by omega,by omega⟩,aj,_,_,_,rfl,rfl,SqT.of d2,d3,_,rfl,_,rfl,_,_,rfl,rfl,hn0,tj,_,_,_,rfl,rfl,SqT.of d4,d5,by show 2≤sizeLine; decide,fun t ht=>⟨?_,nx _ _ ⟨s4.trans (same_new ht),?_⟩⟩⟩⟩
   ·rw [hT.len,List.length_map,List.length_range]
    exact Nat.lt_of_lt_of_le (show c < 26 by omega) (by decide)
   ·rw [List.range_succ,List.map_append]
    exact (hT.sm (same_new ht)).snoc (b:=[fS n (sqs.getD i []) c,fS n (sqs.getD j []) c]) upd_same
  rintro ys H4 ⟨s4,hT4⟩
  refine ⟨by rw [hT4.len,List.length_map,List.length_range]; exact Nat.le_trans hn25 (by decide),fun r hr'=>?_⟩
  have w1:=same_new (o:=.lst ys) hr'
  have hr5:L2.upd H4 r (.lst ys) r=some (.lst ys):=upd_same
  have hT5:=hT4.sm w1
  have s5:=s3.trans (s4.trans w1)
  dsimp only [gName]
  generalize L2.upd H4 r (.lst ys)=H5 at hr5 hT5 s5 ⊢
  refine ⟨_,rfl,r,_,_,rfl,SqL.of hr5,hT5,by rw [List.length_map,List.length_range]; omega,fun l2 ws2 cs hl2 hT2 nd h1 h2 hle=>?_⟩
  have w2:=same_new (o:=TsO P w l2 ws2 cs) hl2
  have s6:=s5.trans w2
  refine ⟨l2,ws2,cs,rfl,upd_same,hT2.sm w2,?_⟩
  generalize L2.upd H5 l2 (TsO P w l2 ws2 cs)=H6 at s6 ⊢
  refine ⟨_,rfl,_,rfl,_,_,rfl,rfl,.inl ⟨by omega,by omega⟩,rfl,_,rfl,?_⟩
  have hpl:=pairs_len nd h1 h2
  by_cases he:cs.length=n * n
  ·refine iteNS (by show V.int ((cs.length:Nat):Int)=V.int (((n:Nat):Int) * ((n:Nat):Int)); rw [hnn,he]) ?_
   refine ⟨s6,⟨_,_,rfl⟩,fun b hb=>?_⟩
   by_cases hbj:b < j
   ·exact hJ b hbj
   ·rw [show b=j by omega]
    exact hpl.mp he
  ·show if (!decide (V.int ((cs.length:Nat):Int)=V.int (((n:Nat):Int) * ((n:Nat):Int))))=true then _ else _
   rw [hnn,decide_eq_false (fun z=>he (by injection z with z; exact Int.ofNat.inj z))]
   refine iteT (q false _ s6 ⟨nofun,fun h=>(he (hpl.mpr (h i j hj hi))).elim⟩)
theorem prt_flat {n:Nat}:∀ {fs:List (Nat→Nat)} {i:Nat} {f:Nat→Nat},fs[i]?=some f→prt n (fs.flatMap (clsF n)) i=clsF n f
 | f::fs,0,_,h=>by
  cases h
  unfold prt
  rw [Nat.zero_mul,List.drop_zero,List.flatMap_cons,List.take_append_of_le_length (by rw [cls_len]; exact Nat.le_refl _),List.take_of_length_le (by rw [cls_len]; exact Nat.le_refl _)]
 | g::fs,i + 1,f,h=>by
  rw [List.getElem?_cons_succ] at h
  have ih:=prt_flat (n:=n) h
  unfold prt at ih ⊢
  rw [List.flatMap_cons,List.drop_append,cls_len,List.drop_of_length_le (by rw [cls_len,Nat.succ_mul]; omega),List.nil_append,show (i + 1) * n - n=i * n by rw [Nat.succ_mul]; omega]
  exact ih
def fsL (n:Nat) (sqs:List (List (List Nat))):List (Nat→Nat):=(· / n)::(· % n)::sqs.map (fS n)
theorem net_fs (n:Nat) (sqs:List (List (List Nat))):netL n sqs=(fsL n sqs).flatMap (clsF n):=by
 unfold netL fsL
 rw [List.flatMap_cons,List.flatMap_cons,List.append_assoc,List.flatMap_map]
theorem cls_mem {n:Nat} {f:Nat→Nat} {b:List Nat} (h:b∈clsF n f):∃ x,x < n∧b=(List.range (n * n)).filter fun c=>decide (f c=x):=by
 obtain ⟨x,hx,e⟩:=List.mem_map.mp h
 exact ⟨x,List.mem_range.mp hx,e.symm⟩
theorem cls_lt {n:Nat} {f:Nat→Nat}:∀ b∈clsF n f,∀ p∈b,p < n * n:=fun b hb p hp=>by
 obtain ⟨x,_,rfl⟩:=cls_mem hb
 exact List.mem_range.mp (List.mem_filter.mp hp).1
theorem cls_part {n:Nat} {f:Nat→Nat} (hf:∀ c,c < n * n→f c < n):Part (n * n) (clsF n f):=by
 refine ⟨?_,fun p hp=>?_⟩
 ·unfold List.Nodup
  rw [List.pairwise_flatten]
  refine ⟨fun b hb=>?_,?_⟩
  ·obtain ⟨x,_,rfl⟩:=cls_mem hb
   exact List.Pairwise.filter _ (List.nodup_iff_pairwise_ne.mp List.nodup_range)
  ·unfold clsF
   rw [List.pairwise_map]
   refine (List.nodup_iff_pairwise_ne.mp (List.nodup_range (n:=n))).imp fun {x y} hxy p hp q hq e=>hxy ?_
   have h1:=of_decide_eq_true (List.mem_filter.mp hp).2
   have h2:=of_decide_eq_true (List.mem_filter.mp hq).2
   rw [← h1,← h2,e]
 ·rw [List.mem_flatten]
  exact ⟨_,List.mem_map.mpr ⟨f p,List.mem_range.mpr (hf p hp),rfl⟩,List.mem_filter.mpr ⟨List.mem_range.mpr hp,decide_eq_true rfl⟩⟩
theorem cls_nm {n:Nat} {f:Nat→Nat} (hf:∀ c,c < n * n→f c < n) {p:Nat} (hp:p < n * n):nmL (clsF n f) p=f p:=by
 have hfp:=hf p hp
 refine nm_at (cls_part hf) (i:=f p) (b:=(List.range (n * n)).filter fun c=>decide (f c=f p)) ?_ (List.mem_filter.mpr ⟨List.mem_range.mpr hp,decide_eq_true rfl⟩) hp
 unfold clsF
 rw [List.getElem?_map,List.getElem?_range hfp]
 rfl
theorem cls_inj {n:Nat} {f g:Nat→Nat} (hf:∀ c,c < n * n→f c < n) (hg:∀ c,c < n * n→g c < n):Inj (n * n) (clsF n f) (clsF n g)↔∀ p q,p < n * n→q < n * n→f p=f q→g p=g q→p=q:=by
 unfold Inj
 constructor
 ·exact fun h p q hp hq e1 e2=>h p q hp hq (by rw [cls_nm hf hp,cls_nm hf hq,e1]) (by rw [cls_nm hg hp,cls_nm hg hq,e2])
 ·exact fun h p q hp hq e1 e2=>h p q hp hq (by rw [cls_nm hf hp,cls_nm hf hq] at e1; exact e1) (by rw [cls_nm hg hp,cls_nm hg hq] at e2; exact e2)
theorem fS_lt {n:Nat} {rs:List (List Nat)} (h:Sq n rs):∀ c,c < n * n→fS n rs c < n:=fun c hc=>by
 have hn:0 < n:=by
  rcases Nat.eq_zero_or_pos n with z | z
  ·subst z
   omega
  ·exact z
 have h1:c / n < rs.length:=by rw [h.1]; exact Nat.div_lt_of_lt_mul hc
 have h2:=h.2 (rs[c / n]) (List.getElem_mem h1)
 have h3:c % n < (rs[c / n]).length:=by rw [h2.1]; exact Nat.mod_lt _ hn
 unfold fS
 have e1:rs.getD (c / n) []=rs[c / n]:=by simp [h1]
 rw [e1]
 have e2:(rs[c / n]).getD (c % n) 0=(rs[c / n])[c % n]:=by simp [h3]
 rw [e2]
 exact h2.2 _ (List.getElem_mem h3)
theorem lat_row {n:Nat} {rs:List (List Nat)} (hn:0 < n) (h:Lat n rs) {p q:Nat} (hp:p < n * n) (hq:q < n * n) (e1:p / n=q / n) (e2:fS n rs p=fS n rs q):p=q:=by
 have h1:p / n < rs.length:=by rw [h.sq.1]; exact Nat.div_lt_of_lt_mul hp
 have hl:=(h.sq.2 (rs[p / n]) (List.getElem_mem h1)).1
 have nd:=h.row (rs[p / n]) (List.getElem_mem h1)
 unfold fS at e2
 rw [← e1,show rs.getD (p / n) []=rs[p / n] by simp [h1]] at e2
 have a1:p % n < (rs[p / n]).length:=by rw [hl]; exact Nat.mod_lt _ hn
 have a2:q % n < (rs[p / n]).length:=by rw [hl]; exact Nat.mod_lt _ hn
 have e3:(rs[p / n])[p % n]=(rs[p / n])[q % n]:=by
  simpa [a1,a2] using e2
 have e4:p % n=q % n:=(List.getElem_inj nd).mp e3
 rw [← Nat.div_add_mod p n,← Nat.div_add_mod q n,e1,e4]
theorem lat_col {n:Nat} {rs:List (List Nat)} (hn:0 < n) (h:Lat n rs) {p q:Nat} (hp:p < n * n) (hq:q < n * n) (e1:p % n=q % n) (e2:fS n rs p=fS n rs q):p=q:=by
 have h1:p / n < rs.length:=by rw [h.sq.1]; exact Nat.div_lt_of_lt_mul hp
 have h2:q / n < rs.length:=by rw [h.sq.1]; exact Nat.div_lt_of_lt_mul hq
 have nd:=h.col (p % n) (Nat.mod_lt _ hn)
 unfold fS at e2
 rw [← e1,show rs.getD (p / n) []=rs[p / n] by simp [h1],show rs.getD (q / n) []=rs[q / n] by simp [h2]] at e2
 have a1:p / n < (rs.map fun r=>r.getD (p % n) 0).length:=by rw [List.length_map]; exact h1
 have a2:q / n < (rs.map fun r=>r.getD (p % n) 0).length:=by rw [List.length_map]; exact h2
 have e3:(rs.map fun r=>r.getD (p % n) 0)[p / n]=(rs.map fun r=>r.getD (p % n) 0)[q / n]:=by
  rw [List.getElem_map,List.getElem_map]
  exact e2
 have e4:p / n=q / n:=(List.getElem_inj nd).mp e3
 rw [← Nat.div_add_mod p n,← Nat.div_add_mod q n,e1,e4]
theorem fs_lt {n:Nat} {sqs:List (List (List Nat))} (hn:0 < n) (h:∀ rs∈sqs,Sq n rs):∀ f∈fsL n sqs,∀ c,c < n * n→f c < n:=fun f hf c hc=>by
 unfold fsL at hf
 rcases List.mem_cons.mp hf with rfl | hf
 ·exact Nat.div_lt_of_lt_mul hc
 rcases List.mem_cons.mp hf with rfl | hf
 ·exact Nat.mod_lt _ hn
 obtain ⟨rs,hrs,rfl⟩:=List.mem_map.mp hf
 exact fS_lt (h rs hrs) c hc
theorem net_prt {n i:Nat} {sqs:List (List (List Nat))} {f:Nat→Nat} (h:(fsL n sqs)[i]?=some f):prt n (netL n sqs) i=clsF n f:=by
 rw [net_fs]
 exact prt_flat h
theorem fs_len (n:Nat) (sqs:List (List (List Nat))):(fsL n sqs).length=2 + sqs.length:=by
 unfold fsL
 rw [List.length_cons,List.length_cons,List.length_map]
 omega
theorem fs_at {n i:Nat} {sqs:List (List (List Nat))} (h:i < sqs.length):(fsL n sqs)[i + 2]?=some (fS n (sqs.getD i [])):=by
 unfold fsL
 rw [List.getElem?_cons_succ,List.getElem?_cons_succ,List.getElem?_map,List.getElem?_eq_getElem h]
 simp [h]
theorem net_back {n:Nat} {sqs:List (List (List Nat))} (hn:0 < n) (h:∀ rs∈sqs,Lat n rs):Back n (n * n) (netL n sqs) (2 + sqs.length)↔∀ i j,j < i→i < sqs.length→Ov n (sqs.getD i []) (sqs.getD j []):=by
 have hlt:=fs_lt hn fun rs hrs=>(h rs hrs).sq
 have hat:∀ i,i < 2 + sqs.length→∃ f,(fsL n sqs)[i]?=some f∧prt n (netL n sqs) i=clsF n f∧∀ c,c < n * n→f c < n:=fun i hi=>by
  have g:(fsL n sqs)[i]?=some ((fsL n sqs)[i]'(by rw [fs_len]; exact hi)):=List.getElem?_eq_getElem _
  exact ⟨_,g,net_prt g,hlt _ (List.getElem_mem _)⟩
 have hgm:∀ i,i < sqs.length→sqs.getD i []∈sqs:=fun i hi=>by
  rw [show sqs.getD i []=sqs[i] by simp [hi]]
  exact List.getElem_mem hi
 constructor
 ·intro hB i j hji hi
  have:=hB.inj (i + 2) (j + 2) (by omega) (by omega)
  rw [net_prt (fs_at hi),net_prt (fs_at (show j < sqs.length by omega)),cls_inj (fS_lt (h _ (hgm i hi)).sq) (fS_lt (h _ (hgm j (by omega))).sq)] at this
  exact this
 ·intro hO
  refine ⟨rfl,by rw [net_len,Nat.mul_comm],by omega,fun i hi=>?_,fun i j hji hi=>?_⟩
  ·obtain ⟨f,_,e,hf⟩:=hat i hi
   rw [e]
   exact cls_part hf
  ·obtain ⟨f,gf,ef,hf⟩:=hat i hi
   obtain ⟨g,gg,eg,hg⟩:=hat j (by omega)
   rw [ef,eg,cls_inj hf hg]
   intro p q hp hq e1 e2
   match j,i,hji,hi,gf,gg with
   | 0,1,_,_,gf,gg=>
    cases gf
    cases gg
    rw [← Nat.div_add_mod p n,← Nat.div_add_mod q n]
    rw [show p / n=q / n from e2,show p % n=q % n from e1]
   | 0,i + 2,_,hi,gf,gg=>
    rw [fs_at (by omega)] at gf
    cases gf
    cases gg
    exact lat_row hn (h _ (hgm i (by omega))) hp hq e2 e1
   | 1,i + 2,_,hi,gf,gg=>
    rw [fs_at (by omega)] at gf
    cases gf
    cases gg
    exact lat_col hn (h _ (hgm i (by omega))) hp hq e2 e1
   | j + 2,i + 2,hji,hi,gf,gg=>
    rw [fs_at (by omega)] at gf gg
    cases gf
    cases gg
    exact hO i j (by omega) (by omega) p q hp hq e1 e2
theorem net_same {n:Nat} {sqs:List (List (List Nat))} (hn:0 < n) (h:∀ rs∈sqs,Sq n rs):backL n (n * n) (netL n sqs) (2 + sqs.length)=sqs:=by
 have hlt:=fs_lt hn h
 have hA:∀ c,c < n * n→c / n < n:=fun c hc=>Nat.div_lt_of_lt_mul hc
 have hB:∀ c,c < n * n→c % n < n:=fun c _=>Nat.mod_lt _ hn
 have e0:prt n (netL n sqs) 0=clsF n (· / n):=net_prt rfl
 have e1:prt n (netL n sqs) 1=clsF n (· % n):=net_prt rfl
 have hI:Inj (n * n) (clsF n (· / n)) (clsF n (· % n)):=(cls_inj hA hB).mpr fun p q hp hq e1 e2=>by
  rw [← Nat.div_add_mod p n,← Nat.div_add_mod q n,e1,e2]
 have hpt:∀ c,c < n * n→ptf n (n * n) (clsF n (· / n)) (clsF n (· % n)) c=c:=fun c hc=>by
  have hk:kap n (clsF n (· / n)) (clsF n (· % n)) c=c:=by
   unfold kap
   rw [cls_nm hA hc,cls_nm hB hc,Nat.mul_comm,Nat.div_add_mod]
  have:=ptf_kap (n:=n) (cls_part hB) (cls_len n _) hI hc
  rwa [hk] at this
 unfold backL
 rw [Nat.add_sub_cancel_left]
 apply List.ext_getElem
 ·rw [List.length_map,List.length_range]
 intro j h1 h2
 rw [List.getElem_map,List.getElem_range,sqB_rows rfl]
 have hsj:=h _ (List.getElem_mem h2)
 have ej:prt n (netL n sqs) (j + 2)=clsF n (fS n sqs[j]):=by
  have:=net_prt (fs_at (n:=n) h2)
  rwa [show sqs.getD j []=sqs[j] by simp [h2]] at this
 apply List.ext_getElem
 ·rw [List.length_map,List.length_range,hsj.1]
 intro i h3 h4
 rw [List.getElem_map,List.getElem_range]
 have hin:i < n:=by rw [hsj.1] at h4; exact h4
 have hri:=(hsj.2 _ (List.getElem_mem h4)).1
 unfold rowV
 apply List.ext_getElem
 ·rw [List.length_map,List.length_range,hri]
 intro c h5 h6
 rw [List.getElem_map,List.getElem_range]
 have hcn:c < n:=by rw [hri] at h6; exact h6
 have hx:i * n + c < n * n:=by
  have:=row_le hin
  omega
 rw [e0,e1,hpt _ hx,ej,cls_nm (fS_lt hsj) hx]
 unfold fS
 obtain ⟨d1,d2⟩:=div_of (a:=i) hcn
 rw [d1,d2,show (sqs[j]).getD i []=(sqs[j])[i] by simp [h4]]
 simp [h6]
theorem cls_five {n:Nat} {f g:Nat→Nat} (hg:∀ c,c < n * n→g c < n) (hi:∀ p q,p < n * n→q < n * n→f p=f q→g p=g q→p=q) {b:List Nat} (hb:b∈clsF n f):b.length≤n:=by
 obtain ⟨x,_,rfl⟩:=cls_mem hb
 have nd:(((List.range (n * n)).filter fun c=>decide (f c=x)).map g).Nodup:=by
  rw [List.nodup_iff_pairwise_ne,List.pairwise_map]
  refine (List.Pairwise.filter _ (List.nodup_iff_pairwise_ne.mp (List.nodup_range (n:=n * n)))).imp_of_mem fun {p q} hp hq h e=>h ?_
  obtain ⟨hp1,hp2⟩:=List.mem_filter.mp hp
  obtain ⟨hq1,hq2⟩:=List.mem_filter.mp hq
  exact hi p q (List.mem_range.mp hp1) (List.mem_range.mp hq1) (by rw [of_decide_eq_true hp2,of_decide_eq_true hq2]) e
 have:=List.Nodup.length_le_of_subset nd (l₂:=List.range n) fun y hy=>by
  obtain ⟨c,hc,rfl⟩:=List.mem_map.mp hy
  exact List.mem_range.mpr (hg c (List.mem_range.mp (List.mem_filter.mp hc).1))
 rwa [List.length_map,List.length_range] at this
theorem net_bd {n:Nat} {sqs:List (List (List Nat))} (hn:1≤n) (hn5:n≤5) (hs:sqs.length≤3) (h:∀ rs∈sqs,Lat n rs):Bd (n * n) (netL n sqs):=by
 have h25:n * n≤25:=Nat.mul_le_mul hn5 hn5
 have hlt:=fs_lt hn fun rs hrs=>(h rs hrs).sq
 have hm:∀ b∈netL n sqs,∃ f∈fsL n sqs,b∈clsF n f:=fun b hb=>by
  rw [net_fs] at hb
  exact List.mem_flatMap.mp hb
 refine ⟨fun b hb=>?_,Nat.mul_le_mul hn hn,by omega,?_,fun b hb=>?_⟩
 ·obtain ⟨f,_,hbf⟩:=hm b hb
  exact cls_lt b hbf
 ·rw [net_len]
  exact Nat.le_trans (Nat.mul_le_mul hn5 (show 2 + sqs.length≤5 by omega)) (by decide)
 ·obtain ⟨f,hf,hbf⟩:=hm b hb
  have hA:∀ c,c < n * n→c / n < n:=fun c hc=>Nat.div_lt_of_lt_mul hc
  have hB:∀ c,c < n * n→c % n < n:=fun c _=>Nat.mod_lt _ hn
  refine Nat.le_trans ?_ hn5
  unfold fsL at hf
  rcases List.mem_cons.mp hf with rfl | hf
  ·exact cls_five hB (fun p q _ _ e1 e2=>by rw [← Nat.div_add_mod p n,← Nat.div_add_mod q n,e1,e2]) hbf
  rcases List.mem_cons.mp hf with rfl | hf
  ·exact cls_five hA (fun p q _ _ e1 e2=>by rw [← Nat.div_add_mod p n,← Nat.div_add_mod q n,e1,e2]) hbf
  obtain ⟨rs,hrs,rfl⟩:=List.mem_map.mp hf
  exact cls_five hA (fun p q hp hq e1 e2=>lat_row hn (h rs hrs) hp hq e2 e1) hbf
theorem passND {X:Cx} {P:Program} {w:World}:Passes (CXD P w) X E0:=fun _ _ _ _ _ _ _ q=>by
 obtain ⟨_,_,_,_,_,_,_,_,_,_,_,z⟩:=q
 exact z.elim
theorem cells_forK {K:PySem.W.Frag} {a:Addr} {ns:List Int} {H:Hp} {σ:St} {tb:TS} {D:Ends} {g:TG} (h0:σ[0]?=some (some (.ref a))) (hS:SqL K H a (ns.map V.int)) (hlen:ns.length≤63) (Sg:St→Prop) (hs0:Sg σ)
  (turn:∀ (Hq:Hp),Same H Hq→∀ (c:Int) (σ':St) (H2:Hp),Sg σ'→Same Hq H2→g (.int c) σ' H2 fun σ2 H3=>tb { D with nx:=fun σ4 H4=>Same Hq H4∧Sg σ4,ct:=fun σ4 H4=>Same Hq H4∧Sg σ4,bk:=D.nx } σ2 H3)
  (done:∀ σ' H',Same H H'→Sg σ'→D.nx σ' H') :
  tFor (iList K (tOp rCat (tLst (tCons (tCall (spCell2 K) [] E0 (tCons (tVar 0) (tCons (tC (.int 4)) tNil))) tNil)) (tSl (rSlL K) (tVar 0) (tPart (tC (.int 5))) (tPart (tC (.int 13)))))) g tb D σ H:=by
 refine ⟨_,h0,a,ns,4,rfl,hS,by decide,fun z0 H0 s0=>⟨by show 1≤sizeLine; decide,fun l hl=>?_⟩⟩
 have s1:=same_new (o:=.lst [.int z0]) hl
 refine ⟨_,h0,_,rfl,_,rfl,a,_,rfl,(s0.trans s1).seq hS,fun b hb=>?_⟩
 have s2:=s1.trans (same_new (o:=.lst (cutV (ns.map V.int) (some 5) (some 13))) hb)
 have hlb:(L2.upd (L2.upd H0 l (.lst [.int z0])) b (.lst (cutV (ns.map V.int) (some 5) (some 13)))) l=some (.lst [.int z0]):=by
  rw [upd_ne (ne_of_none upd_same hb)]
  exact upd_same
 have hcl:(cutV (ns.map V.int) (some 5) (some 13)).length≤63:=Nat.le_trans (cutV_length _ _ _) (by rw [List.length_map]; exact hlen)
 refine ⟨l,b,_,_,rfl,rfl,hlb,upd_same,Nat.le_trans (show 1 + _≤64 from by omega) (by decide),fun q hq=>?_⟩
 have s3:=s2.trans (same_new (o:=.lst ([.int z0]++cutV (ns.map V.int) (some 5) (some 13))) hq)
 refine ⟨q,rfl,⟨_,SqL.of upd_same⟩,for_list (K:=K) (a:=q) (xs:=[.int z0]++cutV (ns.map V.int) (some 5) (some 13))
  (fun i σ' H2=>Same (L2.upd (L2.upd (L2.upd H0 l (.lst [.int z0])) b (.lst (cutV (ns.map V.int) (some 5) (some 13)))) q (.lst ([.int z0]++cutV (ns.map V.int) (some 5) (some 13)))) H2∧Sg σ')
  ⟨Same.refl _,hs0⟩ (fun i σ' H2 _ ⟨s4,_⟩=>SqL.of (s4 _ _ upd_same)) ?_ ?_⟩
 ·rintro i y σ' H2 hi' ⟨s4,hsg⟩
  obtain ⟨c,rfl⟩:∃ c,y=V.int c:=by
   rcases List.mem_append.mp (List.mem_of_getElem? hi') with z | z
   ·exact ⟨z0,List.mem_singleton.mp z⟩
   ·exact cut_ints y z
  exact turn _ (s0.trans s3) c σ' H2 hsg s4
 ·rintro σ' H2 ⟨s4,hsg⟩
  exact done σ' H2 (s0.trans (s3.trans s4)) hsg
def dNet (m:Nat) (bs:List (List Nat)):PyData:=.tuple [.int ((m:Nat):Int),.tuple (bs.map dTup)]
theorem net_isD {K:PySem.W.Frag} {H:Hp} {t l:Addr} {m:Nat} {ws:List V} {bs:List (List Nat)} (ht:H t=some (.tup [.int ((m:Nat):Int),.ref l])) (hl:H l=some (.tup ws)) (hT:TpAt H ws bs):IsD K H (dNet m bs) (.ref t):=by
 simp only [dNet,IsD,IsDs]
 exact ⟨t,_,rfl,SqT.of ht,_,_,rfl,rfl,_,_,rfl,⟨l,ws,rfl,SqT.of hl,tps_isD hT⟩,rfl⟩
theorem shaped_net (m:Nat) (bs:List (List Nat)):PySem.SeqAt.shaped (dNet m bs)=true:=by
 unfold PySem.SeqAt.shaped dNet
 rw [Bool.and_eq_true]
 refine ⟨?_,decide_eq_true ?_⟩
 ·simp only [PyData.canLay0,PyData.canLayAll0,lay_tps bs,Bool.and_self]
 ·have:=depth_tps bs
  simp only [PyData.depth,PyData.depthAll]
  omega
theorem eqv_net (m:Nat) (bs:List (List Nat)):PyData.eqv (dNet m bs) (dNet m bs)=true:=by
 simp only [dNet,PyData.eqv,PyData.eqvAll,eqv_tpsA bs]
 simp
theorem scLaw:FnScope ["_law_script", "_law_squares_here", "_law_due_here", "_law_net_here", "_law_held", "_law_cell_here", "_law_bent_here"] ["_law_script"] (defScope sLaw):=⟨rfl,rfl,rfl,by decide +kernel,rfl,by decide +kernel,by decide +kernel⟩
theorem ok_law {f C:Addr} {fd:FuncData} (F:Fun K "law" "law" sLaw f fd) (T:TxtB mg) (pCell:Pm P w K mg base CX0 1 "_law_cell" ["_law_script", "_law_k"] (spCell2 K)) (pLSquares:Pm P w K mg base CX0 3 "_law_squares" ["_law_script"] (spSqs K)) (pLNet:Pm P w K mg base CX0 1 "_law_net" ["_law_squares_here"] spNet) (pNetOf:Pm P w K mg base CX0 3 "net_of" ["squares"] spNet) (pLAllOver:Pm P w K mg base CX0 1 "_law_all_over" ["_law_squares_here"] spAll) (pBack:Pm P w K mg base (CXD P w) 5 "squares_back" ["M"] (spBack C)) (pLRight:Pm P w K mg base CX0 6 "_law_right" ["_law_net_here", "_law_due_here"] spRight) (pLBent:Pm P w K mg base CX0 2 "_law_bent" ["_law_net_here", "_law_cell_here"] spBent) (pDue:Pm P w K mg base CX0 2 "_law_due" ["_law_net_here"] spDueN):FnOk P w K mg base CX0 20 f fd ["_law_script"] (spLaw K):=by
 refine F.okQ scLaw (fun vs H Q E h=>?_) (fun cdv A outer s H vs Q E hr h=>?_)
 ·obtain ⟨a,ns,rfl,_⟩:=h
  rfl
 ·obtain ⟨a,ns,rfl,hS,hlen,k⟩:=h
  have hr1:=hr.mono (show 1≤19 by decide)
  have hr2:=hr.mono (show 2≤19 by decide)
  have hr3:=hr.mono (show 3≤19 by decide)
  have hr5:=hr.mono (show 5≤19 by decide)
  have hr6:=hr.mono (show 6≤19 by decide)
  refine ⟨_,(qss_cons (qs_set (i:=1) scLaw.nd rfl (Or.inl rfl) (qe_callP pLSquares hr3 rfl pass0 (qac (qv 0) qa_nil)))
   (qss_cons (qs_set (i:=2) scLaw.nd rfl (Or.inl rfl) (qe_callP pLNet hr1 rfl pass0 (qac (qv 1) qa_nil)))
   (qss_cons (qs_set (i:=3) scLaw.nd rfl (Or.inl rfl) (qe_callP pNetOf hr3 rfl pass0 (qac (qe_callTy call_list_of (by rfl) T.lst (by decide +kernel) (qac (qv 1) qa_nil)) qa_nil)))
   (qss_cons (qs_if (QW.pt (qw_or (qt_not (qt_val (qe_callB call_isinst (by rfl) T.isi PyProof.Rows.boot_isinstance (qac (qv 3) (qac (qe_bltn (v:=.ty "tuple") rfl T.tup (by decide +kernel) rfl) qa_nil))))) (qw_or1 (qt_cmpR (op_neD hr.units) (qv 3) (qv 2) (nomark _))))) (qss_one (qs_ret qe_bl)) qss_nil)
   (qss_cons (qs_set (i:=4) scLaw.nd rfl (Or.inl rfl) qe_non)
   (qss_cons (qs_if (qt_val (qe_callP pLAllOver hr1 rfl pass0 (qac (qv 1) qa_nil))) (qss_one (qs_set (i:=4) scLaw.nd rfl (Or.inl rfl) (qe_callP pBack hr5 rfl passND (qac (qv 3) qa_nil)))) (qss_one (qs_if (qt_not (qt_val (qe_callP pLRight hr6 rfl pass0 (qac (qv 3) (qac qe_non qa_nil))))) (qss_one (qs_ret qe_bl)) qss_nil)))
   (qss_cons (qs_for PassesOwn.never rfl (qi_list (qe_op op_cat (qe_lst (qac (qe_callP pCell hr1 rfl pass0 (qac (qv 0) (qac qe_int qa_nil))) qa_nil)) (qe_slice sl_list (qv 0) (qo_some qe_int) (qo_some qe_int)))) (qg_name (i:=5) scLaw.nd rfl (Or.inl rfl))
    (qss_cons (qs_set (i:=6) scLaw.nd rfl (Or.inl rfl) (qe_callP pLBent hr2 rfl pass0 (qac (qv 3) (qac (qv 5) qa_nil))))
    (qss_one (qs_if (qt_not (qt_val (qe_callP pLRight hr6 rfl pass0 (qac (qv 6) (qac (qe_callP pDue hr2 rfl pass0 (qac (qv 6) qa_nil)) qa_nil))))) (qss_one (qs_ret qe_bl)) qss_nil))))
   (qss_cons (qs_if (qt_cmpR op_isN (qv 4) qe_non (nomark _)) (qss_one (qs_ret qe_bl)) qss_nil)
   (qss_cons (qs_if (QW.pt (qw_or (qt_not (qt_val (qe_callB call_isinst (by rfl) T.isi PyProof.Rows.boot_isinstance (qac (qv 4) (qac (qe_bltn (v:=.ty "list") rfl T.lst (by decide +kernel) rfl) qa_nil))))) (qw_or1 (qt_cmpR (op_neD hr.units) (qv 4) (qv 1) (nomark _))))) (qss_one (qs_ret qe_bl)) qss_nil)
   (qss_cons (qs_expr (qe_bm0 PySem.F.plainAttrs_list PySem.F.slot_list_clear PySem.F.type_list_clear mt_clear (qv 4)))
   (qss_one (qs_ret (qe_callP pLRight hr6 rfl pass0 (qac (qv 3) (qac (qv 1) qa_nil))))))))))))))),?_⟩
  refine ⟨_,rfl,a,ns,rfl,hS,fun l n ws sqs H1 hl0 s1 hl1 hQ1 hn1 hn5 hq1 hq3 hL=>?_⟩
  have hSq:∀ rs∈sqs,Sq n rs:=fun rs hrs=>(hL rs hrs).sq
  refine ⟨_,rfl,l,n,ws,sqs,rfl,hl1,hQ1,hn1,hn5,hq1,by omega,hSq,fun t u us H2 ht0 s2 ht2 hu2 hT2=>?_⟩
  refine ⟨_,rfl,l,ws,rfl,.inl (SqL.of (s2 _ _ hl1)),fun l2 hl2=>?_⟩
  have w1:=same_new (o:=.lst ws) hl2
  refine ⟨l2,n,ws,sqs,rfl,upd_same,(hQ1.sm s2).sm w1,hn1,hn5,hq1,by omega,hSq,fun t' u' us' H3 ht0' s3 ht3 hu3 hT3=>?_⟩
  have s23:=w1.trans s3
  refine ⟨_,rfl,_,_,_,_,rfl,.tup ht3,rel_ty (kit_tup_tup K),true,rfl,iteF ?_⟩
  refine ⟨_,rfl,_,rfl,dNet (n * n) (netL n sqs),dNet (n * n) (netL n sqs),net_isD ht3 hu3 hT3,net_isD (s23 _ _ ht2) (s23 _ _ hu2) (hT2.sm s23),shaped_net _ _,shaped_net _ _,_,rfl,?_⟩
  show if (!PyData.eqv (dNet (n * n) (netL n sqs)) (dNet (n * n) (netL n sqs)))=true then _ else _
  rw [eqv_net]
  refine iteF ?_
  have hl3:=(s2.trans s23) _ _ hl1
  have hQ3:=hQ1.sm (s2.trans s23)
  have sH3:=s1.trans (s2.trans s23)
  have hBd:=net_bd hn1 hn5 hq3 hL
  have hNet:NetAt H3 t' (n * n) (netL n sqs):=⟨⟨u',us',ht3,hu3,hT3⟩,hBd.lt,hBd.m1,by have:=hBd.m26; omega,by have:=hBd.len; omega⟩
  have hback:=net_back hn1 hL
  have hsame:=net_same hn1 hSq
  have hun:∀ {n' k'},Back n' (n * n) (netL n sqs) k'→n'=n∧k'=2 + sqs.length:=fun {n' k'} hB=>by
   have e1:=hB.sq
   have en:n'=n:=by
    rcases Nat.lt_trichotomy n' n with z | z | z
    ·have:=Nat.mul_self_lt_mul_self z
     omega
    ·exact z
    ·have:=Nat.mul_self_lt_mul_self z
     omega
   subst en
   have l1:=hB.len
   rw [net_len,Nat.mul_comm] at l1
   exact ⟨rfl,(Nat.eq_of_mul_eq_mul_right hn1 l1).symm⟩
  clear w1 hl2 ht0' hT2 hu2 ht2 ht0 s3 s23 s2 hl1 hQ1
  refine seqVia (fun σ' H'=>H3=H'∧σ'=[some (.ref a),some (.ref l),some (.ref t),some (.ref t'),none,none,none]) ?_ (fun D' go=>go _ _ ⟨rfl,rfl⟩)
  rintro _ _ ⟨rfl,rfl⟩
  refine seqVia (fun σ' H'=>H3=H'∧σ'=[some (.ref a),some (.ref l),some (.ref t),some (.ref t'),some .non,none,none]) ?_ (fun D' go=>go _ _ ⟨rfl,rfl⟩)
  rintro _ _ ⟨rfl,rfl⟩
  refine seqVia (fun σ' H'=>Same H3 H'∧∃ hd:V,σ'=[some (.ref a),some (.ref l),some (.ref t),some (.ref t'),some hd,none,none]∧(hd=.non∨∃ (g:Addr) (vs:List V),hd=.ref g∧H3 g=none∧H' g=some (.lst vs)∧SqsAt H' vs sqs∧Back n (n * n) (netL n sqs) (2 + sqs.length))) ?_ (fun D' go=>?_)
  rotate_left
  ·refine ⟨_,rfl,l,n,ws,sqs,rfl,hl3,hQ3,hn1,hn5,hq1,by omega,hSq,fun b H4 s4 hb=>⟨_,rfl,?_⟩⟩
   refine ite2 (fun hT=>?_) (fun hF=>?_)
   ·have hB:=hback.mpr (hb.mp hT)
    refine ⟨_,rfl,t',u',n * n,us',netL n sqs,rfl,s4 _ _ ht3,s4 _ _ hu3,hT3.sm s4,hNet.lt,hNet.m1,hNet.m40,hNet.len,fun n' k' hB' g vs H5 hg s5 hg5 hZ=>?_,fun h=>(h _ _ hB).elim⟩
    obtain ⟨rfl,rfl⟩:=hun hB'
    rw [hsame] at hZ
    exact go _ _ ⟨s4.trans s5,_,rfl,.inr ⟨g,vs,rfl,s4.free hg,hg5,hZ,hB⟩⟩
   ·refine ⟨_,rfl,t',.non,n * n,netL n sqs,rfl,hNet.sm s4,.inl ⟨rfl,fun n' k' hB'=>?_⟩,fun H5 s5=>⟨_,rfl,iteF ?_⟩⟩
    ·obtain ⟨rfl,rfl⟩:=hun hB'
     exact hF (hb.mpr (hback.mp hB'))
    ·exact go _ _ ⟨s4.trans s5,_,rfl,.inl rfl⟩
  rintro σ H4 ⟨s4,hd,rfl,hhd⟩
  have sH4:=sH3.trans s4
  refine seqVia (fun σ' H'=>Same H4 H'∧∃ x5 x6:Option V,σ'=[some (.ref a),some (.ref l),some (.ref t),some (.ref t'),some hd,x5,x6]) ?_ (fun D' go=>?_)
  rotate_left
  ·refine cells_forK rfl (sH4.seq hS) hlen (fun σ=>∃ x5 x6:Option V,σ=[some (.ref a),some (.ref l),some (.ref t),some (.ref t'),some hd,x5,x6]) ⟨_,_,rfl⟩ ?_ (fun σ' H' s' ⟨x5,x6,e⟩=>go _ _ ⟨s',x5,x6,e⟩)
   rintro Hq sq c σ' H5 ⟨x5,x6,rfl⟩ s5
   have s35:=s4.trans (sq.trans s5)
   refine ⟨_,rfl,_,rfl,t',u',c,n * n,us',netL n sqs,rfl,s35 _ _ ht3,s35 _ _ hu3,hT3.sm s35,hBd,Nat.mul_le_mul hn5 hn5,?_,fun tb lb mb wb bb H6 s6 htb hlb hTb hBb=>?_⟩
   ·rw [net_len]
    exact Nat.le_trans (show 3≤1 * (2 + sqs.length) by omega) (Nat.mul_le_mul_right _ hn1)
   refine ⟨_,rfl,_,rfl,tb,lb,mb,wb,bb,rfl,htb,hlb,hTb,hBb,fun v H7 s7 hv=>?_⟩
   refine ⟨tb,v,mb,bb,rfl,⟨⟨lb,wb,s7 _ _ htb,s7 _ _ hlb,hTb.sm s7⟩,hBb.lt,hBb.m1,by have:=hBb.m26; omega,by have:=hBb.len; omega⟩,hv,fun H8 s8=>⟨_,rfl,iteF ?_⟩⟩
   exact ⟨s5.trans (s6.trans (s7.trans s8)),_,_,rfl⟩
  rintro σ H5 ⟨s5,x5,x6,rfl⟩
  rcases hhd with rfl | ⟨g,vs,rfl,hg3,hg4,hZ4,hB⟩
  ·exact ⟨_,rfl,rfl,_,rfl,ifT rfl (k _)⟩
  refine ⟨_,rfl,rfl,_,rfl,ifF (fun z=>by cases z) ?_⟩
  have s35:=s4.trans s5
  refine ⟨_,rfl,_,_,_,_,rfl,.lst (s5 _ _ hg4),rel_ty (kit_lst_lst K),true,rfl,iteF ?_⟩
  refine ⟨_,rfl,_,rfl,dSqs sqs,dSqs sqs,sqs_isD (s5 _ _ hg4) (hZ4.sm s5),sqs_isD (s35 _ _ hl3) (hQ3.sm s35),shaped_sqs _,shaped_sqs _,_,rfl,?_⟩
  show if (!PyData.eqv (dSqs sqs) (dSqs sqs))=true then _ else _
  rw [eqv_sqs]
  refine iteF ?_
  refine ⟨_,rfl,.inl ⟨rfl,_,SqL.of (s5 _ _ hg4)⟩,g,vs,rfl,rfl,s5 _ _ hg4,?_⟩
  have s36:Same H3 (L2.upd H5 g (.lst [])):=same_upd s35 hg3
  refine ⟨_,rfl,_,rfl,t',.ref l,n * n,netL n sqs,rfl,hNet.sm s36,.inr ⟨l,ws,n,2 + sqs.length,rfl,s36 _ _ hl3,by rw [hsame]; exact hQ3.sm s36,hB⟩,fun H6 s6=>k _⟩
end
end E1
namespace E1
open PySem L2
theorem all_mk {l:PySem.W.OpenLaw} {w:World} {K:PySem.W.Frag} {h:Heap} {mg:Str→Option Value} {fa:Addr} (X:K.In h) (G:h.Ns mainGlobals mg) (hfa:mg "law"=some (.ref fa))
  (N:PySem.W.nsIn K mainGlobals "isinstance"=some none∧PySem.W.nsIn K mainGlobals "int"=some none∧PySem.W.nsIn K mainGlobals "bool"=some none∧PySem.W.nsIn K mainGlobals "abs"=some none∧PySem.W.nsIn K mainGlobals "len"=some none∧PySem.W.nsIn K mainGlobals "range"=some none∧PySem.W.nsIn K mainGlobals "tuple"=some none∧PySem.W.nsIn K mainGlobals "list"=some none∧PySem.W.nsIn K mainGlobals "sorted"=some none∧PySem.W.nsIn K mainGlobals "all"=some none∧PySem.W.nsIn K mainGlobals "set"=some none∧PySem.W.nsIn K mainGlobals "zip"=some none∧PySem.W.nsIn K mainGlobals "enumerate"=some none∧PySem.W.nsIn K mainGlobals "any"=some none∧PySem.W.nsIn K mainGlobals "max"=some none∧PySem.W.nsIn K mainGlobals "min"=some none∧PySem.W.nsIn K mainGlobals "str"=some none∧PySem.W.nsIn K mainGlobals "sum"=some none)
  (R:∃ M C o1 o2 o3 o4 o5 o6 o7 o8 o9 o10 o11 o12 o13:Addr,RefsD K M C o1 o2 o3 o4 o5 o6 o7 o8 o9 o10 o11 o12 o13)
  (AWhole:At K "is_whole" sWhole) (AMust:At K "must_be_whole" sMust) (AFrom:At K "must_be_from" sFrom) (ARoot:At K "root_of" sRoot) (ANetOf:At K "net_of" sNetOf) (ABlocksByNumber:At K "blocks_by_number" sBlocksByNumber) (ACellsWith:At K "cells_with" sCellsWith) (ASquaresBack:At K "squares_back" sSquaresBack) (ANumbersByClass:At K "numbers_by_class" sNumbersByClass) (AMustCross:At K "must_cross" sMustCross) (ASquareBack:At K "square_back" sSquareBack) (ACell:At K "_law_cell" sCell) (ALNumbers:At K "_law_numbers" sLNumbers) (ALOnly:At K "_law_only" sLOnly) (ALRow:At K "_law_row" sLRow) (ALSquare:At K "_law_square" sLSquare) (ALPlain:At K "_law_plain" sLPlain) (ALGood:At K "_law_good" sLGood) (ALSquares:At K "_law_squares" sLSquares) (ALNet:At K "_law_net" sLNet) (ALBent:At K "_law_bent" sLBent) (ALClasses:At K "_law_classes" sLClasses) (ADue:At K "_law_due" sDue) (ALRight:At K "_law_right" sLRight) (ALAllOver:At K "_law_all_over" sLAllOver) (ALaw:At K "law" sLaw) :
  ∃ fd:FuncData,(∀ (s:Shared) (v:Value),BindsTo s fd ⟨[v],[]⟩ [("_law_script",v)])∧∀ base:Heap,K.In base→base.Ns mainGlobals mg→FnOk l.prog w K mg base CX0 20 fa fd ["_law_script"] (spLaw K):=by
 obtain ⟨n0,n1,n2,n3,n4,n5,n6,n7,n8,n9,n10,n11,n12,n13,n14,n15,n16,n17⟩:=N
 have T:TxtB mg:=⟨PySem.W.mg_none_of X G n0,PySem.W.mg_none_of X G n1,PySem.W.mg_none_of X G n2,PySem.W.mg_none_of X G n3,PySem.W.mg_none_of X G n4,PySem.W.mg_none_of X G n5,PySem.W.mg_none_of X G n6,PySem.W.mg_none_of X G n7,PySem.W.mg_none_of X G n8,PySem.W.mg_none_of X G n9,PySem.W.mg_none_of X G n10,PySem.W.mg_none_of X G n11,PySem.W.mg_none_of X G n12,PySem.W.mg_none_of X G n13,PySem.W.mg_none_of X G n14,PySem.W.mg_none_of X G n15,PySem.W.mg_none_of X G n16,PySem.W.mg_none_of X G n17⟩
 obtain ⟨M,C,o1,o2,o3,o4,o5,o6,o7,o8,o9,o10,o11,o12,o13,R⟩:=R
 have D:=marks_of X G R
 obtain ⟨fWhole,fdWhole,aWhole,FWhole⟩:=AWhole
 obtain ⟨fMust,fdMust,aMust,FMust⟩:=AMust
 obtain ⟨fFrom,fdFrom,aFrom,FFrom⟩:=AFrom
 obtain ⟨fRoot,fdRoot,aRoot,FRoot⟩:=ARoot
 obtain ⟨fNetOf,fdNetOf,aNetOf,FNetOf⟩:=ANetOf
 obtain ⟨fBlocksByNumber,fdBlocksByNumber,aBlocksByNumber,FBlocksByNumber⟩:=ABlocksByNumber
 obtain ⟨fCellsWith,fdCellsWith,aCellsWith,FCellsWith⟩:=ACellsWith
 obtain ⟨fSquaresBack,fdSquaresBack,aSquaresBack,FSquaresBack⟩:=ASquaresBack
 obtain ⟨fNumbersByClass,fdNumbersByClass,aNumbersByClass,FNumbersByClass⟩:=ANumbersByClass
 obtain ⟨fMustCross,fdMustCross,aMustCross,FMustCross⟩:=AMustCross
 obtain ⟨fSquareBack,fdSquareBack,aSquareBack,FSquareBack⟩:=ASquareBack
 obtain ⟨fCell,fdCell,aCell,FCell⟩:=ACell
 obtain ⟨fLNumbers,fdLNumbers,aLNumbers,FLNumbers⟩:=ALNumbers
 obtain ⟨fLOnly,fdLOnly,aLOnly,FLOnly⟩:=ALOnly
 obtain ⟨fLRow,fdLRow,aLRow,FLRow⟩:=ALRow
 obtain ⟨fLSquare,fdLSquare,aLSquare,FLSquare⟩:=ALSquare
 obtain ⟨fLPlain,fdLPlain,aLPlain,FLPlain⟩:=ALPlain
 obtain ⟨fLGood,fdLGood,aLGood,FLGood⟩:=ALGood
 obtain ⟨fLSquares,fdLSquares,aLSquares,FLSquares⟩:=ALSquares
 obtain ⟨fLNet,fdLNet,aLNet,FLNet⟩:=ALNet
 obtain ⟨fLBent,fdLBent,aLBent,FLBent⟩:=ALBent
 obtain ⟨fLClasses,fdLClasses,aLClasses,FLClasses⟩:=ALClasses
 obtain ⟨fDue,fdDue,aDue,FDue⟩:=ADue
 obtain ⟨fLRight,fdLRight,aLRight,FLRight⟩:=ALRight
 obtain ⟨fLAllOver,fdLAllOver,aLAllOver,FLAllOver⟩:=ALAllOver
 obtain ⟨fLaw,fdLaw,aLaw,FLaw⟩:=ALaw
 have e:=hfa.symm.trans (PySem.W.mg_of X G aLaw)
 cases e
 have bWhole:=FWhole.binds (ps:=["thing"]) fun _ _ _ _ _ _ us hl=>match us,hl with | [_],_=>rfl
 have mWhole:=PySem.W.mg_of X G aWhole
 have bMust:=FMust.binds (ps:=["thing"]) fun _ _ _ _ _ _ us hl=>match us,hl with | [_],_=>rfl
 have mMust:=PySem.W.mg_of X G aMust
 have bFrom:=FFrom.binds (ps:=["least", "thing"]) fun _ _ _ _ _ _ us hl=>match us,hl with | [_,_],_=>rfl
 have mFrom:=PySem.W.mg_of X G aFrom
 have bRoot:=FRoot.binds (ps:=["n"]) fun _ _ _ _ _ _ us hl=>match us,hl with | [_],_=>rfl
 have mRoot:=PySem.W.mg_of X G aRoot
 have bNetOf:=FNetOf.binds (ps:=["squares"]) fun _ _ _ _ _ _ us hl=>match us,hl with | [_],_=>rfl
 have mNetOf:=PySem.W.mg_of X G aNetOf
 have bBlocksByNumber:=FBlocksByNumber.binds (ps:=["size", "numbers"]) fun _ _ _ _ _ _ us hl=>match us,hl with | [_,_],_=>rfl
 have mBlocksByNumber:=PySem.W.mg_of X G aBlocksByNumber
 have bCellsWith:=FCellsWith.binds (ps:=["numbers", "number"]) fun _ _ _ _ _ _ us hl=>match us,hl with | [_,_],_=>rfl
 have mCellsWith:=PySem.W.mg_of X G aCellsWith
 have bSquaresBack:=FSquaresBack.binds (ps:=["M"]) fun _ _ _ _ _ _ us hl=>match us,hl with | [_],_=>rfl
 have mSquaresBack:=PySem.W.mg_of X G aSquaresBack
 have bNumbersByClass:=FNumbersByClass.binds (ps:=["points", "blocks"]) fun _ _ _ _ _ _ us hl=>match us,hl with | [_,_],_=>rfl
 have mNumbersByClass:=PySem.W.mg_of X G aNumbersByClass
 have bMustCross:=FMustCross.binds (ps:=["numbers", "others"]) fun _ _ _ _ _ _ us hl=>match us,hl with | [_,_],_=>rfl
 have mMustCross:=PySem.W.mg_of X G aMustCross
 have bSquareBack:=FSquareBack.binds (ps:=["size", "numbers"]) fun _ _ _ _ _ _ us hl=>match us,hl with | [_,_],_=>rfl
 have mSquareBack:=PySem.W.mg_of X G aSquareBack
 have bCell:=FCell.binds (ps:=["_law_script", "_law_k"]) fun _ _ _ _ _ _ us hl=>match us,hl with | [_,_],_=>rfl
 have mCell:=PySem.W.mg_of X G aCell
 have bLNumbers:=FLNumbers.binds (ps:=["_law_cell_here", "_law_many"]) fun _ _ _ _ _ _ us hl=>match us,hl with | [_,_],_=>rfl
 have mLNumbers:=PySem.W.mg_of X G aLNumbers
 have bLOnly:=FLOnly.binds (ps:=["_law_e", "_law_at"]) fun _ _ _ _ _ _ us hl=>match us,hl with | [_,_],_=>rfl
 have mLOnly:=PySem.W.mg_of X G aLOnly
 have bLRow:=FLRow.binds (ps:=["_law_xs", "_law_many"]) fun _ _ _ _ _ _ us hl=>match us,hl with | [_,_],_=>rfl
 have mLRow:=PySem.W.mg_of X G aLRow
 have bLSquare:=FLSquare.binds (ps:=["_law_xs", "_law_size"]) fun _ _ _ _ _ _ us hl=>match us,hl with | [_,_],_=>rfl
 have mLSquare:=PySem.W.mg_of X G aLSquare
 have bLPlain:=FLPlain.binds (ps:=["_law_size", "_law_turn"]) fun _ _ _ _ _ _ us hl=>match us,hl with | [_,_],_=>rfl
 have mLPlain:=PySem.W.mg_of X G aLPlain
 have bLGood:=FLGood.binds (ps:=["_law_rows"]) fun _ _ _ _ _ _ us hl=>match us,hl with | [_],_=>rfl
 have mLGood:=PySem.W.mg_of X G aLGood
 have bLSquares:=FLSquares.binds (ps:=["_law_script"]) fun _ _ _ _ _ _ us hl=>match us,hl with | [_],_=>rfl
 have mLSquares:=PySem.W.mg_of X G aLSquares
 have bLNet:=FLNet.binds (ps:=["_law_squares_here"]) fun _ _ _ _ _ _ us hl=>match us,hl with | [_],_=>rfl
 have mLNet:=PySem.W.mg_of X G aLNet
 have bLBent:=FLBent.binds (ps:=["_law_net_here", "_law_cell_here"]) fun _ _ _ _ _ _ us hl=>match us,hl with | [_,_],_=>rfl
 have mLBent:=PySem.W.mg_of X G aLBent
 have bLClasses:=FLClasses.binds (ps:=["_law_many", "_law_blocks"]) fun _ _ _ _ _ _ us hl=>match us,hl with | [_,_],_=>rfl
 have mLClasses:=PySem.W.mg_of X G aLClasses
 have bDue:=FDue.binds (ps:=["_law_net_here"]) fun _ _ _ _ _ _ us hl=>match us,hl with | [_],_=>rfl
 have mDue:=PySem.W.mg_of X G aDue
 have bLRight:=FLRight.binds (ps:=["_law_net_here", "_law_due_here"]) fun _ _ _ _ _ _ us hl=>match us,hl with | [_,_],_=>rfl
 have mLRight:=PySem.W.mg_of X G aLRight
 have bLAllOver:=FLAllOver.binds (ps:=["_law_squares_here"]) fun _ _ _ _ _ _ us hl=>match us,hl with | [_],_=>rfl
 have mLAllOver:=PySem.W.mg_of X G aLAllOver
 refine ⟨fdLaw,?_,fun base _ _=>?_⟩
 ·obtain ⟨oc,od,kV,doc,pm,an,cdv,ct,osl,rfl,lk,hcd⟩:=FLaw.ex
  exact fun s v=>.of_eq rfl
 ·have pW:Pm l.prog w K mg base CX0 1 "is_whole" ["thing"] (spWhole K):=⟨fWhole,fdWhole,mWhole,FWhole.kp,bWhole,ok_whole FWhole T⟩
  have pM:Pm l.prog w K mg base CX0 2 "must_be_whole" ["thing"] spMust0:=⟨fMust,fdMust,mMust,FMust.kp,bMust,ok_must0 FMust pW⟩
  have pF:Pm l.prog w K mg base CX0 3 "must_be_from" ["least", "thing"] spFrom0:=⟨fFrom,fdFrom,mFrom,FFrom.kp,bFrom,ok_from0 FFrom pM⟩
  have pR:Pm l.prog w K mg base CX0 4 "root_of" ["n"] spRoot0:=⟨fRoot,fdRoot,mRoot,FRoot.kp,bRoot,ok_root0 FRoot pF⟩
  have pCw:Pm l.prog w K mg base CX0 1 "cells_with" ["numbers", "number"] spCw:=⟨fCellsWith,fdCellsWith,mCellsWith,FCellsWith.kp,bCellsWith,ok_cw FCellsWith T⟩
  have pBn:Pm l.prog w K mg base CX0 2 "blocks_by_number" ["size", "numbers"] spBbn:=⟨fBlocksByNumber,fdBlocksByNumber,mBlocksByNumber,FBlocksByNumber.kp,bBlocksByNumber,ok_bbn FBlocksByNumber T pCw⟩
  have pNe:Pm l.prog w K mg base CX0 3 "net_of" ["squares"] spNet:=⟨fNetOf,fdNetOf,mNetOf,FNetOf.kp,bNetOf,ok_net FNetOf T pBn⟩
  have pNc:Pm l.prog w K mg base (CXD l.prog w) 1 "numbers_by_class" ["points", "blocks"] (spNbc C):=⟨fNumbersByClass,fdNumbersByClass,mNumbersByClass,FNumbersByClass.kp,bNumbersByClass,ok_nbc FNumbersByClass T D.R.eC D.mC⟩
  have pCr:Pm l.prog w K mg base (CXD l.prog w) 1 "must_cross" ["numbers", "others"] (spCross C):=⟨fMustCross,fdMustCross,mMustCross,FMustCross.kp,bMustCross,ok_cross FMustCross T D.R.eC D.mC⟩
  have pSb:Pm l.prog w K mg base CX0 1 "square_back" ["size", "numbers"] spSB:=⟨fSquareBack,fdSquareBack,mSquareBack,FSquareBack.kp,bSquareBack,ok_sb FSquareBack T⟩
  have pBk:Pm l.prog w K mg base (CXD l.prog w) 5 "squares_back" ["M"] (spBack C):=⟨fSquaresBack,fdSquaresBack,mSquaresBack,FSquaresBack.kp,bSquaresBack,ok_back FSquaresBack T D.R.eC D.mC pR pNc pCr pSb⟩
  have pN:Pm l.prog w K mg base CX0 1 "_law_numbers" ["_law_cell_here", "_law_many"] spNums:=⟨fLNumbers,fdLNumbers,mLNumbers,FLNumbers.kp,bLNumbers,ok_numbers FLNumbers T⟩
  have pC:Pm l.prog w K mg base CX0 1 "_law_cell" ["_law_script", "_law_k"] (spCell2 K):=⟨fCell,fdCell,mCell,FCell.kp,bCell,ok_cell2 FCell T⟩
  have pOn:Pm l.prog w K mg base CX0 1 "_law_only" ["_law_e", "_law_at"] (spOnly C):=⟨fLOnly,fdLOnly,mLOnly,FLOnly.kp,bLOnly,ok_only FLOnly T D⟩
  have pRi:Pm l.prog w K mg base CX0 6 "_law_right" ["_law_net_here", "_law_due_here"] spRight:=⟨fLRight,fdLRight,mLRight,FLRight.kp,bLRight,ok_right FLRight T D pBk pOn⟩
  have pRo:Pm l.prog w K mg base CX0 1 "_law_row" ["_law_xs", "_law_many"] (spRow K):=⟨fLRow,fdLRow,mLRow,FLRow.kp,bLRow,ok_row FLRow T⟩
  have pSq:Pm l.prog w K mg base CX0 2 "_law_square" ["_law_xs", "_law_size"] (spSquare K):=⟨fLSquare,fdLSquare,mLSquare,FLSquare.kp,bLSquare,ok_square FLSquare T pRo⟩
  have pPl:Pm l.prog w K mg base CX0 1 "_law_plain" ["_law_size", "_law_turn"] spPlainS:=⟨fLPlain,fdLPlain,mLPlain,FLPlain.kp,bLPlain,ok_plain FLPlain T⟩
  have pGo:Pm l.prog w K mg base CX0 1 "_law_good" ["_law_rows"] spGood:=⟨fLGood,fdLGood,mLGood,FLGood.kp,bLGood,ok_good FLGood T⟩
  have pSs:Pm l.prog w K mg base CX0 3 "_law_squares" ["_law_script"] (spSqs K):=⟨fLSquares,fdLSquares,mLSquares,FLSquares.kp,bLSquares,ok_sqs FLSquares T pC pN pSq pPl pGo⟩
  have pLn:Pm l.prog w K mg base CX0 1 "_law_net" ["_law_squares_here"] spNet:=⟨fLNet,fdLNet,mLNet,FLNet.kp,bLNet,ok_lnet FLNet T⟩
  have pBe:Pm l.prog w K mg base CX0 2 "_law_bent" ["_law_net_here", "_law_cell_here"] spBent:=⟨fLBent,fdLBent,mLBent,FLBent.kp,bLBent,ok_bent FLBent T pN⟩
  have pCl:Pm l.prog w K mg base CX0 1 "_law_classes" ["_law_many", "_law_blocks"] spClasses:=⟨fLClasses,fdLClasses,mLClasses,FLClasses.kp,bLClasses,ok_classes FLClasses T⟩
  have pDu:Pm l.prog w K mg base CX0 2 "_law_due" ["_law_net_here"] spDueN:=⟨fDue,fdDue,mDue,FDue.kp,bDue,ok_dueN FDue T pCl⟩
  have pAl:Pm l.prog w K mg base CX0 1 "_law_all_over" ["_law_squares_here"] spAll:=⟨fLAllOver,fdLAllOver,mLAllOver,FLAllOver.kp,bLAllOver,ok_all FLAllOver T⟩
  exact ok_law FLaw T pC pSs pLn pNe pAl pBk pRi pBe pDu
end E1
def PySem.W.Fast.tw10194553450471690929:Nat:=0
def PySem.W.Fast.tw11959507649123525694:Nat:=0
def PySem.W.Fast.tw14693155096757975980:Nat:=0
def PySem.W.Fast.tw14842591852629067929:Nat:=0
def PySem.W.Fast.tw1499882970462294891:Nat:=0
def PySem.W.Fast.tw1500590515113948472:Nat:=0
def PySem.W.Fast.tw15172408545884281617:Nat:=0
def PySem.W.Fast.tw15396579613099581720:Nat:=0
def PySem.W.Fast.tw16038914119534933748:Nat:=0
def PySem.W.Fast.tw16220734379208361111:Nat:=0
def PySem.W.Fast.tw16902309174400410083:Nat:=0
def PySem.W.Fast.tw17007600841482310503:Nat:=0
def PySem.W.Fast.tw1769997122791373755:Nat:=0
def PySem.W.Fast.tw17913799260180389972:Nat:=0
def PySem.W.Fast.tw17960501465869590719:Nat:=0
def PySem.W.Fast.tw1807667700646725656:Nat:=0
def PySem.W.Fast.tw2017351015863766761:Nat:=0
def PySem.W.Fast.tw2403931533945553058:Nat:=0
def PySem.W.Fast.tw322440889123763693:Nat:=0
def PySem.W.Fast.tw3242913631065148530:Nat:=0
def PySem.W.Fast.tw3391248681784569288:Nat:=0
def PySem.W.Fast.tw3661218736517869078:Nat:=0
def PySem.W.Fast.tw4073142433645665410:Nat:=0
def PySem.W.Fast.tw4637574913988033704:Nat:=0
def PySem.W.Fast.tw5090168932464730948:Nat:=0
def PySem.W.Fast.tw5332903888915619261:Nat:=0
def PySem.W.Fast.tw664959117079041821:Nat:=0
def PySem.W.Fast.tw6706191118292575456:Nat:=0
def PySem.W.Fast.tw7027456286282607636:Nat:=0
def PySem.W.Fast.tw7148404504474117935:Nat:=0
def PySem.W.Fast.tw7509016785294728476:Nat:=0
def PySem.W.Fast.tw7553295198307679772:Nat:=0
def PySem.W.Fast.tw8036275373670835772:Nat:=0
def PySem.W.Fast.tw8490526945682660193:Nat:=0
def PySem.W.Fast.tw8954663565966287746:Nat:=0
open PySem PySem.W PyProof.Rows
set_option maxRecDepth 100000 in
set_option maxHeartbeats 0 in
theorem PySem.Challenge.cw_evenmeet_k33_nets_and_back_holds : PySem.Challenge.rw_evenmeet_k33_nets_and_back.Holds := by
 w_on; o_law; k_head; (case hw=>w_witness2)
 k_fill
 refine E1.walk (l:=PySem.Challenge.rw_evenmeet_k33_nets_and_back) (k:=20) ⟨rfl,by decide,by decide,rfl⟩ rfl rfl (fun w h Y=>PySem.W.kIn_of Y) ?F
 case F=>
  intro w mg fa h KX G hmg
  have N:PySem.W.nsIn (L2.KOf KX) mainGlobals "isinstance"=some none∧PySem.W.nsIn (L2.KOf KX) mainGlobals "int"=some none∧PySem.W.nsIn (L2.KOf KX) mainGlobals "bool"=some none∧PySem.W.nsIn (L2.KOf KX) mainGlobals "abs"=some none∧PySem.W.nsIn (L2.KOf KX) mainGlobals "len"=some none∧PySem.W.nsIn (L2.KOf KX) mainGlobals "range"=some none∧PySem.W.nsIn (L2.KOf KX) mainGlobals "tuple"=some none∧PySem.W.nsIn (L2.KOf KX) mainGlobals "list"=some none∧PySem.W.nsIn (L2.KOf KX) mainGlobals "sorted"=some none∧PySem.W.nsIn (L2.KOf KX) mainGlobals "all"=some none∧PySem.W.nsIn (L2.KOf KX) mainGlobals "set"=some none∧PySem.W.nsIn (L2.KOf KX) mainGlobals "zip"=some none∧PySem.W.nsIn (L2.KOf KX) mainGlobals "enumerate"=some none∧PySem.W.nsIn (L2.KOf KX) mainGlobals "any"=some none∧PySem.W.nsIn (L2.KOf KX) mainGlobals "max"=some none∧PySem.W.nsIn (L2.KOf KX) mainGlobals "min"=some none∧PySem.W.nsIn (L2.KOf KX) mainGlobals "str"=some none∧PySem.W.nsIn (L2.KOf KX) mainGlobals "sum"=some none:=by
   dsimp only [L2.KOf]
   refine' ⟨?z0,?z1,?z2,?z3,?z4,?z5,?z6,?z7,?z8,?z9,?z10,?z11,?z12,?z13,?z14,?z15,?z16,?z17⟩
   (case z0=>k_is)
   (case z1=>k_is)
   (case z2=>k_is)
   (case z3=>k_is)
   (case z4=>k_is)
   (case z5=>k_is)
   (case z6=>k_is)
   (case z7=>k_is)
   (case z8=>k_is)
   (case z9=>k_is)
   (case z10=>k_is)
   (case z11=>k_is)
   (case z12=>k_is)
   (case z13=>k_is)
   (case z14=>k_is)
   (case z15=>k_is)
   (case z16=>k_is)
   (case z17=>k_is)
  have AWhole:E1.At (L2.KOf KX) "is_whole" E1.sWhole:=by
   dsimp only [L2.KOf]
   refine' E1.fn_mk ?a ?l ?c ?k
   (case a=>k_is); (case l=>k_is); (case c=>k_is); (case k=>k_is)
  have AMust:E1.At (L2.KOf KX) "must_be_whole" E1.sMust:=by
   dsimp only [L2.KOf]
   refine' E1.fn_mk ?a ?l ?c ?k
   (case a=>k_is); (case l=>k_is); (case c=>k_is); (case k=>k_is)
  have AFrom:E1.At (L2.KOf KX) "must_be_from" E1.sFrom:=by
   dsimp only [L2.KOf]
   refine' E1.fn_mk ?a ?l ?c ?k
   (case a=>k_is); (case l=>k_is); (case c=>k_is); (case k=>k_is)
  have ARoot:E1.At (L2.KOf KX) "root_of" E1.sRoot:=by
   dsimp only [L2.KOf]
   refine' E1.fn_mk ?a ?l ?c ?k
   (case a=>k_is); (case l=>k_is); (case c=>k_is); (case k=>k_is)
  have ANetOf:E1.At (L2.KOf KX) "net_of" E1.sNetOf:=by
   dsimp only [L2.KOf]
   refine' E1.fn_mk ?a ?l ?c ?k
   (case a=>k_is); (case l=>k_is); (case c=>k_is); (case k=>k_is)
  have ABlocksByNumber:E1.At (L2.KOf KX) "blocks_by_number" E1.sBlocksByNumber:=by
   dsimp only [L2.KOf]
   refine' E1.fn_mk ?a ?l ?c ?k
   (case a=>k_is); (case l=>k_is); (case c=>k_is); (case k=>k_is)
  have ACellsWith:E1.At (L2.KOf KX) "cells_with" E1.sCellsWith:=by
   dsimp only [L2.KOf]
   refine' E1.fn_mk ?a ?l ?c ?k
   (case a=>k_is); (case l=>k_is); (case c=>k_is); (case k=>k_is)
  have ASquaresBack:E1.At (L2.KOf KX) "squares_back" E1.sSquaresBack:=by
   dsimp only [L2.KOf]
   refine' E1.fn_mk ?a ?l ?c ?k
   (case a=>k_is); (case l=>k_is); (case c=>k_is); (case k=>k_is)
  have ANumbersByClass:E1.At (L2.KOf KX) "numbers_by_class" E1.sNumbersByClass:=by
   dsimp only [L2.KOf]
   refine' E1.fn_mk ?a ?l ?c ?k
   (case a=>k_is); (case l=>k_is); (case c=>k_is); (case k=>k_is)
  have AMustCross:E1.At (L2.KOf KX) "must_cross" E1.sMustCross:=by
   dsimp only [L2.KOf]
   refine' E1.fn_mk ?a ?l ?c ?k
   (case a=>k_is); (case l=>k_is); (case c=>k_is); (case k=>k_is)
  have ASquareBack:E1.At (L2.KOf KX) "square_back" E1.sSquareBack:=by
   dsimp only [L2.KOf]
   refine' E1.fn_mk ?a ?l ?c ?k
   (case a=>k_is); (case l=>k_is); (case c=>k_is); (case k=>k_is)
  have ACell:E1.At (L2.KOf KX) "_law_cell" E1.sCell:=by
   dsimp only [L2.KOf]
   refine' E1.fn_mk ?a ?l ?c ?k
   (case a=>k_is); (case l=>k_is); (case c=>k_is); (case k=>k_is)
  have ALNumbers:E1.At (L2.KOf KX) "_law_numbers" E1.sLNumbers:=by
   dsimp only [L2.KOf]
   refine' E1.fn_mk ?a ?l ?c ?k
   (case a=>k_is); (case l=>k_is); (case c=>k_is); (case k=>k_is)
  have ALOnly:E1.At (L2.KOf KX) "_law_only" E1.sLOnly:=by
   dsimp only [L2.KOf]
   refine' E1.fn_mk ?a ?l ?c ?k
   (case a=>k_is); (case l=>k_is); (case c=>k_is); (case k=>k_is)
  have ALRow:E1.At (L2.KOf KX) "_law_row" E1.sLRow:=by
   dsimp only [L2.KOf]
   refine' E1.fn_mk ?a ?l ?c ?k
   (case a=>k_is); (case l=>k_is); (case c=>k_is); (case k=>k_is)
  have ALSquare:E1.At (L2.KOf KX) "_law_square" E1.sLSquare:=by
   dsimp only [L2.KOf]
   refine' E1.fn_mk ?a ?l ?c ?k
   (case a=>k_is); (case l=>k_is); (case c=>k_is); (case k=>k_is)
  have ALPlain:E1.At (L2.KOf KX) "_law_plain" E1.sLPlain:=by
   dsimp only [L2.KOf]
   refine' E1.fn_mk ?a ?l ?c ?k
   (case a=>k_is); (case l=>k_is); (case c=>k_is); (case k=>k_is)
  have ALGood:E1.At (L2.KOf KX) "_law_good" E1.sLGood:=by
   dsimp only [L2.KOf]
   refine' E1.fn_mk ?a ?l ?c ?k
   (case a=>k_is); (case l=>k_is); (case c=>k_is); (case k=>k_is)
  have ALSquares:E1.At (L2.KOf KX) "_law_squares" E1.sLSquares:=by
   dsimp only [L2.KOf]
   refine' E1.fn_mk ?a ?l ?c ?k
   (case a=>k_is); (case l=>k_is); (case c=>k_is); (case k=>k_is)
  have ALNet:E1.At (L2.KOf KX) "_law_net" E1.sLNet:=by
   dsimp only [L2.KOf]
   refine' E1.fn_mk ?a ?l ?c ?k
   (case a=>k_is); (case l=>k_is); (case c=>k_is); (case k=>k_is)
  have ALBent:E1.At (L2.KOf KX) "_law_bent" E1.sLBent:=by
   dsimp only [L2.KOf]
   refine' E1.fn_mk ?a ?l ?c ?k
   (case a=>k_is); (case l=>k_is); (case c=>k_is); (case k=>k_is)
  have ALClasses:E1.At (L2.KOf KX) "_law_classes" E1.sLClasses:=by
   dsimp only [L2.KOf]
   refine' E1.fn_mk ?a ?l ?c ?k
   (case a=>k_is); (case l=>k_is); (case c=>k_is); (case k=>k_is)
  have ADue:E1.At (L2.KOf KX) "_law_due" E1.sDue:=by
   dsimp only [L2.KOf]
   refine' E1.fn_mk ?a ?l ?c ?k
   (case a=>k_is); (case l=>k_is); (case c=>k_is); (case k=>k_is)
  have ALRight:E1.At (L2.KOf KX) "_law_right" E1.sLRight:=by
   dsimp only [L2.KOf]
   refine' E1.fn_mk ?a ?l ?c ?k
   (case a=>k_is); (case l=>k_is); (case c=>k_is); (case k=>k_is)
  have ALAllOver:E1.At (L2.KOf KX) "_law_all_over" E1.sLAllOver:=by
   dsimp only [L2.KOf]
   refine' E1.fn_mk ?a ?l ?c ?k
   (case a=>k_is); (case l=>k_is); (case c=>k_is); (case k=>k_is)
  have ALaw:E1.At (L2.KOf KX) "law" E1.sLaw:=by
   dsimp only [L2.KOf]
   refine' E1.fn_mk ?a ?l ?c ?k
   (case a=>k_is); (case l=>k_is); (case c=>k_is); (case k=>k_is)
  have R:∃ M C o1 o2 o3 o4 o5 o6 o7 o8 o9 o10 o11 o12 o13:Addr,E1.RefsD (L2.KOf KX) M C o1 o2 o3 o4 o5 o6 o7 o8 o9 o10 o11 o12 o13:=by
   dsimp only [L2.KOf]
   refine' E1.refsD_mk ?nM ?nC ?nV ?n1 ?n2 ?n3 ?n4 ?n5 ?n6 ?n7 ?n8 ?n9 ?n10 ?n11 ?n12 ?n13 ?exM ?gaM ?noM ?clM ?obM ?beM ?exC ?gaC ?noC ?clC ?obC ?beC ?gt ?tk ?sub ?kC ?kV ?kM ?q1 ?q2 ?q3 ?q4 ?q5 ?q6 ?q7 ?q8 ?q9 ?q10 ?q11 ?q12 ?q13
   (case nM=>k_is)
   (case nC=>k_is)
   (case nV=>k_is)
   (case n1=>k_is)
   (case n2=>k_is)
   (case n3=>k_is)
   (case n4=>k_is)
   (case n5=>k_is)
   (case n6=>k_is)
   (case n7=>k_is)
   (case n8=>k_is)
   (case n9=>k_is)
   (case n10=>k_is)
   (case n11=>k_is)
   (case n12=>k_is)
   (case n13=>k_is)
   (case exM=>k_exc)
   (case gaM=>k_is)
   (case noM=>k_is)
   (case clM=>k_is)
   (case obM=>k_is)
   (case beM=>k_is)
   (case exC=>k_exc)
   (case gaC=>k_is)
   (case noC=>k_is)
   (case clC=>k_is)
   (case obC=>k_is)
   (case beC=>k_is)
   (case gt=>k_is)
   (case tk=>k_is)
   (case sub=>k_is)
   (case kC=>kit_is)
   (case kV=>kit_is)
   (case kM=>kit_is)
   (case q1=>kit_is)
   (case q2=>kit_is)
   (case q3=>kit_is)
   (case q4=>kit_is)
   (case q5=>kit_is)
   (case q6=>kit_is)
   (case q7=>kit_is)
   (case q8=>kit_is)
   (case q9=>kit_is)
   (case q10=>kit_is)
   (case q11=>kit_is)
   (case q12=>kit_is)
   (case q13=>kit_is)
  exact E1.all_mk KX G hmg N  R AWhole AMust AFrom ARoot ANetOf ABlocksByNumber ACellsWith ASquaresBack ANumbersByClass AMustCross ASquareBack ACell ALNumbers ALOnly ALRow ALSquare ALPlain ALGood ALSquares ALNet ALBent ALClasses ADue ALRight ALAllOver ALaw
