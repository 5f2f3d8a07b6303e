import PyProof.Rows.All
import Wide.All
import OpenK.AllK
import Wide.FinOn
import Lean
import PyProof.EqAt
import PyProof.EqKinds
import PyProof.TupleCall
import KE.KItemsList
import KE.KMinBuiltin
import KE.KRevIter
import KE.KTryMore
import PyProof.ExcArgs
import PyProof.ExcAttrAll.ValueError
import PyProof.NsDelKeeps
import PyProof.InstStoreFacts
import PySem.Challenge.RW_tautline_k15_alike
set_option bootstrap.genMatcherCode false
set_option compiler.extract_closed false
set_option genSizeOfSpec false
set_option Elab.async false
set_option linter.all false
set_option maxRecDepth 100000
namespace L2
open PySem PySem.Spec PyProof.Rows
noncomputable abbrev Key := Sum Int Str
noncomputable def zhB : Key → Value → Bool
 | .inl k,v => Value.isInt k v
 | .inr x,v => Value.isStrOf x v
noncomputable def keyH (w : World) : Key → Int
 | .inl k => hashInt k
 | .inr x => hashStr w x
theorem z0 : ∀ {k : Key} {v : Value},zhB k v = true → (∃ i t,k = Sum.inl i ∧ v = Value.int i t) ∨ (∃ x t,k = Sum.inr x ∧ v = Value.str x t)
 | .inl i,v,h => by
   obtain ⟨t,e⟩ := Value.isInt_shape (k := i) (v := v) h
   exact .inl ⟨i,t,rfl,e⟩
 | .inr x,v,h => by
   obtain ⟨t,e⟩ := Value.isStrOf_shape (x := x) (v := v) h
   exact .inr ⟨x,t,rfl,e⟩
theorem zf0 (i : Int) (t : Tok) : zhB (.inl i) (.int i t) = true := by simp [zhB,Value.isInt]
theorem zko (a b : Int) : decide ((Sum.inl a : Key) = Sum.inl b) = (a == b) := by
 by_cases e : a = b
 ·subst e; simp
 ·have h : ¬ (Sum.inl a : Key) = Sum.inl b := fun q => e (Sum.inl.inj q)
  rw [decide_eq_false h]
  exact (beq_eq_false_iff_ne.mpr e).symm
theorem zkl (a b : Str) : decide ((Sum.inr a : Key) = Sum.inr b) = decide (a = b) := by
 by_cases e : a = b
 ·subst e; simp
 ·have h : ¬ (Sum.inr a : Key) = Sum.inr b := fun q => e (Sum.inr.inj q)
  rw [decide_eq_false h,decide_eq_false e]
theorem zkn (a : Int) (b : Str) : decide ((Sum.inl a : Key) = Sum.inr b) = false := decide_eq_false (fun q => nomatch q)
theorem zkm (a : Str) (b : Int) : decide ((Sum.inr a : Key) = Sum.inl b) = false := decide_eq_false (fun q => nomatch q)
noncomputable def ww (prog : Program) (w : World) : PySem.KeyKind prog w Key where
 is := zhB
 hash := keyH w
 inj := fun v a b ha hb => by
  rcases z0 ha with ⟨i,t,rfl,rfl⟩ | ⟨x,t,rfl,rfl⟩
  ·rcases z0 hb with ⟨j,u,rfl,e⟩ | ⟨y,u,rfl,e⟩
   ·injection e with e1 _; rw [e1]
   ·exact nomatch e
  ·rcases z0 hb with ⟨j,u,rfl,e⟩ | ⟨y,u,rfl,e⟩
   ·exact nomatch e
   ·injection e with e1 _; rw [e1]
 byValue := fun k v h => by
  rcases z0 h with ⟨i,t,rfl,rfl⟩ | ⟨x,t,rfl,rfl⟩ <;> rfl
 pyHash := fun hv h => by
  rcases z0 hv with ⟨i,t,rfl,rfl⟩ | ⟨x,t,rfl,rfl⟩
  ·exact wpAny_pyHash_int h
  ·exact wpAny_pyHash_str h
 eqBool := fun hu hv h => by
  rcases z0 hu with ⟨i,t,rfl,rfl⟩ | ⟨x,t,rfl,rfl⟩
  ·rcases z0 hv with ⟨j,u,rfl,rfl⟩ | ⟨y,u,rfl,rfl⟩
   ·rw [zko] at h; exact wpAny_eqBool_int h
   ·rw [zkn] at h; exact SeqAt.EqAt.int_str i t y u _ _ _ _ h
  ·rcases z0 hv with ⟨j,u,rfl,rfl⟩ | ⟨y,u,rfl,rfl⟩
   ·rw [zkm] at h; exact SeqAt.EqAt.str_int x t j u _ _ _ _ h
   ·rw [zkl] at h; exact wpAny_eqBool_str h
 «strs» := fun k x t v h => by
  rcases z0 h with ⟨i,u,rfl,e⟩ | ⟨y,u,rfl,e⟩
  ·exact nomatch e
  ·injection e with e1 _
   subst e1
   cases v <;> rfl
end L2
namespace L2
open PySem PySem.Spec PyProof.Rows
inductive V where
 | non | bl (b : Bool) | int (i : Int) | str (x : Str) | byt (b : Array UInt8) | flt (b : UInt64) | ref (a : Addr) | ty (n : String)
 deriving DecidableEq
noncomputable def RelV : V → Value → Prop
 | .non,u => u = Value.none
 | .bl b,u => u = Value.bool b
 | .int i,u => ∃ t,u = Value.int i t
 | .str x,u => ∃ t,u = Value.str x t
 | .byt b,u => ∃ t,u = Value.bytes b t
 | .flt b,u => ∃ t,u = Value.float b t
 | .ref a,u => u = Value.ref a
 | .ty n,u => u = Value.type n
noncomputable abbrev Vals : List V → List Value → Prop := Paired RelV
theorem Vals.length {xs : List V} {us : List Value} (r : Vals xs us) : xs.length = us.length := Paired.length r
theorem Vals.get : ∀ {xs : List V} {us : List Value} {i : Nat} {x : V},Vals xs us → xs[i]? = some x → ∃ u,us[i]? = some u ∧ RelV x u
 | _,_,_,_,.nil,e => by simp at e
 | _,_,0,_,.cons r _,e => by simp at e; subst e; exact ⟨_,rfl,r⟩
 | _,_,i + 1,x,.cons _ t,e => by
   obtain ⟨u,h1,h2⟩ := Vals.get (i := i) (x := x) t (by simpa using e)
   exact ⟨u,by simpa using h1,h2⟩
theorem Vals.append : ∀ {xs ys : List V} {us ws : List Value},Vals xs us → Vals ys ws → Vals (xs ++ ys) (us ++ ws)
 | _,_,_,_,.nil,s => s
 | _,_,_,_,.cons r t,s => .cons r (Vals.append t s)
theorem Vals.take : ∀ {xs : List V} {us : List Value} (n : Nat),Vals xs us → Vals (xs.take n) (us.take n)
 | _,_,0,_ => .nil
 | _,_,_ + 1,.nil => .nil
 | _,_,n + 1,.cons r t => .cons r (Vals.take n t)
theorem Vals.drop : ∀ {xs : List V} {us : List Value} (n : Nat),Vals xs us → Vals (xs.drop n) (us.drop n)
 | _,_,0,r => r
 | _,_,_ + 1,.nil => .nil
 | _,_,n + 1,.cons _ t => Vals.drop n t
noncomputable def RelO : Option V → Option Value → Prop
 | some v,some u => RelV v u
 | none,none => True
 | _,_ => False
noncomputable def KV {κ : Type} : List (κ × V) → List (κ × Value) → Prop := Paired fun (p : κ × V) (q : κ × Value) => p.1 = q.1 ∧ RelV p.2 q.2
noncomputable def kV : Key → V
 | .inl i => .int i
 | .inr x => .str x
inductive HO where
 | lst (xs : List V)
 | tup (xs : List V)
 | dK (kvs : List (Key × V)) | dT (kvs : List (List Key × V))
 | set (S : Int → Bool) (n : Nat)
 | ins (C dx : Addr) (fs : List (Str × V))
 | own (x : Addr)
 | xd (fs : List (Str × V))
 | met (f x : Addr)
 | rng (lo hi : Int)
 | frz (o : Obj) (u : HO)
 | tbl (ps : Array Value)
 | ext (φ : Heap → Prop)
noncomputable abbrev Hp := Addr → Option HO
noncomputable def upd (H : Hp) (a : Addr) (o : HO) : Hp := fun b => if b = a then some o else H b
theorem zC {H : Hp} {a : Addr} {o : HO} : upd H a o a = some o := by unfold upd; rw [if_pos rfl]
theorem zu {H : Hp} {a b : Addr} {o : HO} (h : b ≠ a) : upd H a o b = H b := by unfold upd; rw [if_neg h]
theorem ne_of {H : Hp} {a b : Addr} {o u : HO} (h : H a = some o) (h' : H b = some u) (d : o ≠ u) : a ≠ b := by
 intro e; subst e; rw [h] at h'; exact d (Option.some.inj h')
theorem zo {H : Hp} {a b : Addr} {o : HO} (h : H a = some o) (h' : H b = none) : a ≠ b := by
 intro e; subst e; rw [h] at h'; cases h'
section
variable (P : Program) (w : World)
noncomputable def xx (H : Hp) (h : Heap) (a : Addr) : HO → Prop
 | .lst xs => xs.length ≤ sizeLine ∧ ∃ (its : List Value) (n : Nat),Vals xs its ∧ h.get? a = some { cls := .type "list",data := .seq its.toArray n }
 | .tup xs => xs.length ≤ sizeLine ∧ ∃ its : List Value,Vals xs its ∧ IsTup h a its.toArray
 | .dK kvs => kvs.length ≤ sizeLine ∧ (a == sysModules) = false ∧ ∃ vs,KV kvs vs ∧ h.DictOf (ww P w) a vs
 | .dT kvs => kvs.length ≤ sizeLine ∧ (a == sysModules) = false ∧ ∃ xs : List (List Key × Addr × Value),
  Paired (fun (p : List Key × V) (q : List Key × Addr × Value) => p.1 = q.1 ∧ H q.2.1 = some (.tup (p.1.map kV)) ∧ RelV p.2 q.2.2) kvs xs ∧
  ∃ o es ep,h.get? a = some o ∧ o.ExactDict ∧ o.data = .dict es ep ∧ es.toList = xs.map (entryOfKey (tupleKind (ww P w))) ∧ (xs.map (·.1)).Nodup
 | .set S n => h.SetOf (intKind P w) a S n
 | .ins C dx fs => H dx = some (.own a) ∧ fs.length ≤ 1000 ∧ dx ≠ a ∧ h.get? a = some (PySem.W.instObj C dx) ∧
  ∃ mA,h.Ns1 dx mA ∧ (∀ f,RelO (fs.lookup f) (mA f)) ∧ PySem.Within mA (fs.map (·.1))
 | .own _ => ∃ o,h.get? a = some o
 | .xd fs => ∃ mA,h.Ns1 a mA ∧ ∀ f,RelO (fs.lookup f) (mA f)
 | .rng lo hi => ∃ t u v,h.get? a = some { cls := .type "range",data := .fields #[.int lo t,.int hi u,.int 1 v] }
 | .frz o u => h.get? a = some o ∧ xx H h a u
 | .tbl ps => h.get? a = some { cls := .none,data := .fields ps }
 | .met f x => h.get? a = some (PySem.W.methodObj (.ref f) (.ref x))
 | .ext φ => φ h ∧ (∃ o,h.get? a = some o) ∧ ∀ h1 h2 : Heap,φ h1 → (∀ o,h1.get? a = some o → h2.get? a = some o) → φ h2
noncomputable def HOk (H : Hp) (h : Heap) : Prop := ∀ a o,H a = some o → xx P w H h a o
end
section
variable {P : Program} {w : World} {H H' : Hp} {h h' : Heap} {a : Addr} {o : HO}
theorem xx.lt (x : xx P w H h a o) : a < h.objs.size := by
 cases o with
 | lst xs => obtain ⟨_,_,_,_,e⟩ := x; exact Heap.lt_size e
 | tup xs => obtain ⟨_,_,_,p⟩ := x; exact p.lt
 | dK kvs => obtain ⟨_,_,_,_,o,_,_,e,_⟩ := x; exact Heap.lt_size e
 | dT kvs => obtain ⟨_,_,_,_,o,_,_,e,_⟩ := x; exact Heap.lt_size e
 | set S n => obtain ⟨o,_,_,_,e,_⟩ := x; exact Heap.lt_size e
 | ins C dx fs => obtain ⟨_,_,_,e,_⟩ := x; exact Heap.lt_size e
 | own y => obtain ⟨_,e⟩ := x; exact Heap.lt_size e
 | xd fs => obtain ⟨_,⟨_,_,_,e,_⟩,_⟩ := x; exact Heap.lt_size e
 | rng lo hi => obtain ⟨_,_,_,e⟩ := x; exact Heap.lt_size e
 | frz ob u => obtain ⟨e,_⟩ := x; exact Heap.lt_size e
 | tbl ps => exact Heap.lt_size (show h.get? a = some _ from x)
 | met f y => exact Heap.lt_size (show h.get? a = some _ from x)
 | ext φ => obtain ⟨_,⟨_,e⟩,_⟩ := x; exact Heap.lt_size e
theorem Paired.mapP {α β : Type} {F G : α → β → Prop} : ∀ {l₁ : List α} {l₂ : List β},Paired F l₁ l₂ → (∀ a b,F a b → G a b) → Paired G l₁ l₂
 | _,_,.nil,_ => .nil
 | _,_,.cons r t,f => .cons (f _ _ r) (Paired.mapP t f)
theorem xx.stay (x : xx P w H h a o) (k : ∀ b u,(b = a ∨ H b = some (.own a)) → h.get? b = some u → h'.get? b = some u)
 (ho : ∀ b,H b = some (.own a) → H' b = some (.own a)) (ht : ∀ b xs,H b = some (.tup xs) → H' b = some (.tup xs)) : xx P w H' h' a o := by
 induction o with
 | lst xs => obtain ⟨z,its,n,r,e⟩ := x; exact ⟨z,its,n,r,k _ _ (.inl rfl) e⟩
 | tup xs => obtain ⟨z,its,r,ob,e,c⟩ := x; exact ⟨z,its,r,ob,k _ _ (.inl rfl) e,c⟩
 | dK kvs => obtain ⟨z,y,vs,r,ob,es,ep,e,c⟩ := x; exact ⟨z,y,vs,r,ob,es,ep,k _ _ (.inl rfl) e,c⟩
 | dT kvs =>
   obtain ⟨z,y,xs,r,ob,es,ep,e,c⟩ := x
   exact ⟨z,y,xs,Paired.mapP r fun p q z => ⟨z.1,ht _ _ z.2.1,z.2.2⟩,ob,es,ep,k _ _ (.inl rfl) e,c⟩
 | set S n => obtain ⟨ob,es,ep,t,e,c⟩ := x; exact ⟨ob,es,ep,t,k _ _ (.inl rfl) e,c⟩
 | ins C dx fs =>
   obtain ⟨d,z,ne,e,mA,⟨od,es,ep,e2,c⟩,r⟩ := x
   exact ⟨ho _ d,z,ne,k _ _ (.inl rfl) e,mA,⟨od,es,ep,k _ _ (.inr d) e2,c⟩,r⟩
 | own y => obtain ⟨ob,e⟩ := x; exact ⟨ob,k _ _ (.inl rfl) e⟩
 | xd fs => obtain ⟨mA,⟨od,es,ep,e,c⟩,r⟩ := x; exact ⟨mA,⟨od,es,ep,k _ _ (.inl rfl) e,c⟩,r⟩
 | rng lo hi => obtain ⟨t,u,v,e⟩ := x; exact ⟨t,u,v,k _ _ (.inl rfl) e⟩
 | frz ob u ih => obtain ⟨e,q⟩ := x; exact ⟨k _ _ (.inl rfl) e,ih q⟩
 | tbl ps =>
   have e : h.get? a = some { cls := .none,data := .fields ps } := x
   show h'.get? a = some { cls := .none,data := .fields ps }
   exact k a _ (.inl rfl) e
 | met f y =>
   have e : h.get? a = some (PySem.W.methodObj (.ref f) (.ref y)) := x
   show h'.get? a = some (PySem.W.methodObj (.ref f) (.ref y))
   exact k a _ (.inl rfl) e
 | ext φ => obtain ⟨p,⟨o,e⟩,st⟩ := x; exact ⟨st _ _ p fun o q => k _ _ (.inl rfl) q,⟨o,k _ _ (.inl rfl) e⟩,st⟩
theorem HOk.lt (x : HOk P w H h) (e : H a = some o) : a < h.objs.size := (x a o e).lt
theorem HOk.fresh (x : HOk P w H h) (e : h.objs.size ≤ a) : H a = none := by
 cases q : H a with
 | none => rfl
 | some u => exact absurd (Nat.lt_of_lt_of_le (x.lt q) e) (Nat.lt_irrefl _)
theorem HOk.kept (x : HOk P w H h) (k : ∀ b u,h.get? b = some u → h'.get? b = some u) : HOk P w H h' := fun a o e =>
 (x a o e).stay (fun b u _ q => k b u q) (fun _ q => q) fun _ _ q => q
theorem HOk.laid (x : HOk P w H h) (k : ∀ b u,h.get? b = some u → h'.get? b = some u) (hp : h.objs.size ≤ a) (new : xx P w (upd H a o) h' a o) : HOk P w (upd H a o) h' := fun b u e => by
 have hn := x.fresh hp
 by_cases hb : b = a
 ·subst hb; rw [zC] at e; cases e; exact new
 ·rw [zu hb] at e
  exact (x b u e).stay (fun c v _ q => k c v q) (fun c q => by rw [zu (zo q hn)]; exact q) fun c xs q => by rw [zu (zo q hn)]; exact q
end
noncomputable def Rd (H : Hp) (a : Addr) (u : HO) : Prop := H a = some u ∨ ∃ o,H a = some (.frz o u)
theorem Rd.ok {P : Program} {w : World} {H : Hp} {h : Heap} {a : Addr} {u : HO} (r : Rd H a u) (x : HOk P w H h) : xx P w H h a u := by
 rcases r with r | ⟨o,r⟩
 ·exact x a u r
 ·obtain ⟨_,q⟩ := x a _ r
  exact q
noncomputable def Mut : Option HO → Prop
 | some (.lst _) => True
 | some (.dK _) => True
 | some (.dT _) => True
 | some (.set _ _) => True
 | some (.ins _ _ _) => True
 | some (.ext _) => True
 | _ => False
section
variable {P : Program} {w : World} {H : Hp} {h h' : Heap} {x e : Addr} {o' : HO}
theorem HOk.write (ok : HOk P w H h) (mu : Mut (H x)) (he : e = x ∨ H e = some (.own x)) (k : ∀ b u,b ≠ e → h.get? b = some u → h'.get? b = some u) (heo : ∃ u,h'.get? e = some u)
 (new : xx P w (upd H x o') h' x o') : HOk P w (upd H x o') h' := fun b u q => by
 have nown : ∀ c y,H c = some (.own y) → c ≠ x := fun c y r z => by subst z; rw [r] at mu; exact mu
 have ntup : ∀ c xs,H c = some (.tup xs) → c ≠ x := fun c xs r z => by subst z; rw [r] at mu; exact mu
 by_cases hb : b = x
 ·subst hb; rw [zC] at q; cases q; exact new
 ·rw [zu hb] at q
  by_cases hbe : b = e
  ·have q' : H b = some (.own x) := by
    rcases he with z | z
    ·exact absurd (hbe.trans z) hb
    ·rw [hbe]; exact z
   rw [q] at q'; cases q'
   obtain ⟨v,hv⟩ := heo
   exact ⟨v,by rw [hbe]; exact hv⟩
  ·refine (ok b u q).stay (fun c v hc r => k c v ?_ r) (fun c r => by rw [zu (nown c b r)]; exact r) fun c xs r => by rw [zu (ntup c xs r)]; exact r
   rcases hc with rfl | hc
   ·exact hbe
   ·rintro rfl
    rcases he with z | z
    ·exact nown c b hc z
    ·rw [hc] at z; cases z; exact hb rfl
end
structure Un (fs ex : List Addr) (H H' : Hp) (h h' : Heap) : Prop where
 keep : ∀ b o,h.get? b = some o → H b = none → b ∉ fs → b ∉ ex → h'.get? b = some o
 slot : ∀ b o,h.get? b = some o → H b = none → b ∈ fs → b ∉ ex → ∃ sl,h'.get? b = some { o with slots := sl }
 free : ∀ b o,h.get? b = some o → H b = none → b ∉ ex → H' b = none
 there : ∀ b o,h.get? b = some o → b ∉ ex → ∃ o',h'.get? b = some o'
 tups : ∀ b xs,H b = some (.tup xs) → H' b = some (.tup xs)
 frzs : ∀ b o u,H b = some (.frz o u) → H' b = some (.frz o u)
 tbls : ∀ b ps,H b = some (.tbl ps) → ∃ more,H' b = some (.tbl (ps ++ more))
section
variable {fs fs' ex ex' : List Addr} {H H1 H2 : Hp} {h h1 h2 h' : Heap} {a x e : Addr} {o : HO}
theorem Un.any (u : Un fs ex H H1 h h1) {b : Addr} {ob : Obj} (q : h.get? b = some ob) (n : H b = none) (hx : b ∉ ex) : ∃ sl,h1.get? b = some { ob with slots := sl } := by
 by_cases hb : b ∈ fs
 ·exact u.slot b ob q n hb hx
 ·exact ⟨ob.slots,u.keep b ob q n hb hx⟩
theorem Un.kept (k : ∀ b u,h.get? b = some u → h'.get? b = some u) : Un fs ex H H h h' :=
 ⟨fun b ob q _ _ _ => k b ob q,fun b ob q _ _ _ => ⟨ob.slots,k b ob q⟩,fun _ _ _ n _ => n,fun b ob q _ => ⟨ob,k b ob q⟩,fun _ _ q => q,fun _ _ _ q => q,fun _ ps q => ⟨#[],by rw [q]; simp⟩⟩
theorem Un.refl : Un fs ex H H h h := Un.kept fun _ _ q => q
theorem Un.laid (k : ∀ b u,h.get? b = some u → h'.get? b = some u) (hp : h.objs.size ≤ a) (hn : H a = none) : Un fs ex H (upd H a o) h h' where
 keep := fun b u q _ _ _ => k b u q
 slot := fun b u q _ _ _ => ⟨u.slots,k b u q⟩
 free := fun b u q n _ => by rw [zu (Nat.ne_of_lt (Nat.lt_of_lt_of_le (Heap.lt_size q) hp))]; exact n
 there := fun b u q _ => ⟨u,k b u q⟩
 tups := fun b xs q => by rw [zu (zo q hn)]; exact q
 frzs := fun b u xs q => by rw [zu (zo q hn)]; exact q
 tbls := fun b ps q => ⟨#[],by rw [zu (zo q hn),q]; simp⟩
theorem Un.write (mu : Mut (H x)) (he : e = x ∨ H e = some (.own x)) (k : ∀ b u,b ≠ e → h.get? b = some u → h'.get? b = some u) (heo : ∃ u,h'.get? e = some u) : Un fs ex H (upd H x o) h h' := by
 have hx : ∀ b,H b = none → b ≠ x := fun b n z => by subst z; rw [n] at mu; exact mu
 have hb : ∀ b,H b = none → b ≠ e := fun b n z => by
  subst z
  rcases he with r | r
  ·exact hx b n r
  ·rw [n] at r; cases r
 have hm : ∀ b u,H b = some u → ¬ Mut (some u) → b ≠ x := fun b u q nm z => by subst z; rw [q] at mu; exact nm mu
 refine ⟨fun b u q n _ _ => k b u (hb b n) q,fun b u q n _ _ => ⟨u.slots,k b u (hb b n) q⟩,fun b u q n _ => by rw [zu (hx b n)]; exact n,fun b u q _ => ?_,
  fun b xs q => by rw [zu (hm b _ q fun z => z)]; exact q,fun b u xs q => by rw [zu (hm b _ q fun z => z)]; exact q,fun b ps q => ⟨#[],by rw [zu (hm b _ q fun z => z),q]; simp⟩⟩
 by_cases hbe : b = e
 ·subst hbe; exact heo
 ·exact ⟨u,k b u hbe q⟩
end
noncomputable def trk (h : Heap) (H : Hp) : List Addr := (List.range h.objs.size).filter fun a => (H a).isSome
noncomputable def hidT (h : Heap) (H : Hp) : Heap := PySem.W.hideAll h (trk h H)
theorem zf5 (h : Heap) (H : Hp) : (hidT h H).objs.size = h.objs.size := PySem.W.hideAll_size _ _
theorem zhH {h : Heap} {H : Hp} {b : Addr} {o : Obj} (e : h.get? b = some o) (n : H b = none) : (hidT h H).get? b = some o :=
 PySem.W.hideAll_get _ e fun hm => by
  have q : (H b).isSome = true := (List.mem_filter.mp hm).2
  rw [n] at q; simp at q
theorem ziZ {h : Heap} {H : Hp} {b : Addr} {o : Obj} (e : (hidT h H).get? b = some o) : h.get? b = some o ∧ H b = none := by
 have e' : h.get? b = some o := PySem.W.of_hideAll (trk h H) e
 refine ⟨e',?_⟩
 cases q : H b with
 | none => rfl
 | some x =>
   have hm : b ∈ trk h H := List.mem_filter.mpr ⟨List.mem_range.mpr (Heap.lt_size e'),by simp [q]⟩
   have z : (hidT h H).get? b = none := PySem.W.hideAll_none (trk h H) hm
   rw [z] at e; cases e
noncomputable def zjC (g h : Heap) (L : Addr) : List (Addr × Obj) := (List.range h.objs.size).filterMap fun a => if a = L ∨ (g.get? a).isSome = true then none else (h.get? a).map fun o => (a,o)
noncomputable def rest (g h : Heap) (L d : Addr) : List (Addr × Obj) := (zjC g h L).filter fun p => decide (p.1 ≠ d)
end L2
namespace L2
open PySem PySem.Spec PyProof.Rows
structure Mod (K : PySem.W.Frag) (mg : Str → Option Value) (base : Heap) : Prop where
 kin : K.In base
 glob : base.Ns mainGlobals mg
 blt : ∃ mb,base.Ns builtinsNs mb ∧ ∀ x : Str,x ≠ "__name__" → mb x = bootBuiltins x
 nolimit : base.NoLimit
structure Cx where
 prog : Program
 w : World
 K : PySem.W.Frag
 mg : Str → Option Value
 base : Heap
 A : Around
 N : List Str
 s₀ : Shared
 H₀ : Hp
 env : Env
 outer : List Env
 stack : List Env
 ex : List Addr
 fn : Str → Bool
 calm : Bool
 pn : List (Addr × Obj)
 xe : Value → Shared → Prop
noncomputable def frs (l : List Env) : List Addr := l.filterMap (·.frame)
noncomputable abbrev Cx.fs (X : Cx) : List Addr := frs X.outer
noncomputable def Vis (sc : Scope) (x : Str) : Prop := sc.names.lookup x = some .local ∨ sc.names.lookup x = some .cell ∨ sc.names.lookup x = some .free
noncomputable def Loc (sc : Scope) (x : Str) : Prop := sc.names.lookup x = some .local ∨ sc.names.lookup x = some .cell
noncomputable def Look (env : Env) (h : Heap) (m : Str → Option Value) (x : Str) (u : Value) : Prop :=
 (env.kindOf x = some .local ∧ m x = some u) ∨ ((env.kindOf x = some .cell ∨ env.kindOf x = some .free) ∧ ∃ c,env.cells.lookup x = some c ∧ h.IsCell c (some u))
structure Cx.Ok (X : Cx) : Prop where
 mod : Mod X.K X.mg X.base
 kind : X.env.scope.kind = .function
 glob : X.env.globals = mainGlobals
 blt : X.env.builtins = builtinsNs
 above : X.s₀.heap.objs.size ≤ X.env.locals
 inj : ∀ x y c,X.env.cells.lookup x = some c → X.env.cells.lookup y = some c → x = y
 has : ∀ x,(X.env.kindOf x = some .cell ∨ X.env.kindOf x = some .free) → ∃ c,X.env.cells.lookup x = some c
 cab : ∀ x c,X.fn x = true → X.env.cells.lookup x = some c → X.s₀.heap.objs.size ≤ c
 hd : X.calm = true → X.A.handled = none
 frames : X.A.frames = some X.stack
 stk : X.stack = X.outer ∨ (X.stack = X.env :: X.outer ∧ X.env.frame = some X.env.locals)
 exf : ∀ b ∈ X.ex,b ≠ X.env.locals ∧ ∀ x c,X.env.cells.lookup x = some c → c ≠ b
 bs : ∀ b o,X.base.get? b = some o → X.s₀.heap.get? b = some o ∧ X.H₀ b = none
 bsz : X.base.objs.size ≤ X.s₀.heap.objs.size
 noex : ∀ b o,X.base.get? b = some o → b ∉ X.ex
 exfs : ∀ b ∈ X.ex,b ∉ X.fs
 funs : X.s₀.heap.FunFrames X.base X.outer
 frf : ∀ b ∈ X.fs,X.H₀ b = none
structure Inv (X : Cx) (pins : List (Addr × Obj)) (σ : List (Option V)) (H : Hp) (s : Shared) : Prop where
 ok : X.Ok
 os : s.os = X.s₀.os
 bare : AllBare s.gens
 base : Un X.fs X.ex X.H₀ H X.s₀.heap s.heap
 loc : ∃ m,s.heap.Ns X.env.locals m ∧ ∀ (i : Nat) (x : Str) (v : V),X.N[i]? = some x → σ[i]? = some (some v) → Vis X.env.scope x → ∃ u,RelV v u ∧ Look X.env s.heap m x u
 cell : ∀ x c,X.env.cells.lookup x = some c → ∃ v,s.heap.IsCell c v
 free : H X.env.locals = none
 freeC : ∀ x c,X.env.cells.lookup x = some c → H c = none
 pin : ∀ p ∈ X.pn ++ pins,s.heap.get? p.1 = some p.2 ∧ H p.1 = none ∧ p.1 ≠ X.env.locals ∧ p.1 ∉ X.fs ∧ ∀ v,p.2.data ≠ .cell v
 hok : HOk X.prog X.w H s.heap
 len : σ.length = X.N.length
section
variable {X : Cx} {pins : List (Addr × Obj)} {σ : List (Option V)} {H H' : Hp} {s : Shared} {h' : Heap}
theorem Cx.Ok.nofr (ok : X.Ok) {b : Addr} {o : Obj} (e : X.base.get? b = some o) : b ∉ X.fs := fun hb => by
 have := (ok.funs.mem hb).1
 rw [e] at this; cases this
theorem Inv.bs (I : Inv X pins σ H s) : ∀ b o,X.base.get? b = some o → s.heap.get? b = some o ∧ H b = none := fun b o e =>
 ⟨I.base.keep b o (I.ok.bs b o e).1 (I.ok.bs b o e).2 (I.ok.nofr e) (I.ok.noex b o e),I.base.free b o (I.ok.bs b o e).1 (I.ok.bs b o e).2 (I.ok.noex b o e)⟩
theorem Inv.bk (I : Inv X pins σ H s) : ∀ b o,X.base.get? b = some o → s.heap.get? b = some o := fun b o e => (I.bs b o e).1
theorem Inv.mod (I : Inv X pins σ H s) : Mod X.K X.mg X.base := I.ok.mod
theorem Inv.kIn (I : Inv X pins σ H s) : X.K.In s.heap := I.ok.mod.kin.keeps I.bk
theorem Inv.lt (I : Inv X pins σ H s) : X.env.locals < s.heap.objs.size := let ⟨_,hn,_⟩ := I.loc; hn.lt
theorem Inv.sz (I : Inv X pins σ H s) : X.s₀.heap.objs.size ≤ s.heap.objs.size := Nat.le_trans I.ok.above (Nat.le_of_lt I.lt)
theorem Inv.nofs (I : Inv X pins σ H s) {a : Addr} (h : s.heap.objs.size ≤ a) : a ∉ X.fs := fun hb => by
 obtain ⟨_,o,ho,_⟩ := I.ok.funs.mem hb
 exact absurd (Nat.lt_of_lt_of_le (Heap.lt_size ho) (Nat.le_trans I.sz h)) (Nat.lt_irrefl _)
theorem Inv.cne (I : Inv X pins σ H s) : ∀ x c,X.env.cells.lookup x = some c → c ≠ X.env.locals := fun x c e z => by
 obtain ⟨v,o,ho,hd⟩ := I.cell x c e
 obtain ⟨m,⟨o',es,ep,ho',hd',_⟩,_⟩ := I.loc
 rw [z,ho'] at ho; cases ho; rw [hd'] at hd; cases hd
theorem Inv.funs (I : Inv X pins σ H s) : s.heap.FunFrames X.base X.outer := by
 have all : ∀ (l : List Env),(∀ b ∈ frs l,b ∈ X.fs) → X.s₀.heap.FunFrames X.base l → s.heap.FunFrames X.base l := by
  intro l
  induction l with
  | nil => intro _ _; trivial
  | cons env r ih =>
    intro hs hl
    obtain ⟨hk,⟨L,o,hf,hn,ho,hd⟩,hr⟩ := hl
    have hL : L ∈ X.fs := hs L (by unfold frs; rw [List.filterMap_cons,hf]; exact List.mem_cons_self)
    obtain ⟨sl,e⟩ := I.base.slot L o ho (I.ok.frf L hL) hL fun z => I.ok.exfs L z hL
    exact ⟨hk,⟨L,_,hf,hn,e,hd⟩,ih (fun b hb => hs b (by unfold frs; rw [List.filterMap_cons,hf]; exact List.mem_cons_of_mem _ hb)) hr⟩
 exact all X.outer (fun _ hb => hb) I.ok.funs
theorem Inv.stack (I : Inv X pins σ H s) : s.heap.FunFrames X.base X.stack := by
 rcases I.ok.stk with e | ⟨e,hf⟩
 ·rw [e]; exact I.funs
 ·rw [e]
  obtain ⟨m,hn,_⟩ := I.loc
  refine .cons (by rw [I.ok.kind]; decide) hf hn ?_ I.funs
  exact Heap.get?_none_of_le (Nat.le_trans I.ok.bsz I.ok.above)
theorem Inv.stkSub (I : Inv X pins σ H s) : ∀ b ∈ frs X.stack,b ∈ X.env.locals :: X.fs := fun b hb => by
 rcases I.ok.stk with e | ⟨e,hf⟩
 ·rw [e] at hb; exact List.mem_cons_of_mem _ hb
 ·rw [e] at hb
  unfold frs at hb
  rw [List.filterMap_cons,hf] at hb
  exact hb
theorem Inv.stkFree (I : Inv X pins σ H s) : ∀ b ∈ frs X.stack,H b = none := fun b hb => by
 rcases List.mem_cons.mp (I.stkSub b hb) with e | hb
 ·rw [e]; exact I.free
 ·obtain ⟨_,o,ho,_⟩ := I.ok.funs.mem hb
  exact I.base.free b o ho (I.ok.frf b hb) fun z => I.ok.exfs b z hb
theorem Inv.step {g' : Array GenState} {t' : Nat} {d' : Drawn} {ch : List Addr} (I : Inv X pins σ H s)
 (hch : ∀ b ∈ ch,(b ∈ X.ex ∨ X.s₀.heap.objs.size ≤ b) ∧ b ≠ X.env.locals ∧ (∀ x c,X.env.cells.lookup x = some c → c ≠ b) ∧ ∀ p ∈ X.pn ++ pins,p.1 ≠ b)
 (keep : ∀ b o,b ≠ X.env.locals → b ∉ X.fs → b ∉ ch → s.heap.get? b = some o → H b = none → h'.get? b = some o)
 (slot : ∀ b o,b ≠ X.env.locals → b ∈ X.fs → b ∉ ch → s.heap.get? b = some o → H b = none → ∃ sl,h'.get? b = some { o with slots := sl }) (free : ∀ b o,b ∉ ch → s.heap.get? b = some o → H b = none → H' b = none)
 (there : ∀ b o,b ∉ ch → s.heap.get? b = some o → ∃ o',h'.get? b = some o')
 (tups : ∀ b xs,H b = some (.tup xs) → H' b = some (.tup xs)) (frzs : ∀ b o u,H b = some (.frz o u) → H' b = some (.frz o u)) (tbls : ∀ b ps,H b = some (.tbl ps) → ∃ more,H' b = some (.tbl (ps ++ more)))
 (ns : ∀ m,s.heap.Ns X.env.locals m → h'.Ns X.env.locals m) (hok : HOk X.prog X.w H' h') (hg : AllBare g') :
 Inv X pins σ H' { s with heap := h',gens := g',drawn := d',toks := t' } := by
 have neL : ∀ b o,X.s₀.heap.get? b = some o → b ≠ X.env.locals := fun b o e => Nat.ne_of_lt (Nat.lt_of_lt_of_le (Heap.lt_size e) I.ok.above)
 have neC : ∀ b o,X.s₀.heap.get? b = some o → b ∉ X.ex → b ∉ ch := fun b o e hx hb => by
  rcases (hch b hb).1 with z | z
  ·exact hx z
  ·exact absurd (Nat.lt_of_lt_of_le (Heap.lt_size e) z) (Nat.lt_irrefl _)
 have tR : ∀ x c,X.env.cells.lookup x = some c → ∀ v,s.heap.IsCell c v → h'.IsCell c v := fun x c e v ⟨o,ho,hd⟩ => by
  have nch : c ∉ ch := fun z => (hch c z).2.2.1 x c e rfl
  by_cases hc : c ∈ X.fs
  ·obtain ⟨sl,q⟩ := slot c o (I.cne x c e) hc nch ho (I.freeC x c e)
   exact ⟨_,q,hd⟩
  ·exact ⟨o,keep c o (I.cne x c e) hc nch ho (I.freeC x c e),hd⟩
 refine ⟨I.ok,I.os,hg,⟨fun b o e n hb hx => ?_,fun b o e n hb hx => ?_,fun b o e n hx => ?_,fun b o e hx => ?_,fun b xs e => tups b xs (I.base.tups b xs e),fun b o xs e => frzs b o xs (I.base.frzs b o xs e),fun b ps e => ?_⟩,?_,fun x c e => ?_,?_,fun x c e => ?_,fun p hp => ?_,hok,I.len⟩
 ·exact keep b o (neL b o e) hb (neC b o e hx) (I.base.keep b o e n hb hx) (I.base.free b o e n hx)
 ·obtain ⟨sl,e1⟩ := I.base.slot b o e n hb hx
  obtain ⟨sl',e2⟩ := slot b _ (neL b o e) hb (neC b o e hx) e1 (I.base.free b o e n hx)
  exact ⟨sl',e2⟩
 ·obtain ⟨o',e1⟩ := I.base.there b o e hx
  exact free b o' (neC b o e hx) e1 (I.base.free b o e n hx)
 ·obtain ⟨o',e1⟩ := I.base.there b o e hx
  exact there b o' (neC b o e hx) e1
 ·obtain ⟨m1,e1⟩ := I.base.tbls b ps e
  obtain ⟨m2,e2⟩ := tbls b _ e1
  exact ⟨m1 ++ m2,by rw [e2,Array.append_assoc]⟩
 ·obtain ⟨m,hn,hl⟩ := I.loc
  refine ⟨m,ns m hn,fun i x v e1 e2 e3 => ?_⟩
  obtain ⟨u,r,l⟩ := hl i x v e1 e2 e3
  refine ⟨u,r,?_⟩
  rcases l with l | ⟨k,c,e,z⟩
  ·exact .inl l
  ·exact .inr ⟨k,c,e,tR x c e _ z⟩
 ·obtain ⟨v,z⟩ := I.cell x c e
  exact ⟨v,tR x c e v z⟩
 ·obtain ⟨m,⟨o,_,_,ho,_⟩,_⟩ := I.loc
  exact free _ o (fun z => (hch _ z).2.1 rfl) ho I.free
 ·obtain ⟨v,o,ho,hd⟩ := I.cell x c e
  exact free c o (fun z => (hch c z).2.2.1 x c e rfl) ho (I.freeC x c e)
 ·obtain ⟨e,n,ne,nf,d⟩ := I.pin p hp
  have nch : p.1 ∉ ch := fun z => (hch p.1 z).2.2.2 p hp rfl
  exact ⟨keep p.1 p.2 ne nf nch e n,free p.1 p.2 nch e n,ne,nf,d⟩
theorem Inv.un {t' : Nat} (I : Inv X pins σ H s) (u : Un X.fs [] H H' s.heap h') (hok : HOk X.prog X.w H' h') : Inv X pins σ H' { s with heap := h',toks := t' } := by
 obtain ⟨m,⟨o,es,ep,ho,r⟩,_⟩ := id I.loc
 obtain ⟨sl,hL⟩ := u.any ho I.free (by simp)
 exact I.step (g' := s.gens) (d' := s.drawn) (ch := []) (fun _ z => nomatch z) (fun b o _ hb _ e n => u.keep b o e n hb (by simp)) (fun b o _ hb _ e n => u.slot b o e n hb (by simp)) (fun b o _ e n => u.free b o e n (by simp)) (fun b o _ e => u.there b o e (by simp)) u.tups u.frzs u.tbls (fun m' hm => by
  obtain ⟨o',es',ep',ho',r'⟩ := hm
  rw [ho] at ho'; cases ho'
  exact ⟨_,es',ep',hL,r'⟩) hok I.bare
theorem Inv.call {g' : Array GenState} {t' : Nat} {d' : Drawn} {ch : List Addr} (I : Inv X pins σ H s) (u : Un (frs X.stack) ch H H' s.heap h') (hok : HOk X.prog X.w H' h') (hg : AllBare g')
 (hch : ∀ b ∈ ch,(b ∈ X.ex ∨ X.s₀.heap.objs.size ≤ b) ∧ b ≠ X.env.locals ∧ (∀ x c,X.env.cells.lookup x = some c → c ≠ b) ∧ ∀ p ∈ X.pn ++ pins,p.1 ≠ b) :
 Inv X pins σ H' { s with heap := h',gens := g',drawn := d',toks := t' } := by
 obtain ⟨m,⟨o,es,ep,ho,r⟩,_⟩ := id I.loc
 obtain ⟨sl,hL⟩ := u.any ho I.free fun z => (hch _ z).2.1 rfl
 exact I.step (ch := ch) hch (fun b o hL hb hc e n => u.keep b o e n (fun z => (List.mem_cons.mp (I.stkSub b z)).elim hL hb) hc) (fun b o _ _ hc e n => u.any e n hc) (fun b o hc e n => u.free b o e n hc) (fun b o hc e => u.there b o e hc) u.tups u.frzs u.tbls (fun m' hm => by
  obtain ⟨o',es',ep',ho',r'⟩ := hm
  rw [ho] at ho'; cases ho'
  exact ⟨_,es',ep',hL,r'⟩) hok hg
theorem Inv.turned {t' : Nat} {it : Addr} (I : Inv X pins σ H s) (k : ∀ b o,b ≠ it → s.heap.get? b = some o → h'.get? b = some o) (hn : H it = none) (hL : it ≠ X.env.locals)
 (h1 : it ∈ X.ex ∨ X.s₀.heap.objs.size ≤ it) (h2 : ∀ x c,X.env.cells.lookup x = some c → c ≠ it) (h3 : ∀ p ∈ X.pn ++ pins,p.1 ≠ it) : Inv X pins σ H { s with heap := h',toks := t' } := by
 have nit : ∀ b u,H b = some u → b ≠ it := fun b u e z => by rw [z,hn] at e; cases e
 refine I.step (g' := s.gens) (d' := s.drawn) (ch := [it]) (fun b hb => ?_) (fun b o _ _ hc e _ => k b o (fun z => hc (by simp [z])) e) (fun b o _ _ hc e _ => ⟨o.slots,k b o (fun z => hc (by simp [z])) e⟩) (fun _ _ _ _ n => n)
  (fun b o hc e => ⟨o,k b o (fun z => hc (by simp [z])) e⟩) (fun _ _ e => e) (fun _ _ _ e => e) (fun b ps e => ⟨#[],by rw [e]; simp⟩) (fun m hm => ?_) (fun b u e => ?_) I.bare
 ·have e : b = it := by simpa using hb
  subst e
  exact ⟨h1,hL,h2,h3⟩
 ·obtain ⟨o,es,ep,ho,r⟩ := hm
  exact ⟨o,es,ep,k _ o (Ne.symm hL) ho,r⟩
 ·refine (I.hok b u e).stay (fun c v hc q => k c v ?_ q) (fun _ q => q) fun _ _ q => q
  rcases hc with z | z
  ·rw [z]; exact nit b u e
  ·exact nit c _ z
theorem Inv.tok (I : Inv X pins σ H s) (t : Nat) : Inv X pins σ H { s with toks := t } := I.un (h' := s.heap) (t' := t) Un.refl I.hok
theorem Inv.kept {t' : Nat} (I : Inv X pins σ H s) (k : ∀ b u,s.heap.get? b = some u → h'.get? b = some u) : Inv X pins σ H { s with heap := h',toks := t' } := I.un (Un.kept k) (I.hok.kept k)
theorem Inv.laid {a : Addr} {o : HO} {t' : Nat} (I : Inv X pins σ H s) (k : ∀ b u,s.heap.get? b = some u → h'.get? b = some u) (hp : s.heap.objs.size ≤ a) (new : xx X.prog X.w (upd H a o) h' a o) :
 Inv X pins σ (upd H a o) { s with heap := h',toks := t' } := I.un (Un.laid k hp (I.hok.fresh hp)) (I.hok.laid k hp new)
theorem Inv.write {x e : Addr} {o : HO} {t' : Nat} (I : Inv X pins σ H s) (mu : Mut (H x)) (he : e = x ∨ H e = some (.own x)) (k : ∀ b u,b ≠ e → s.heap.get? b = some u → h'.get? b = some u) (heo : ∃ u,h'.get? e = some u)
 (new : xx X.prog X.w (upd H x o) h' x o) : Inv X pins σ (upd H x o) { s with heap := h',toks := t' } := I.un (Un.write mu he k heo) (I.hok.write mu he k heo new)
theorem Inv.pins_of {pins' : List (Addr × Obj)} (I : Inv X pins σ H s) (h : ∀ p ∈ pins',s.heap.get? p.1 = some p.2 ∧ H p.1 = none ∧ p.1 ≠ X.env.locals ∧ p.1 ∉ X.fs ∧ ∀ v,p.2.data ≠ .cell v) : Inv X pins' σ H s :=
 ⟨I.ok,I.os,I.bare,I.base,I.loc,I.cell,I.free,I.freeC,fun p hp => (List.mem_append.mp hp).elim (fun z => I.pin p (List.mem_append_left _ z)) (h p),I.hok,I.len⟩
theorem zdS {N : List Str} (hN : N.Nodup) {i j : Nat} {x : Str} (a : N[i]? = some x) (b : N[j]? = some x) : i = j := by
 obtain ⟨h1,e1⟩ := List.getElem?_eq_some_iff.mp a
 obtain ⟨h2,e2⟩ := List.getElem?_eq_some_iff.mp b
 exact (List.getElem_inj hN).mp (e1.trans e2.symm)
theorem zbt {M : Model} {A : Around} {E : Value → Shared → Prop} {i : Nat} {x : Str} {v : V} {u : Value} {Q : Unit → Shared → Prop} (I : Inv X pins σ H s) (hN : X.N.Nodup) (hi : X.N[i]? = some x) (hx : Loc X.env.scope x) (r : RelV v u)
 (h : ∀ s',Inv X pins (σ.set i (some v)) H s' → (∃ a,Heap.SameBut a s.heap s'.heap ∧ (a = X.env.locals ∨ X.env.cells.lookup x = some a)) → Q () s') (hf : X.fn x = true ∨ X.env.scope.names.lookup x = some .local := by first | exact .inl rfl | exact .inr rfl | assumption) : wpAny M A (storeName X.env x u) Q E s := by
 obtain ⟨m,hn,hl⟩ := id I.loc
 have hcls : (X.env.scope.kind == .class || (X.env.scope.kind == .module && X.env.locals != X.env.globals)) = false := by rw [I.ok.kind]; rfl
 have hiσ : i < σ.length := by rw [I.len]; exact (List.getElem?_eq_some_iff.mp hi).1
 have cne := I.cne
 have tracked : ∀ {a : Addr} {h' : Heap},(∃ o,s.heap.get? a = some o ∧ H a = none) → Heap.SameBut a s.heap h' → HOk X.prog X.w H h' := fun {a h'} ha hs b ob e => by
  obtain ⟨_,_,hfree⟩ := ha
  refine (I.hok b ob e).stay (fun c w' hc q => (hs.2 c ?_).trans q) (fun _ q => q) fun _ _ q => q
  rintro rfl
  rcases hc with rfl | hc
  ·rw [hfree] at e; cases e
  ·rw [hfree] at hc; cases hc
 rcases hx with hk | hk
 ·refine wpAny_storeName_local hk hn (fun h' hn' hs => ?_) hcls
  obtain ⟨oL,_,_,hoL,_⟩ := id hn
  refine h _ ⟨I.ok,I.os,I.bare,⟨fun b o e n hb hx => ?_,fun b o e n hb hx => ?_,I.base.free,fun b o e hx => ?_,I.base.tups,I.base.frzs,I.base.tbls⟩,⟨_,hn',fun j y v' e1 e2 e3 => ?_⟩,fun y c e => ?_,I.free,I.freeC,fun p hp => ?_,tracked ⟨oL,hoL,I.free⟩ hs,by simpa using I.len⟩ ⟨_,hs,.inl rfl⟩
  ·exact (hs.2 b (Nat.ne_of_lt (Nat.lt_of_lt_of_le (Heap.lt_size e) I.ok.above))).trans (I.base.keep b o e n hb hx)
  ·obtain ⟨sl,e1⟩ := I.base.slot b o e n hb hx
   exact ⟨sl,(hs.2 b (Nat.ne_of_lt (Nat.lt_of_lt_of_le (Heap.lt_size e) I.ok.above))).trans e1⟩
  ·obtain ⟨o',e1⟩ := I.base.there b o e hx
   exact ⟨o',(hs.2 b (Nat.ne_of_lt (Nat.lt_of_lt_of_le (Heap.lt_size e) I.ok.above))).trans e1⟩
  ·by_cases hj : j = i
   ·subst hj
    rw [hi] at e1; cases e1
    rw [List.getElem?_set_self hiσ] at e2
    cases e2
    exact ⟨u,r,.inl ⟨hk,by simp⟩⟩
   ·rw [List.getElem?_set_ne (Ne.symm hj)] at e2
    obtain ⟨u',r',q⟩ := hl j y v' e1 e2 e3
    refine ⟨u',r',?_⟩
    rcases q with ⟨k,e⟩ | ⟨k,c,e,z⟩
    ·refine .inl ⟨k,?_⟩
     have : y ≠ x := fun e => hj (zdS hN e1 (e ▸ hi))
     simp [this,e]
    ·exact .inr ⟨k,c,e,z.sameBut hs (cne y c e)⟩
  ·obtain ⟨w',z⟩ := I.cell y c e
   exact ⟨w',z.sameBut hs (cne y c e)⟩
  ·obtain ⟨e,n,ne,nf,d⟩ := I.pin p hp
   exact ⟨(hs.2 p.1 ne).trans e,n,ne,nf,d⟩
 ·have hfn : X.fn x = true := by
   rcases hf with z | z
   ·exact z
   ·rw [z] at hk; cases hk
  obtain ⟨c,hc⟩ := I.ok.has x (.inl hk)
  obtain ⟨w',z⟩ := I.cell x c hc
  refine wpAny_storeName_cell I.ok.kind hk hc z (fun h' hc' hs => ?_)
  obtain ⟨oc,hoc,hocd⟩ := id z
  refine h { s with heap := h' } ⟨I.ok,I.os,I.bare,⟨fun b o e n hb hx => ?_,fun b o e n hb hx => ?_,I.base.free,fun b o e hx => ?_,I.base.tups,I.base.frzs,I.base.tbls⟩,⟨m,hn.sameBut hs (Ne.symm (cne x c hc)),fun j y v' e1 e2 e3 => ?_⟩,fun y c' e => ?_,I.free,I.freeC,fun p hp => ?_,tracked ⟨oc,hoc,I.freeC x c hc⟩ hs,by simpa using I.len⟩ ⟨c,hs,.inr hc⟩
  ·exact (hs.2 b (Nat.ne_of_lt (Nat.lt_of_lt_of_le (Heap.lt_size e) (I.ok.cab x c hfn hc)))).trans (I.base.keep b o e n hb hx)
  ·obtain ⟨sl,e1⟩ := I.base.slot b o e n hb hx
   exact ⟨sl,(hs.2 b (Nat.ne_of_lt (Nat.lt_of_lt_of_le (Heap.lt_size e) (I.ok.cab x c hfn hc)))).trans e1⟩
  ·obtain ⟨o',e1⟩ := I.base.there b o e hx
   exact ⟨o',(hs.2 b (Nat.ne_of_lt (Nat.lt_of_lt_of_le (Heap.lt_size e) (I.ok.cab x c hfn hc)))).trans e1⟩
  ·by_cases hj : j = i
   ·subst hj
    rw [hi] at e1; cases e1
    rw [List.getElem?_set_self hiσ] at e2
    cases e2
    exact ⟨u,r,.inr ⟨.inl hk,c,hc,hc'⟩⟩
   ·rw [List.getElem?_set_ne (Ne.symm hj)] at e2
    obtain ⟨u',r',q⟩ := hl j y v' e1 e2 e3
    refine ⟨u',r',?_⟩
    rcases q with q | ⟨k,c',e,z'⟩
    ·exact .inl q
    ·refine .inr ⟨k,c',e,z'.sameBut hs ?_⟩
     rintro rfl
     exact hj (zdS hN e1 (I.ok.inj _ _ _ e hc ▸ hi))
  ·by_cases hcc : c' = c
   ·subst hcc; exact ⟨_,hc'⟩
   ·obtain ⟨w2,z2⟩ := I.cell y c' e
    exact ⟨w2,z2.sameBut hs hcc⟩
  ·obtain ⟨e,n,ne,nf,d⟩ := I.pin p hp
   refine ⟨(hs.2 p.1 ?_).trans e,n,ne,nf,d⟩
   intro q
   rw [q,hoc] at e
   have q' : oc = p.2 := Option.some.inj e
   exact d w' (by rw [← q']; exact hocd)
theorem zdz {M : Model} {A : Around} {E : Value → Shared → Prop} {i : Nat} {x : Str} {v : V} {u : Value} {Q : Unit → Shared → Prop} (I : Inv X pins σ H s) (hN : X.N.Nodup) (hi : X.N[i]? = some x) (hx : Loc X.env.scope x) (r : RelV v u)
 (h : ∀ s',Inv X pins (σ.set i (some v)) H s' → Q () s') (hf : X.fn x = true ∨ X.env.scope.names.lookup x = some .local := by first | exact .inl rfl | exact .inr rfl | assumption) : wpAny M A (storeName X.env x u) Q E s :=
 zbt I hN hi hx r (fun s' I' _ => h s' I') hf
theorem Inv.call' {s' : Shared} {ch : List Addr} (I : Inv X pins σ H s) (ho : s'.os = s.os) (u : Un (frs X.stack) ch H H' s.heap s'.heap) (hok : HOk X.prog X.w H' s'.heap) (hg : AllBare s'.gens)
 (hch : ∀ b ∈ ch,(b ∈ X.ex ∨ X.s₀.heap.objs.size ≤ b) ∧ b ≠ X.env.locals ∧ (∀ x c,X.env.cells.lookup x = some c → c ≠ b) ∧ ∀ p ∈ X.pn ++ pins,p.1 ≠ b) : Inv X pins σ H' s' := by
 obtain ⟨h',g',d',t',o'⟩ := s'
 have e : o' = s.os := ho
 subst e
 exact I.call (g' := g') (t' := t') (d' := d') u hok hg hch
end
noncomputable abbrev XK := Value → Option Addr → Hp → Prop
noncomputable abbrev St := List (Option V)
noncomputable abbrev VK := V → Hp → Prop
noncomputable abbrev TE := St → Hp → VK → Prop
noncomputable abbrev TT := St → Hp → (Bool → Hp → Prop) → Prop
noncomputable abbrev TA := St → Hp → (List V → Hp → Prop) → Prop
structure Ends where
 nx : St → Hp → Prop
 rt : VK
 bk : St → Hp → Prop := fun _ _ => False
 ct : St → Hp → Prop := fun _ _ => False
noncomputable abbrev TS := Ends → St → Hp → Prop
noncomputable def EP (X : Cx) (pins : List (Addr × Obj)) (σ : St) (Q : VK) (u : Value) (s' : Shared) : Prop := ∃ v H',Inv X pins σ H' s' ∧ RelV v u ∧ Q v H'
noncomputable def TP (X : Cx) (pins : List (Addr × Obj)) (σ : St) (Q : Bool → Hp → Prop) (b : Bool) (s' : Shared) : Prop := ∃ H',Inv X pins σ H' s' ∧ Q b H'
noncomputable def AP (X : Cx) (pins : List (Addr × Obj)) (σ : St) (Q : List V → Hp → Prop) (us : List Value) (s' : Shared) : Prop := ∃ vs H',Inv X pins σ H' s' ∧ Vals vs us ∧ Q vs H'
noncomputable def SP (X : Cx) (pins : List (Addr × Obj)) (D : Ends) (f : Flow) (s' : Shared) : Prop :=
 match f with
 | .next => ∃ σ' H',Inv X pins σ' H' s' ∧ D.nx σ' H'
 | .brk => ∃ σ' H',Inv X pins σ' H' s' ∧ D.bk σ' H'
 | .cont => ∃ σ' H',Inv X pins σ' H' s' ∧ D.ct σ' H'
 | .ret u => ∃ v σ' H',Inv X pins σ' H' s' ∧ RelV v u ∧ D.rt v H'
noncomputable def PE (X : Cx) (e : Expr) (t : TE) : Prop :=
 ∀ (pins : List (Addr × Obj)) (s : Shared) (σ : St) (H : Hp) (Q : VK),Inv X pins σ H s → t σ H Q → wpAny (model X.prog X.w) X.A (eval e X.env) (EP X pins σ Q) X.xe s
noncomputable def PT (X : Cx) (e : Expr) (t : TT) : Prop :=
 ∀ (pins : List (Addr × Obj)) (s : Shared) (σ : St) (H : Hp) (Q : Bool → Hp → Prop),Inv X pins σ H s → t σ H Q → wpAny (model X.prog X.w) X.A (isTrue e X.env (eval e X.env)) (TP X pins σ Q) X.xe s
noncomputable def PW (X : Cx) (e : Expr) (t : TT) : Prop :=
 ∀ (whole : Sem Value) (pins : List (Addr × Obj)) (s : Shared) (σ : St) (H : Hp) (Q : Bool → Hp → Prop),Inv X pins σ H s → t σ H Q → wpAny (model X.prog X.w) X.A (isTrue e X.env whole) (TP X pins σ Q) X.xe s
theorem PW.pt {X : Cx} {e : Expr} {t : TT} (h : PW X e t) : PT X e t := h _
noncomputable def PA (X : Cx) (es : List Expr) (t : TA) : Prop :=
 ∀ (pos : Pos) (pins : List (Addr × Obj)) (s : Shared) (σ : St) (H : Hp) (Q : List V → Hp → Prop),Inv X pins σ H s → t σ H Q → wpAny (model X.prog X.w) X.A (spliced (backTo pos (starEach es X.env))) (AP X pins σ Q) X.xe s
noncomputable def PS (X : Cx) (st : Stmt) (t : TS) : Prop :=
 ∀ (pins : List (Addr × Obj)) (s : Shared) (σ : St) (H : Hp) (D : Ends),Inv X pins σ H s → t D σ H → wpAny (model X.prog X.w) X.A (exec st X.env) (SP X pins D) X.xe s
noncomputable def PSs (X : Cx) (st : List Stmt) (t : TS) : Prop :=
 ∀ (pins : List (Addr × Obj)) (s : Shared) (σ : St) (H : Hp) (D : Ends),Inv X pins σ H s → t D σ H → wpAny (model X.prog X.w) X.A (execs st X.env) (SP X pins D) X.xe s
theorem thn {α : Type} {t : Sem α} {Q Q' : α → Shared → Prop} {M : Model} {A : Around} {E : Value → Shared → Prop} {s : Shared} (h : wpAny M A t Q E s) (hQ : ∀ a s,Q a s → Q' a s) : wpAny M A t Q' E s := wpAny_mono h hQ fun _ _ x => x
end L2
namespace L2
open PySem PySem.Spec PyProof.Rows
section
variable {X : Cx}
theorem bin {a b : Expr} {ta tb : TE} (ha : PE X a ta) (hb : PE X b tb) {pins : List (Addr × Obj)} {s : Shared} {σ : St} {H : Hp} {R : V → V → Hp → Prop} (I : Inv X pins σ H s) (h : ta σ H fun x H1 => tb σ H1 fun y H2 => R x y H2)
 {α : Type} {Q : α → Shared → Prop} {f : Value → Value → Sem α}
 (hf : ∀ v u s2 x y H2,Inv X pins σ H2 s2 → RelV x v → RelV y u → R x y H2 → wpAny (model X.prog X.w) X.A (f v u) Q X.xe s2) :
 wpAny (model X.prog X.w) X.A (eval a X.env) (fun v s₁ => wpAny (model X.prog X.w) X.A (eval b X.env) (fun u s₂ => wpAny (model X.prog X.w) X.A (f v u) Q X.xe s₂) X.xe s₁) X.xe s := by
 refine thn (ha pins s σ H _ I h) fun v s1 ⟨x,H1,I1,r1,q1⟩ => ?_
 refine thn (hb pins s1 σ H1 _ I1 q1) fun u s2 ⟨y,H2,I2,r2,q2⟩ => ?_
 exact hf v u s2 x y H2 I2 r1 r2 q2
noncomputable def tVar (i : Nat) : TE := fun σ H Q => ∃ v,σ[i]? = some (some v) ∧ Q v H
noncomputable def tC (v : V) : TE := fun _ H Q => Q v H
theorem zjW {i : Nat} {x : Str} {pos : Pos} (hN : X.N[i]? = some x) (hv : Vis X.env.scope x) (hd : (x == ("__debug__" : Str)) = false := by decide) (hcd : (x == ("__classdict__" : Str)) = false := by decide) : PE X (.Name x pos) (tVar i) := by
 intro pins s σ H Q I h
 obtain ⟨v,e,h⟩ := h
 obtain ⟨m,hn,hl⟩ := I.loc
 obtain ⟨u,r,l⟩ := hl i x v hN e hv
 have fin : EP X pins σ Q u s := ⟨v,H,I,r,h⟩
 rcases l with ⟨hk,hm⟩ | ⟨hk,c,hc,hcell⟩
 ·exact wpAny_Name (wpAny_loadName_local I.ok.kind hk hn hm fin) hd
 ·rcases hk with hk | hk
  ·exact wpAny_Name (wpAny_loadName_cell I.ok.kind hk hc hcell fin) hd
  ·exact wpAny_Name (wpAny_loadName_free I.ok.kind hk hc hcell fin hcd) hd
theorem zj0 {i j pos} : PE X (.Constant (.int i) j pos) (tC (.int i)) := fun _ _ _ H _ I h => wpAny_Constant_int ⟨.int i,H,I.tok _,⟨_,rfl⟩,h⟩
theorem pe_bl {b j pos} : PE X (.Constant (.bool b) j pos) (tC (.bl b)) := fun _ _ _ H _ I h => Constant_bool ⟨.bl b,H,I,rfl,h⟩
theorem zjZ {j pos} : PE X (.Constant .none j pos) (tC .non) := fun _ _ _ H _ I h => Constant_none ⟨.non,H,I,rfl,h⟩
noncomputable def Gl (X : Cx) (x : Str) : Prop := X.env.kindOf x = some .globalImplicit
theorem zi4 {E : Value → Shared → Prop} {pins : List (Addr × Obj)} {s : Shared} {σ : St} {H : Hp} {x : Str} {u : Value} {pos : Pos} {Q : Value → Shared → Prop} (I : Inv X pins σ H s) (hg : Gl X x) (hm : X.mg x = some u) (h : Q u s)
 (hd : (x == ("__debug__" : Str)) = false := by decide) : wpAny (model X.prog X.w) X.A (eval (.Name x pos) X.env) Q E s :=
 Calls.Name_function_global I.ok.kind hg (Calls.loadGlobal_global (by rw [I.ok.glob]; exact I.mod.glob.keeps I.bk) hm h) hd
theorem wb {E : Value → Shared → Prop} {pins : List (Addr × Obj)} {s : Shared} {σ : St} {H : Hp} {x : Str} {u : Value} {pos : Pos} {Q : Value → Shared → Prop} (I : Inv X pins σ H s) (hg : Gl X x) (hm : X.mg x = none) (hv : bootBuiltins x = some u) (h : Q u s)
 (hn : x ≠ "__name__" := by decide) (hd : (x == ("__debug__" : Str)) = false := by decide) : wpAny (model X.prog X.w) X.A (eval (.Name x pos) X.env) Q E s := by
 obtain ⟨mb,h1,h2⟩ := I.mod.blt
 exact Calls.Name_function_global I.ok.kind hg (Calls.loadGlobal_builtin (by rw [I.ok.glob]; exact I.mod.glob.keeps I.bk) hm (by rw [I.ok.blt]; exact h1.keeps I.bk) ((h2 x hn).trans hv) h) hd
theorem ziV {x : Str} {v : V} {u : Value} {pos : Pos} (hg : Gl X x) (hm : X.mg x = none) (hv : bootBuiltins x = some u) (r : RelV v u) (hn : x ≠ "__name__" := by decide) (hd : (x == ("__debug__" : Str)) = false := by decide) : PE X (.Name x pos) (tC v) :=
 fun _ _ _ H _ I h => wb I hg hm hv ⟨v,H,I,r,h⟩ hn hd
variable {a b : Expr} {ta tb : TE} {pos : Pos}
variable {tA tB' : TT} {rest : List Expr}
noncomputable def tAnd (t u : TT) : TT := fun σ H Q => t σ H fun c H1 => if c = true then u σ H1 Q else Q false H1
noncomputable def tOr (t u : TT) : TT := fun σ H Q => t σ H fun c H1 => if c = true then Q true H1 else u σ H1 Q
noncomputable def tNot (t : TT) : TT := fun σ H Q => t σ H fun c H1 => Q (!c) H1
theorem ziI (ha : PT X a tA) : PW X (.BoolOp .And [a] pos) tA := by
 intro wh pins s σ H Q I h
 refine isTrue_and (thn (ha pins s σ H Q I h) fun c s1 e => ?_)
 cases c with
 | true => exact isTrue_and_nil e
 | false => exact e
theorem zjR (ha : PT X a tA) : PW X (.BoolOp .Or [a] pos) tA := by
 intro wh pins s σ H Q I h
 refine isTrue_or (thn (ha pins s σ H Q I h) fun c s1 e => ?_)
 cases c with
 | false => exact isTrue_or_nil e
 | true => exact e
theorem zjS (ha : PT X a tA) (hb : PW X (.BoolOp .And (b :: rest) pos) tB') : PW X (.BoolOp .And (a :: b :: rest) pos) (tAnd tA tB') := by
 intro wh pins s σ H Q I h
 refine isTrue_and (thn (ha pins s σ H _ I h) fun c s1 ⟨H1,I1,q1⟩ => ?_)
 cases c with
 | true => exact hb wh pins s1 σ H1 Q I1 q1
 | false => exact ⟨H1,I1,q1⟩
theorem pw_or (ha : PT X a tA) (hb : PW X (.BoolOp .Or (b :: rest) pos) tB') : PW X (.BoolOp .Or (a :: b :: rest) pos) (tOr tA tB') := by
 intro wh pins s σ H Q I h
 refine isTrue_or (thn (ha pins s σ H _ I h) fun c s1 ⟨H1,I1,q1⟩ => ?_)
 cases c with
 | true => exact ⟨H1,I1,q1⟩
 | false => exact hb wh pins s1 σ H1 Q I1 q1
theorem zjT (ha : PT X a tA) : PT X (.UnaryOp .Not a pos) (tNot tA) := by
 intro pins s σ H Q I h
 exact isTrue_not (ha pins s σ H (fun c H1 => Q (!c) H1) I h)
noncomputable def tAndV (ta tb : TE) : TE := fun σ H Q => ta σ H fun x H1 => ∃ c,x = .bl c ∧ if c = true then tb σ H1 Q else Q (.bl false) H1
theorem zjY {op} {t : TE} (h : PE X a t) : PE X (.BoolOp op [a] pos) t := fun pins s σ H Q I hw => BoolOp_one (h pins s σ H Q I hw)
theorem zj1 (ha : PE X a ta) (hb : PE X (.BoolOp .And (b :: rest) pos) tb) : PE X (.BoolOp .And (a :: b :: rest) pos) (tAndV ta tb) := by
 intro pins s σ H Q I h
 refine BoolOp_and (thn (ha pins s σ H _ I h) fun v s1 ⟨x,H1,I1,r1,q1⟩ => ?_)
 obtain ⟨c,rfl,q1⟩ := q1
 cases r1
 refine wpAny_truthy_bool ?_
 cases c with
 | true => exact hb pins s1 σ H1 Q I1 q1
 | false => exact ⟨.bl false,H1,I1,rfl,q1⟩
noncomputable def tIf (t : TT) (ta tb : TE) : TE := fun σ H Q => t σ H fun c H1 => if c = true then ta σ H1 Q else tb σ H1 Q
theorem zhn {c : Expr} (hc : PT X c tA) (ha : PE X a ta) (hb : PE X b tb) : PE X (.IfExp c a b pos) (tIf tA ta tb) := by
 intro pins s σ H Q I h
 refine wpAny_IfExp (thn (hc pins s σ H _ I h) fun d s1 ⟨H1,I1,q1⟩ => ?_)
 cases d with
 | true => exact ha pins s1 σ H1 Q I1 q1
 | false => exact hb pins s1 σ H1 Q I1 q1
end
end L2
namespace L2
open PySem PySem.Spec PyProof.Rows
noncomputable def SqL (K : PySem.W.Frag) (H : Hp) (a : Addr) (xs : List V) : Prop :=
 Rd H a (.lst xs) ∨
  ∃ (o : Obj) (its : Array Value) (n : Nat),K.lookup a = some o ∧ o.cls = .type "list" ∧ o.dict = none ∧ o.data = .seq its n ∧ its.size ≤ sizeLine ∧ Vals xs its.toList
noncomputable def SqT (K : PySem.W.Frag) (H : Hp) (a : Addr) (xs : List V) : Prop :=
 Rd H a (.tup xs) ∨
  ∃ (o : Obj) (its : Array Value) (n : Nat),K.lookup a = some o ∧ o.cls = .type "tuple" ∧ o.data = .seq its n ∧ its.size ≤ sizeLine ∧ Vals xs its.toList
noncomputable def absV : Value → Option V
 | .none => some .non
 | .bool b => some (.bl b)
 | .int i _ => some (.int i)
 | .str x _ => some (.str x)
 | .bytes b _ => some (.byt b)
 | .float b _ => some (.flt b)
 | .ref a => some (.ref a)
 | .type n => some (.ty n)
 | _ => none
theorem RelV.abs {x : V} {u : Value} (r : RelV x u) : absV u = some x := by
 cases x with
 | non => cases r; rfl
 | bl _ => cases r; rfl
 | int _ => obtain ⟨t,rfl⟩ := r; rfl
 | str _ => obtain ⟨t,rfl⟩ := r; rfl
 | byt _ => obtain ⟨t,rfl⟩ := r; rfl
 | flt _ => obtain ⟨t,rfl⟩ := r; rfl
 | ref _ => cases r; rfl
 | ty _ => cases r; rfl
theorem RelV.inj {x y : V} {u : Value} (r : RelV x u) (q : RelV y u) : x = y := Option.some.inj (r.abs.symm.trans q.abs)
theorem Vals.inj : ∀ {xs ys : List V} {us : List Value},Vals xs us → Vals ys us → xs = ys
 | _,_,_,.nil,.nil => rfl
 | _,_,_,.cons r t,.cons r' t' => by rw [r.inj r',Vals.inj t t']
section
variable {X : Cx} {pins : List (Addr × Obj)} {σ : St} {H : Hp} {s : Shared} {a : Addr} {xs ys : List V}
theorem SqL.of {K : PySem.W.Frag} (h : H a = some (.lst xs)) : SqL K H a xs := .inl (.inl h)
theorem SqT.of {K : PySem.W.Frag} (h : H a = some (.tup xs)) : SqT K H a xs := .inl (.inl h)
theorem Inv.list (I : Inv X pins σ H s) (h : SqL X.K H a xs) : ∃ its : List Value,Vals xs its ∧ PlainL s.heap a its.toArray ∧ xs.length ≤ sizeLine := by
 rcases h with h | ⟨o,its,n,hk,hc,hd,hs,hz,r⟩
 ·obtain ⟨z,its,n,r,e⟩ := h.ok I.hok
  exact ⟨its,r,⟨_,n,e,rfl,rfl,rfl⟩,z⟩
 ·refine ⟨its.toList,r,⟨o,n,I.kIn a o hk,hc,hd,by simpa using hs⟩,?_⟩
  have e := r.length
  simp only [Array.length_toList] at e
  lia
theorem Inv.tuple (I : Inv X pins σ H s) (h : SqT X.K H a xs) : ∃ its : List Value,Vals xs its ∧ IsTup s.heap a its.toArray ∧ xs.length ≤ sizeLine := by
 rcases h with h | ⟨o,its,n,hk,hc,hs,hz,r⟩
 ·obtain ⟨z,its,r,p⟩ := h.ok I.hok
  exact ⟨its,r,p,z⟩
 ·refine ⟨its.toList,r,⟨o,I.kIn a o hk,hc,n,by simpa using hs⟩,?_⟩
  have e := r.length
  simp only [Array.length_toList] at e
  lia
theorem Inv.list_inj (I : Inv X pins σ H s) (h : SqL X.K H a xs) (h' : SqL X.K H a ys) : xs = ys := by
 obtain ⟨its,r,⟨o,n,e,_,_,d⟩,_⟩ := I.list h
 obtain ⟨its',r',⟨o',n',e',_,_,d'⟩,_⟩ := I.list h'
 rw [e] at e'; cases e'
 rw [d] at d'
 injection d' with d1 _
 have : its = its' := by simpa using congrArg Array.toList d1
 subst this
 exact r.inj r'
end
noncomputable abbrev Cx.wish (X : Cx) (E : Value → Shared → Prop) : Cx := { X with xe := E }
noncomputable abbrev Cx.nox (X : Cx) : Cx := X.wish fun _ _ => False
theorem Cx.Ok.wish {X : Cx} (ok : X.Ok) (E : Value → Shared → Prop) : (X.wish E).Ok :=
 ⟨ok.mod,ok.kind,ok.glob,ok.blt,ok.above,ok.inj,ok.has,ok.cab,ok.hd,ok.frames,ok.stk,ok.exf,ok.bs,ok.bsz,ok.noex,ok.exfs,ok.funs,ok.frf⟩
theorem Cx.Ok.unwish {X : Cx} {E : Value → Shared → Prop} (ok : (X.wish E).Ok) : X.Ok :=
 ⟨ok.mod,ok.kind,ok.glob,ok.blt,ok.above,ok.inj,ok.has,ok.cab,ok.hd,ok.frames,ok.stk,ok.exf,ok.bs,ok.bsz,ok.noex,ok.exfs,ok.funs,ok.frf⟩
section
variable {X : Cx} {pins : List (Addr × Obj)} {σ : St} {H : Hp} {s : Shared} {E : Value → Shared → Prop}
theorem Inv.wish (I : Inv X pins σ H s) (E : Value → Shared → Prop) : Inv (X.wish E) pins σ H s := ⟨I.ok.wish E,I.os,I.bare,I.base,I.loc,I.cell,I.free,I.freeC,I.pin,I.hok,I.len⟩
theorem Inv.unwish (I : Inv (X.wish E) pins σ H s) : Inv X pins σ H s := ⟨I.ok.unwish,I.os,I.bare,I.base,I.loc,I.cell,I.free,I.freeC,I.pin,I.hok,I.len⟩
theorem SP.unwish {D : Ends} {f : Flow} {s' : Shared} (h : SP (X.wish E) pins D f s') : SP X pins D f s' := by
 cases f with
 | next => obtain ⟨σ',H',I,q⟩ := h; exact ⟨σ',H',I.unwish,q⟩
 | brk => obtain ⟨σ',H',I,q⟩ := h; exact ⟨σ',H',I.unwish,q⟩
 | cont => obtain ⟨σ',H',I,q⟩ := h; exact ⟨σ',H',I.unwish,q⟩
 | ret u => obtain ⟨v,σ',H',I,r,q⟩ := h; exact ⟨v,σ',H',I.unwish,r,q⟩
theorem PSs.nox {st : List Stmt} {t : TS} (h : PSs X.nox st t) : PSs X st t := fun pins s σ H D I hw =>
 wpAny_mono (h pins s σ H D (I.wish _) hw) (fun _ _ q => q.unwish) fun _ _ z => False.elim z
end
section
variable {X : Cx} {st : Stmt} {rest : List Stmt} {t u : TS} {e : Expr} {te : TE} {pos : Pos}
noncomputable def tNext : TS := fun D σ H => D.nx σ H
noncomputable def tSeq (t u : TS) : TS := fun D σ H => t { D with nx := u D } σ H
theorem ziM : PSs X [] tNext := fun _ _ σ H _ I h => wpAny_execs_nil ⟨σ,H,I,h⟩
theorem zaT (h1 : PS X st t) (h2 : PSs X rest u) : PSs X (st :: rest) (tSeq t u) := by
 intro pins s σ H D I h
 refine wpAny_execs_cons (thn (h1 pins s σ H { D with nx := u D } I h) fun f s1 q => ?_)
 cases f with
 | next =>
   obtain ⟨σ',H',I',q⟩ := q
   exact h2 pins s1 σ' H' D I' q
 | ret v => exact q
 | brk => exact q
 | cont => exact q
theorem zcJ (h1 : PS X st t) : PSs X [st] t := by
 intro pins s σ H D I h
 refine wpAny_execs_cons (thn (h1 pins s σ H D I h) fun f s1 q => ?_)
 cases f with
 | next => exact wpAny_execs_nil q
 | ret v => exact q
 | brk => exact q
 | cont => exact q
theorem Inv.quiet {pins : List (Addr × Obj)} {σ : St} {H : Hp} {s : Shared} (I : Inv X pins σ H s) : interactive X.env = false := by simp [interactive,I.ok.kind]
noncomputable def zg4 (te : TE) : TS := fun D σ H => te σ H fun _ H1 => D.nx σ H1
theorem v7 (he : PE X e te) (hs : swapsWith e none pos.line X.env = pure false := by rfl) : PS X (.Expr e pos) (zg4 te) := by
 intro pins s σ H D I h
 exact wpAny_Expr_any (thn (he pins s σ H _ I h) fun v s1 ⟨x,H1,I1,r1,q1⟩ => ⟨σ,H1,I1,q1⟩) I.quiet hs
noncomputable def tRet (te : TE) : TS := fun D σ H => te σ H D.rt
theorem zic (he : PE X e te) : PS X (.Return (some e) pos) (tRet te) := by
 intro pins s σ H D I h
 exact wpAny_Return_some (thn (he pins s σ H _ I h) fun v s1 ⟨x,H1,I1,r1,q1⟩ => ⟨x,σ,H1,I1,r1,q1⟩)
noncomputable def tIfS (c : TT) (t u : TS) : TS := fun D σ H => c σ H fun b H1 => if b = true then t D σ H1 else u D σ H1
theorem ps_if {c : Expr} {a b : List Stmt} {tc : TT} (hc : PT X c tc) (ha : PSs X a t) (hb : PSs X b u) : PS X (.If c a b pos) (tIfS tc t u) := by
 intro pins s σ H D I h
 refine wpAny_If (thn (hc pins s σ H _ I h) fun d s1 ⟨H1,I1,q1⟩ => ?_)
 cases d with
 | true => exact ha pins s1 σ H1 D I1 q1
 | false => exact hb pins s1 σ H1 D I1 q1
end
noncomputable abbrev TG := V → St → Hp → (St → Hp → Prop) → Prop
noncomputable abbrev TGs := List V → St → Hp → (St → Hp → Prop) → Prop
noncomputable def PG (X : Cx) (target : Expr) (t : TG) : Prop :=
 ∀ (pins : List (Addr × Obj)) (s : Shared) (σ : St) (H : Hp) (v : V) (u : Value) (Q : St → Hp → Prop),Inv X pins σ H s → RelV v u → t v σ H Q →
   wpAny (model X.prog X.w) X.A (assign target X.env u) (fun _ s' => ∃ σ' H',Inv X pins σ' H' s' ∧ Q σ' H') X.xe s
noncomputable def PGs (X : Cx) (ts : List Expr) (t : TGs) : Prop :=
 ∀ (pins : List (Addr × Obj)) (s : Shared) (σ : St) (H : Hp) (vs : List V) (us : List Value) (Q : St → Hp → Prop),Inv X pins σ H s → Vals vs us → t vs σ H Q →
   wpAny (model X.prog X.w) X.A (assignInOrder ((assignEach ts X.env).map (·.2)) us) (fun _ s' => ∃ σ' H',Inv X pins σ' H' s' ∧ Q σ' H') X.xe s
noncomputable abbrev TSet := V → V → V → Hp → (Hp → Prop) → Prop
noncomputable def PSet (X : Cx) (t : TSet) : Prop :=
 ∀ (pins : List (Addr × Obj)) (s : Shared) (σ : St) (H : Hp) (o i v : V) (ov iv u : Value) (Q : Hp → Prop),Inv X pins σ H s → RelV o ov → RelV i iv → RelV v u → t o i v H Q →
   wpAny (model X.prog X.w) X.A (setItem ov iv u) (fun _ s' => ∃ H',Inv X pins σ H' s' ∧ Q H') X.xe s
section
variable {X : Cx} {pos : Pos}
noncomputable def zf9 (i : Nat) : TG := fun v σ H Q => Q (σ.set i (some v)) H
theorem zaV {i : Nat} {x : Str} (hN : X.N.Nodup) (hi : X.N[i]? = some x) (hx : Loc X.env.scope x) (hf : X.fn x = true ∨ X.env.scope.names.lookup x = some .local := by first | exact .inl rfl | exact .inr rfl | assumption) : PG X (.Name x pos) (zf9 i) := by
 intro pins s σ H v u Q I r h
 exact wpAny_assign_Name (zdz I hN hi hx r (fun s' I' => ⟨_,H,I',h⟩) hf)
noncomputable def gNil : TGs := fun vs σ H Q => vs = [] ∧ Q σ H
noncomputable def zjm (t : TG) (u : TGs) : TGs := fun vs σ H Q => ∃ v r,vs = v :: r ∧ t v σ H fun σ' H' => u r σ' H' Q
theorem zfC : PGs X [] gNil := by
 intro pins s σ H vs us Q I r h
 obtain ⟨e,h⟩ := h
 subst e
 cases r
 exact assignInOrder_nil ⟨σ,H,I,h⟩
theorem zaU {e : Expr} {es : List Expr} {t : TG} {u : TGs} (h1 : PG X e t) (h2 : PGs X es u)
 (hs : (assignEach (e :: es) X.env).map (·.2) = assign e X.env :: (assignEach es X.env).map (·.2) := by rfl) : PGs X (e :: es) (zjm t u) := by
 intro pins s σ H vs us Q I r h
 obtain ⟨v,vr,e1,h⟩ := h
 subst e1
 cases r with
 | cons r rr =>
   rw [hs]
   refine assignInOrder_cons (thn (h1 pins s σ H _ _ _ I r h) fun _ s1 ⟨σ1,H1,I1,q1⟩ => ?_)
   exact h2 pins s1 σ1 H1 _ _ Q I1 rr q1
noncomputable def gTup (K : PySem.W.Frag) (n : Nat) (t : TGs) : TG := fun v σ H Q => ∃ a xs,v = .ref a ∧ SqT K H a xs ∧ xs.length = n ∧ t xs σ H Q
theorem zie {es : List Expr} {k : Nat} {t : TGs} {n : Nat} (hc : X.calm = true) (h : PGs X es t)
 (hn : (assignEach es X.env).length = n := by rfl) (hst : (assignEach es X.env).findIdx? (·.1) = none := by rfl) : PG X (.Tuple es k pos) (gTup X.K n t) := by
 intro pins s σ H v u Q I r hw
 obtain ⟨a,xs,e1,hq,hl,hw⟩ := hw
 subst e1
 cases r
 obtain ⟨its,rv,ht,hz⟩ := I.tuple hq
 refine assign_Tuple_tuple (I.ok.hd hc) ht (by simp [hn,← hl,rv.length]) hst fun h' hx => ?_
 have I1 : Inv X pins σ H { s with heap := h' } := I.kept (t' := s.toks) fun b o e => hx b o (Nat.ne_of_lt (Heap.lt_size e)) e
 exact h pins _ σ H xs _ Q I1 (by simpa using rv) hw
noncomputable def gSub (to ti : TE) (t : TSet) : TG := fun v σ H Q => to σ H fun o H1 => ti σ H1 fun i H2 => t o i v H2 fun H3 => Q σ H3
noncomputable def tAsg (te : TE) (g : TG) : TS := fun D σ H => te σ H fun x H1 => g x σ H1 D.nx
theorem zjU {tg e : Expr} {te : TE} {g : TG} (he : PE X e te) (hg : PG X tg g) (hs : swapsWithSole [tg] e pos.line X.env = pure false := by rfl) (hw : swappedStores [tg] e X.env = pure none := by rfl)
 (h1 : (assignEach [tg] X.env).map (·.2) = [assign tg X.env] := by rfl) : PS X (.Assign [tg] e pos) (tAsg te g) := by
 intro pins s σ H D I h
 refine wpAny_Assign_stores (thn (he pins s σ H _ I h) fun v s1 ⟨x,H1,I1,r1,q1⟩ => ?_) hs hw
 rw [h1]
 exact thn (hg pins s1 σ H1 x v _ I1 r1 q1) fun _ s2 q => q
theorem zib {i : Nat} {x : Str} {e : Expr} {te : TE} {pos' : Pos} (hN : X.N.Nodup) (hi : X.N[i]? = some x) (hx : Loc X.env.scope x) (he : PE X e te) (hs : swapsWith e (some (.Name x pos')) pos.line X.env = pure false := by rfl) (hf : X.fn x = true ∨ X.env.scope.names.lookup x = some .local := by first | exact .inl rfl | exact .inr rfl | assumption) :
 PS X (.Assign [.Name x pos'] e pos) (tAsg te (zf9 i)) := by
 intro pins s σ H D I h
 refine wpAny_Assign_Name (thn (he pins s σ H _ I h) fun v s1 ⟨y,H1,I1,r1,q1⟩ => ?_) hs
 exact zdz I1 hN hi hx r1 (fun s2 I2 => ⟨_,H1,I2,q1⟩) hf
end
section
variable {X : Cx} {pos : Pos}
noncomputable def zjJ (c : TT) (tb : TS) : TS := fun D σ H => ∃ W : Nat → St → Hp → Prop,(∃ m,W m σ H) ∧ ∀ m σ H,W m σ H →
 c σ H fun b H1 => if b = true then ∃ N : St → Hp → Prop,(∀ σ' H',N σ' H' → ∃ m',m' < m ∧ W m' σ' H') ∧ tb { D with nx := N,ct := N,bk := D.nx } σ H1 else D.nx σ H1
theorem zhk {c : Expr} {body : List Stmt} {tc : TT} {tb : TS} (hp : PassesOwn (model X.prog X.w) X.A X.env X.xe) (hc : PT X c tc) (hb : PSs X body tb) : PS X (.While c body [] pos) (zjJ tc tb) := by
 intro pins s σ H D I h
 obtain ⟨W,⟨m0,w0⟩,turn⟩ := h
 refine wpAny_While (codeAny_whileLoop (fun n s' => ∃ σ' H',Inv X pins σ' H' s' ∧ W n σ' H') ?_ m0 ⟨σ,H,I,w0⟩)
 rintro n s1 ⟨σ1,H1,I1,w1⟩
 refine wpAny_passesOwn hp (thn (hc pins s1 σ1 H1 _ I1 (turn n σ1 H1 w1)) fun b s2 ⟨H2,I2,q2⟩ => ?_)
 cases b with
 | true =>
   obtain ⟨N,hN,q2⟩ := q2
   rw [if_pos rfl]
   refine wpAny_passesOwn hp (thn (hb pins s2 σ1 H2 _ I2 q2) fun f s3 q3 => ?_)
   cases f with
   | next =>
     obtain ⟨σ3,H3,I3,n3⟩ := q3
     obtain ⟨m',hm,w3⟩ := hN σ3 H3 n3
     exact ⟨m',hm,σ3,H3,I3,w3⟩
   | cont =>
     obtain ⟨σ3,H3,I3,n3⟩ := q3
     obtain ⟨m',hm,w3⟩ := hN σ3 H3 n3
     exact ⟨m',hm,σ3,H3,I3,w3⟩
   | brk => exact q3
   | ret v => exact q3
 | false =>
   rw [if_neg Bool.false_ne_true]
   exact wpAny_execs_nil ⟨σ1,H2,I2,q2⟩
end
structure It where
 go : Nat → Hp → Prop
 yld : Nat → Hp → V → Hp → Prop
 stop : Nat → Hp → Prop
noncomputable def FpOk (X : Cx) (pins : List (Addr × Obj)) (H : Hp) (b : Addr) : Prop :=
 H b = none ∧ b ≠ X.env.locals ∧ b ∉ X.fs ∧ (b ∈ X.ex ∨ X.s₀.heap.objs.size ≤ b) ∧ (∀ x c,X.env.cells.lookup x = some c → c ≠ b) ∧ ∀ p ∈ X.pn ++ pins,p.1 ≠ b
theorem Inv.fpOk {X : Cx} {pins : List (Addr × Obj)} {σ : St} {H H' : Hp} {s : Shared} {b : Addr} (I : Inv X pins σ H s) (hb : s.heap.objs.size ≤ b) (hn : H' b = none) : FpOk X pins H' b := by
 refine ⟨hn,Nat.ne_of_gt (Nat.lt_of_lt_of_le I.lt hb),I.nofs hb,.inr (Nat.le_trans I.sz hb),fun x c e z => ?_,fun p hp z => ?_⟩
 ·obtain ⟨v,q⟩ := I.cell x c e
  exact absurd (Nat.lt_of_lt_of_le q.lt (by rw [z]; exact hb)) (Nat.lt_irrefl _)
 ·exact absurd (Nat.lt_of_lt_of_le (Heap.lt_size (I.pin p hp).1) (by rw [z]; exact hb)) (Nat.lt_irrefl _)
structure Turn (P : Program) (w : World) (K : PySem.W.Frag) (tg : Expr) (J : It) (fp : List Addr) (it : Addr) (tn : Nat → Heap → Prop) : Prop where
 mem : it ∈ fp
 obj : ∀ i h,tn i h → ∀ b ∈ fp,∃ o,h.get? b = some o ∧ ∀ v,o.data ≠ .cell v
 keep : ∀ i h h',tn i h → (∀ b ∈ fp,∀ o,h.get? b = some o → h'.get? b = some o) → tn i h'
 item : ∀ (X : Cx),X.prog = P → X.w = w → X.K = K → X.calm = true → ∀ (i : Nat) (pins : List (Addr × Obj)) (s : Shared) (σ : St) (H : Hp) (E : Value → Shared → Prop),Inv X pins σ H s → (∀ b ∈ fp,FpOk X pins H b) → tn i s.heap → J.go i H →
  wpAny (model P w) X.A (pyNext (.ref it)) (fun r s1 => ∃ u,r = some u ∧
   wpAny (model P w) X.A (letOwnedTupleGo tg (.ref it) u) (fun _ s2 => ∃ x H',Inv X pins σ H' s2 ∧ RelV x u ∧ J.yld i H x H' ∧ tn (i + 1) s2.heap ∧ ∀ b ∈ fp,H' b = none) E s1) E s
 done : ∀ (X : Cx),X.prog = P → X.w = w → X.K = K → X.calm = true → ∀ (i : Nat) (pins : List (Addr × Obj)) (s : Shared) (σ : St) (H : Hp) (E : Value → Shared → Prop),Inv X pins σ H s → (∀ b ∈ fp,FpOk X pins H b) → tn i s.heap → J.stop i H →
  wpAny (model P w) X.A (pyNext (.ref it)) (fun r s1 => r = none ∧ Inv X pins σ H s1) E s
 self : ∀ (A : Around) (i : Nat) (s : Shared) (Q : Value → Shared → Prop) (E : Value → Shared → Prop),tn i s.heap → Q (.ref it) s → wpAny (model P w) A (pyIter (.ref it)) Q E s
noncomputable abbrev TI := St → Hp → (It → Hp → Prop) → Prop
noncomputable def PIE (X : Cx) (pins : List (Addr × Obj)) (σ : St) (tg : Expr) (R : It → Hp → Prop) (itv : Value) (s2 : Shared) : Prop :=
 ∃ (it : Addr) (fp : List Addr) (tn : Nat → Heap → Prop) (J : It) (H' : Hp),itv = .ref it ∧ Inv X pins σ H' s2 ∧ Turn X.prog X.w X.K tg J fp it tn ∧ tn 0 s2.heap ∧ (∀ b ∈ fp,FpOk X pins H' b) ∧ R J H'
noncomputable def PI (X : Cx) (tg iter : Expr) (wi : TI) : Prop :=
 ∀ (pins : List (Addr × Obj)) (s : Shared) (σ : St) (H : Hp) (R : It → Hp → Prop),Inv X pins σ H s → wi σ H R →
   wpAny (model X.prog X.w) X.A (eval iter X.env) (fun v s1 => wpAny (model X.prog X.w) X.A (pyIter v) (PIE X pins σ tg R) X.xe s1) X.xe s
theorem zji {M : Model} {A : Around} {E : Value → Shared → Prop} {s : Shared} {tg : Expr} {it : Addr} {u : Value} {o : Obj} {n : String} {vs : Array Value} {Q : Unit → Shared → Prop} (ho : s.heap.get? it = some o) (hc : o.cls = .type n) (hd : o.data = .fields vs)
 (hn : ["enumerate","zip","dict_itemiterator","dict_reverseitemiterator","odict_iterator","itertools.zip_longest","itertools.pairwise"].contains n = false) (hQ : Q () s) : wpAny M A (letOwnedTupleGo tg (.ref it) u) Q E s := by
 unfold letOwnedTupleGo
 cases tg <;> first
  | exact wpAny_pure hQ
  | (cases u <;> first
   | exact wpAny_pure hQ
   | (refine wpAny_bind (wpAny_load ho ?_)
      rw [hc,hd]
      show wpAny M A (if (["enumerate","zip","dict_itemiterator","dict_reverseitemiterator","odict_iterator","itertools.zip_longest","itertools.pairwise"].contains n && vs[0]? == some (rawInt _)) = true then _ else _) Q E s
      rw [if_neg (by intro h; rw [hn,Bool.false_and] at h; cases h)]
      exact wpAny_pure hQ))
noncomputable def Itl (K : PySem.W.Frag) (a : Addr) : It :=
 ⟨fun i H => ∃ xs x,SqL K H a xs ∧ xs[i]? = some x,fun i H x H' => H' = H ∧ ∀ xs,SqL K H a xs → xs[i]? = some x,fun i H => ∃ xs,SqL K H a xs ∧ xs.length ≤ i⟩
noncomputable def Itr (lo : Int) (n : Nat) : It := ⟨fun i _ => i < n,fun i H x H' => H' = H ∧ x = .int (lo + i),fun i _ => n ≤ i⟩
theorem zfc {P : Program} {w : World} {K : PySem.W.Frag} {tg : Expr} (a it : Addr) : Turn P w K tg (Itl K a) [it] it (fun i h => h.IsListIter it a i) where
 mem := by simp
 obj := fun i h st b hb => by
  have e : b = it := by simpa using hb
  subst e
  obtain ⟨o,e,c,d⟩ := st
  exact ⟨o,e,fun v z => by rw [d] at z; cases z⟩
 keep := fun i h h' st k => st.at fun o e => k it (by simp) o e
 item := by
  intro X hP hw hK hc i pins s σ H E I hf st hg
  subst hP hw hK
  obtain ⟨xs,x,hq,hx⟩ := hg
  obtain ⟨its,rv,p,hz⟩ := I.list hq
  obtain ⟨u,hu,ru⟩ := rv.get hx
  obtain ⟨f0,f1,f2,f3,f4,f5⟩ := hf it (by simp)
  refine wpAny_pyNext_list_item st p.isList (x := u) (by simpa using hu) fun h' st' sb => ?_
  have I1 : Inv X pins σ H { s with heap := h' } := I.turned (t' := s.toks) (fun b o hb e => (sb.2 b hb).trans e) f0 f1 f3 f4 f5
  obtain ⟨o,e,c,d⟩ := id st'
  exact ⟨u,rfl,zji (s := { s with heap := h' }) e c d (by decide) ⟨x,H,I1,ru,⟨rfl,fun ys hy => by rw [I.list_inj hy hq]; exact hx⟩,st',fun b hb => (hf b hb).1⟩⟩
 done := by
  intro X hP hw hK hc i pins s σ H E I hf st hg
  subst hP hw hK
  obtain ⟨xs,hq,hx⟩ := hg
  obtain ⟨its,rv,p,hz⟩ := I.list hq
  obtain ⟨f0,f1,f2,f3,f4,f5⟩ := hf it (by simp)
  have hl := rv.length
  exact wpAny_pyNext_list_end (I.ok.hd hc) st p.isList (by simp; lia) fun h' eb => ⟨rfl,I.turned (t' := s.toks) (fun b o hb e => eb b o hb e) f0 f1 f3 f4 f5⟩
 self := fun _ _ _ _ _ st h => wpAny_pyIter_listiter st h
theorem zel {P : Program} {w : World} {K : PySem.W.Frag} {tg : Expr} (it : Addr) (lo : Int) (n : Nat) : Turn P w K tg (Itr lo n) [it] it (fun i h => IsRangeIter h it (lo + (i : Nat) * 1) ((n : Int) - (i : Nat)) 1) where
 mem := by simp
 obj := fun i h st b hb => by
  have e : b = it := by simpa using hb
  subst e
  exact ⟨_,st,fun v z => by
   have z' : Data.fields _ = Data.cell v := z
   cases z'⟩
 keep := fun i h h' st k => k it (by simp) _ st
 item := by
  intro X hP hw hK hc i pins s σ H E I hf st hg
  subst hP hw hK
  obtain ⟨f0,f1,f2,f3,f4,f5⟩ := hf it (by simp)
  have W := Walks.range (prog := X.prog) (w := X.w) (I.ok.hd hc) it lo 1 n
  refine W.item i s _ _ hg st fun v h' tk hv st' kk => ?_
  obtain ⟨t,rfl⟩ := hv
  have I1 : Inv X pins σ H { s with heap := h',toks := tk } := I.turned (fun b o hb e => kk b o (by simpa using hb) e) f0 f1 f3 f4 f5
  refine ⟨_,rfl,zji (s := { s with heap := h',toks := tk }) (n := "range_iterator") st' rfl rfl (by decide) ⟨.int (lo + i),H,I1,⟨t,?_⟩,⟨rfl,rfl⟩,st',fun b hb => (hf b hb).1⟩⟩
  rw [Int.mul_one]
 done := by
  intro X hP hw hK hc i pins s σ H E I hf st hg
  subst hP hw hK
  obtain ⟨f0,f1,f2,f3,f4,f5⟩ := hf it (by simp)
  exact wpAny_pyNext_range_end (I.ok.hd hc) st (by have : n ≤ i := hg; lia) fun h' eb => ⟨rfl,I.turned (t' := s.toks) (fun b o hb e => eb b o hb e) f0 f1 f3 f4 f5⟩
 self := fun _ _ _ _ _ st h => wpAny_pyIter_rangeiter st h
end L2
namespace L2
open PySem PySem.Spec PyProof.Rows
section
variable {X : Cx} {tg : Expr}
noncomputable def zkt (K : PySem.W.Frag) (tl : TE) : TI := fun σ H R => tl σ H fun x H1 => ∃ a,x = .ref a ∧ (∃ xs,SqL K H1 a xs) ∧ R (Itl K a) H1
theorem zfB {l : Expr} {tl : TE} (hl : PE X l tl) : PI X tg l (zkt X.K tl) := by
 intro pins s σ H R I h
 refine thn (hl pins s σ H _ I h) fun v s1 ⟨x,H1,I1,r1,q1⟩ => ?_
 obtain ⟨a,e,⟨xs,hq⟩,q⟩ := q1
 subst e
 cases r1
 obtain ⟨its,rv,p,hz⟩ := I1.list hq
 refine wpAny_pyIter_list p.isList ?_
 refine ⟨s1.heap.objs.size,[s1.heap.objs.size],_,_,H1,rfl,I1.kept (t' := s1.toks) fun b o e => Heap.get?_push_of_some _ e,zfc a _,⟨_,Heap.get?_push_size _ rfl,rfl,rfl⟩,fun b hb => ?_,q⟩
 have e : b = s1.heap.objs.size := by simpa using hb
 subst e
 exact I1.fpOk (Nat.le_refl _) (I1.hok.fresh (Nat.le_refl _))
theorem zhg {pins : List (Addr × Obj)} {σ : St} {H : Hp} {s : Shared} {R : It → Hp → Prop} {E : Value → Shared → Prop} {lo hi : Int} {t u v : Tok} {tk : Nat} (I : Inv X pins σ H s) (h1 : -(2 ^ 62) ≤ lo) (h2 : lo < 2 ^ 62) (h3 : -(2 ^ 62) ≤ hi) (h4 : hi < 2 ^ 62)
 (q : R (Itr lo (hi - lo).toNat) H) : wpAny (model X.prog X.w) X.A (pyIter (.ref s.heap.objs.size)) (PIE X pins σ tg R) E { s with heap := s.heap.push { cls := .type "range",data := .fields #[.int lo t,.int hi u,.int 1 v] },toks := tk } := by
 refine wpAny_pyIter_range (IsRange.new ..) (small_one h1 h2 h3 h4) ?_
 have I1 : Inv X pins σ H { s with heap := s.heap.push { cls := .type "range",data := .fields #[.int lo t,.int hi u,.int 1 v] },toks := tk } := I.kept fun b o e => Heap.get?_push_of_some _ e
 refine ⟨(s.heap.push { cls := .type "range",data := .fields #[.int lo t,.int hi u,.int 1 v] }).objs.size,[(s.heap.push { cls := .type "range",data := .fields #[.int lo t,.int hi u,.int 1 v] }).objs.size],_,_,H,rfl,
  I1.kept (t' := tk) fun b o e => Heap.get?_push_of_some _ e,zel _ lo (hi - lo).toNat,?_,fun b hb => ?_,q⟩
 ·have e1 : lo + ((0 : Nat) : Int) * 1 = lo := by simp
  have e2 : (((hi - lo).toNat : Nat) : Int) - ((0 : Nat) : Int) = Builtin.Range.rangeSize lo hi 1 := by rw [rangeSize_one]; split <;> lia
  show IsRangeIter _ _ (lo + ((0 : Nat) : Int) * 1) ((((hi - lo).toNat : Nat) : Int) - ((0 : Nat) : Int)) 1
  rw [e1,e2]
  exact Heap.get?_push_size _ rfl
 ·have e : b = (s.heap.push { cls := .type "range",data := .fields #[.int lo t,.int hi u,.int 1 v] }).objs.size := by simpa using hb
  subst e
  exact I1.fpOk (Nat.le_refl _) (I1.hok.fresh (Nat.le_refl _))
noncomputable def iRng1 (ta : TA) : TI := fun σ H R => ta σ H fun vs H1 => ∃ j : Int,vs = [.int j] ∧ -(2 ^ 62) ≤ j ∧ j < 2 ^ 62 ∧ R (Itr 0 j.toNat) H1
theorem zfA {a : Expr} {ta : TA} {p pos : Pos} (hg : Gl X "range") (hm : X.mg "range" = none) (ha : PA X [a] ta) (hs : starEach [a] X.env = [(false,eval a X.env)] := by rfl) : PI X tg (.Call (.Name "range" p) [a] [] pos) (iRng1 ta) := by
 intro pins s σ H R I h
 refine Call_ (wb I hg hm boot_range (PyProof.Rows.callWith_type1 (thn (ha pos pins s σ H _ I h) fun us s1 ⟨vs,H1,I1,r1,q1⟩ => ?_) hs rfl))
 obtain ⟨j,e,q1,q2,q⟩ := q1
 subst e
 cases r1 with
 | cons r rr =>
   cases rr
   obtain ⟨t,rfl⟩ := r
   exact call_range_1 (zhg I1 (by lia) (by lia) q1 q2 (by simpa using q))
noncomputable def tFor (wi : TI) (g : TG) (tb : TS) : TS := fun D σ H => wi σ H fun J H1 => ∃ W : Nat → Nat → St → Hp → Prop,(∃ m,W 0 m σ H1) ∧ ∀ i m σ H,W i m σ H →
 (J.stop i H ∧ D.nx σ H) ∨ (J.go i H ∧ ∃ N : St → Hp → Prop,(∀ σ' H',N σ' H' → ∃ m',m' < m ∧ W (i + 1) m' σ' H') ∧ ∀ x H',J.yld i H x H' → g x σ H' fun σ2 H2 => tb { D with nx := N,ct := N,bk := D.nx } σ2 H2)
noncomputable def zbF (fp : List Addr) (h : Heap) : List (Addr × Obj) := fp.filterMap fun b => (h.get? b).map fun o => (b,o)
theorem wN {fp : List Addr} {h : Heap} {b : Addr} {o : Obj} (hb : b ∈ fp) (e : h.get? b = some o) : (b,o) ∈ zbF fp h := List.mem_filterMap.mpr ⟨b,hb,by rw [e]; rfl⟩
theorem zfI {fp : List Addr} {h : Heap} {p : Addr × Obj} (hp : p ∈ zbF fp h) : p.1 ∈ fp ∧ h.get? p.1 = some p.2 := by
 obtain ⟨b,hb,e⟩ := List.mem_filterMap.mp hp
 cases q : h.get? b with
 | none => rw [q] at e; cases e
 | some o =>
   rw [q] at e
   have e' : (b,o) = p := Option.some.inj e
   subst e'
   exact ⟨hb,q⟩
theorem Inv.pinned {pins : List (Addr × Obj)} {σ : St} {H : Hp} {s : Shared} {fp : List Addr} (I : Inv X pins σ H s) (hf : ∀ b ∈ fp,FpOk X pins H b) (ho : ∀ b ∈ fp,∃ o,s.heap.get? b = some o ∧ ∀ v,o.data ≠ .cell v) : Inv X (pins ++ zbF fp s.heap) σ H s :=
 I.pins_of fun p hp => (List.mem_append.mp hp).elim (fun z => I.pin p (List.mem_append_right _ z)) fun z => by
  obtain ⟨hb,e⟩ := zfI z
  obtain ⟨f0,f1,f2,_⟩ := hf p.1 hb
  obtain ⟨o,e',d⟩ := ho p.1 hb
  rw [e] at e'; cases e'
  exact ⟨e,f0,f1,f2,d⟩
theorem Inv.unpinned {pins pl : List (Addr × Obj)} {σ : St} {H : Hp} {s : Shared} (I : Inv X (pins ++ pl) σ H s) : Inv X pins σ H s := I.pins_of fun p hp => I.pin p (List.mem_append_right _ (List.mem_append_left _ hp))
theorem zid {iter : Expr} {body : List Stmt} {wi : TI} {g : TG} {tb : TS} {pos : Pos} (hp : PassesOwn (model X.prog X.w) X.A X.env X.xe) (hc : X.calm = true) (hi : PI X tg iter wi) (hg : PG X tg g) (hb : PSs X body tb)
 (hs : ∀ x,foldedSetIterable iter X.env x = pure x := by intro _; rfl) : PS X (.For tg iter body [] pos) (tFor wi g tb) := by
 intro pins s σ H D I h
 refine wpAny_For (thn (hi pins s σ H _ I h) fun v s1 h1 => thn h1 fun itv s2 h2 => ?_) hs
 obtain ⟨it,fp,tn,J,H2,e,I2,T,st2,f2,W,⟨m0,w0⟩,turn⟩ := h2
 subst e
 have stat : ∀ {H' : Hp},(∀ b ∈ fp,H' b = none) → ∀ b ∈ fp,FpOk X pins H' b := fun hn b hb => ⟨hn b hb,(f2 b hb).2⟩
 refine codeAny_forLoop_any (fun n s' => ∃ i σ' H',Inv X pins σ' H' s' ∧ tn i s'.heap ∧ (∀ b ∈ fp,H' b = none) ∧ W i n σ' H') ?_ m0 ⟨0,σ,H2,I2,st2,fun b hb => (f2 b hb).1,w0⟩
 rintro n s3 ⟨i,σ3,H3,I3,st3,fr3,w3⟩
 rcases turn i n σ3 H3 w3 with ⟨stop,qn⟩ | ⟨go,N,hN,step⟩
 ·refine wpAny_passesOwn hp (thn (T.done X rfl rfl rfl hc i pins s3 σ3 H3 X.xe I3 (stat fr3) st3 stop) fun r s4 ⟨hr,I4⟩ => ?_)
  subst hr
  exact wpAny_execs_nil ⟨σ3,H3,I4,qn⟩
 ·refine wpAny_passesOwn hp (thn (T.item X rfl rfl rfl hc i pins s3 σ3 H3 X.xe I3 (stat fr3) st3 go) fun r s4 ⟨u,hr,h4⟩ => ?_)
  subst hr
  refine wpAny_passesOwn hp (thn h4 fun _ s5 ⟨x,H5,I5,r5,y5,st5,fr5⟩ => ?_)
  have I5' := I5.pinned (stat fr5) (T.obj _ _ st5)
  refine wpAny_passesOwn hp (thn (hg _ s5 σ3 H5 x u _ I5' r5 (step x H5 y5)) fun _ s6 ⟨σ6,H6,I6,q6⟩ => ?_)
  refine wpAny_passesOwn hp (thn (hb _ s6 σ6 H6 _ I6 q6) fun f s7 q7 => ?_)
  have again : ∀ {σ7 : St} {H7 : Hp},Inv X (pins ++ zbF fp s5.heap) σ7 H7 s7 → N σ7 H7 → ∃ m,m < n ∧ ∃ i σ' H',Inv X pins σ' H' s7 ∧ tn i s7.heap ∧ (∀ b ∈ fp,H' b = none) ∧ W i m σ' H' := fun {σ7 H7} I7 n7 => by
   obtain ⟨m',hm,w7⟩ := hN σ7 H7 n7
   refine ⟨m',hm,i + 1,σ7,H7,I7.unpinned,T.keep _ _ _ st5 fun b hb o e => (I7.pin (b,o) (List.mem_append_right _ (List.mem_append_right _ (wN hb e)))).1,fun b hb => ?_,w7⟩
   obtain ⟨o,e,d⟩ := T.obj _ _ st5 b hb
   exact (I7.pin (b,o) (List.mem_append_right _ (List.mem_append_right _ (wN hb e)))).2.1
  cases f with
  | next => obtain ⟨σ7,H7,I7,n7⟩ := q7; exact again I7 n7
  | cont => obtain ⟨σ7,H7,I7,n7⟩ := q7; exact again I7 n7
  | brk => obtain ⟨σ7,H7,I7,q7⟩ := q7; exact ⟨σ7,H7,I7.unpinned,q7⟩
  | ret v => obtain ⟨x7,σ7,H7,I7,r7,q7⟩ := q7; exact ⟨x7,σ7,H7,I7.unpinned,r7,q7⟩
end
end L2
namespace L2
open PySem PySem.Spec PyProof.Rows
noncomputable abbrev R2 := V → V → Hp → VK → Prop
noncomputable def OpR (X : Cx) (f : Value → Value → Sem Value) (r : R2) : Prop :=
 ∀ (pins : List (Addr × Obj)) (s : Shared) (σ : St) (H : Hp) (x y : V) (v u : Value) (Q : VK),Inv X pins σ H s → RelV x v → RelV y u → r x y H Q →
   wpAny (model X.prog X.w) X.A (f v u) (EP X pins σ Q) X.xe s
noncomputable def UnR (X : Cx) (f : Value → Sem Value) (r : V → Hp → VK → Prop) : Prop :=
 ∀ (pins : List (Addr × Obj)) (s : Shared) (σ : St) (H : Hp) (x : V) (v : Value) (Q : VK),Inv X pins σ H s → RelV x v → r x H Q →
   wpAny (model X.prog X.w) X.A (f v) (EP X pins σ Q) X.xe s
noncomputable def wj (X : Cx) (f : Value) (r : List V → Hp → VK → Prop) : Prop :=
 ∀ (pins : List (Addr × Obj)) (s : Shared) (σ : St) (H : Hp) (xs : List V) (us : List Value) (Q : VK),Inv X pins σ H s → Vals xs us → r xs H Q →
   wpAny (model X.prog X.w) X.A (call f us) (EP X pins σ Q) X.xe s
noncomputable def TruR (X : Cx) (r : V → Hp → (Bool → Hp → Prop) → Prop) : Prop :=
 ∀ (pins : List (Addr × Obj)) (s : Shared) (σ : St) (H : Hp) (x : V) (v : Value) (Q : Bool → Hp → Prop),Inv X pins σ H s → RelV x v → r x H Q →
   wpAny (model X.prog X.w) X.A (truthy v) (TP X pins σ Q) X.xe s
noncomputable def tOp (r : R2) (ta tb : TE) : TE := fun σ H Q => ta σ H fun x H1 => tb σ H1 fun y H2 => r x y H2 Q
noncomputable def tUn (r : V → Hp → VK → Prop) (ta : TE) : TE := fun σ H Q => ta σ H fun x H1 => r x H1 Q
noncomputable def rI (C : Int → Int → Prop) (g : Int → Int → V) : R2 := fun x y H Q => ∃ i j,x = .int i ∧ y = .int j ∧ C i j ∧ Q (g i j) H
noncomputable def rI0 (g : Int → Int → V) : R2 := fun x y H Q => ∃ i j,x = .int i ∧ y = .int j ∧ Q (g i j) H
noncomputable def rU (g : Int → V) : V → Hp → VK → Prop := fun x H Q => ∃ i,x = .int i ∧ Q (g i) H
section
variable {X : Cx} {a b c : Expr} {ta tb tc : TE} {pos : Pos}
theorem binT (ha : PE X a ta) (hb : PE X b tb) {pins : List (Addr × Obj)} {s : Shared} {σ : St} {H : Hp} {R : V → V → Hp → Prop} (I : Inv X pins σ H s)
 (h : ta σ H fun x H1 => tb σ H1 fun y H2 => R x y H2) {Q : Value → Shared → Prop} {f : Value → Value → Sem Value}
 (hf : ∀ v u s2 x y H2,Inv X pins σ H2 s2 → RelV x v → RelV y u → R x y H2 → wpAny (model X.prog X.w) X.A (f v u) Q X.xe s2) :
 wpAny (model X.prog X.w) X.A (eval a X.env) (fun v s₁ => wpAny (model X.prog X.w) X.A (eval b X.env) (fun u s₂ => wpAny (model X.prog X.w) X.A (f v u) Q X.xe s₂) X.xe s₁) X.xe s := by
 refine thn (ha pins s σ H _ I h) fun v s1 ⟨x,H1,I1,r1,q1⟩ => ?_
 refine thn (hb pins s1 σ H1 _ I1 q1) fun u s2 ⟨y,H2,I2,r2,q2⟩ => ?_
 exact hf v u s2 x y H2 I2 r1 r2 q2
theorem pe_op {op : Operator} {r : R2} (ho : OpR X (binaryOp op) r) (ha : PE X a ta) (hb : PE X b tb) : PE X (.BinOp a op b pos) (tOp r ta tb) := by
 intro pins s σ H Q I h
 exact wpAny_BinOp (binT ha hb I h fun v u s2 x y H2 I2 rx ry q => ho pins s2 σ H2 x y v u Q I2 rx ry q)
theorem pe_un {op : UnaryOp} {r : V → Hp → VK → Prop} (ho : UnR X (unaryOp op) r) (ha : PE X a ta) : PE X (.UnaryOp op a pos) (tUn r ta) := by
 intro pins s σ H Q I h
 exact UnaryOp_ (thn (ha pins s σ H _ I h) fun v s1 ⟨x,H1,I1,r1,q1⟩ => ho pins s1 σ H1 x v Q I1 r1 q1)
theorem opI {f : Value → Value → Sem Value} {C : Int → Int → Prop} {g : Int → Int → Int}
 (rule : ∀ (i j : Int) (t u : Tok) (s : Shared) (Q : Value → Shared → Prop) (E : Value → Shared → Prop),C i j → Q (.int (g i j) s.toks) { s with toks := s.toks + 1 } → wpAny (model X.prog X.w) X.A (f (.int i t) (.int j u)) Q E s) :
 OpR X f (rI C fun i j => .int (g i j)) := by
 intro pins s σ H x y v u Q I rx ry h
 obtain ⟨i,j,rfl,rfl,hc,q⟩ := h
 obtain ⟨t,rfl⟩ := rx
 obtain ⟨t',rfl⟩ := ry
 exact rule i j t t' s _ _ hc ⟨.int (g i j),H,I.tok _,⟨_,rfl⟩,q⟩
theorem opI0 {f : Value → Value → Sem Value} {g : Int → Int → Int}
 (rule : ∀ (i j : Int) (t u : Tok) (s : Shared) (Q : Value → Shared → Prop) (E : Value → Shared → Prop),Q (.int (g i j) s.toks) { s with toks := s.toks + 1 } → wpAny (model X.prog X.w) X.A (f (.int i t) (.int j u)) Q E s) :
 OpR X f (rI0 fun i j => .int (g i j)) := by
 intro pins s σ H x y v u Q I rx ry h
 obtain ⟨i,j,rfl,rfl,q⟩ := h
 obtain ⟨t,rfl⟩ := rx
 obtain ⟨t',rfl⟩ := ry
 exact rule i j t t' s _ _ ⟨.int (g i j),H,I.tok _,⟨_,rfl⟩,q⟩
theorem opB0 {f : Value → Value → Sem Value} {g : Int → Int → Bool}
 (rule : ∀ (i j : Int) (t u : Tok) (s : Shared) (Q : Value → Shared → Prop) (E : Value → Shared → Prop),Q (.bool (g i j)) s → wpAny (model X.prog X.w) X.A (f (.int i t) (.int j u)) Q E s) :
 OpR X f (rI0 fun i j => .bl (g i j)) := by
 intro pins s σ H x y v u Q I rx ry h
 obtain ⟨i,j,rfl,rfl,q⟩ := h
 obtain ⟨t,rfl⟩ := rx
 obtain ⟨t',rfl⟩ := ry
 exact rule i j t t' s _ _ ⟨.bl (g i j),H,I,rfl,q⟩
noncomputable def CPow (i j : Int) : Prop := 0 ≤ j ∧ j ≤ 1000000 ∧ i.natAbs < 2 ^ 64
noncomputable def CMul (i j : Int) : Prop := (-(2 ^ 64) < i ∧ i < 2 ^ 64) ∨ (-(2 ^ 64) < j ∧ j < 2 ^ 64)
theorem CMul.ok {i j : Int} (h : CMul i j) : IntMulOk i j := by
 rcases h with ⟨h1,h2⟩ | ⟨h1,h2⟩
 ·exact .of_left (intBits_le_64 h1 h2)
 ·exact .of_right (intBits_le_64 h1 h2)
theorem zkc : OpR X (binaryOp .Add) (rI0 fun i j => .int (i + j)) := opI0 fun _ _ _ _ _ _ _ q => add_int q
theorem zj4 : OpR X (binaryOp .Sub) (rI0 fun i j => .int (i - j)) := opI0 fun _ _ _ _ _ _ _ q => sub_int q
theorem zj6 : OpR X (binaryOp .Mult) (rI CMul fun i j => .int (i * j)) := opI fun _ _ _ _ _ _ _ hc q => mul_int q hc.ok
theorem zj7 : OpR X (binaryOp .Mod) (rI (fun _ j => 0 < j) fun i j => .int (i % j)) := opI fun i j _ _ _ _ _ hc q => by
 have h1 : (0 : Int) < j := hc
 exact mod_int' (by lia) (by rw [Int.fmod_eq_emod_of_nonneg i (by lia)]; exact q)
theorem zj5 : OpR X (binaryOp .Pow) (rI CPow fun i j => .int (i ^ j.toNat)) := opI fun _ _ _ _ _ _ _ hc q => pow_int_small hc.1 hc.2.1 hc.2.2 q
theorem unI {f : Value → Sem Value} {g : Int → Int}
 (rule : ∀ (i : Int) (t : Tok) (s : Shared) (Q : Value → Shared → Prop) (E : Value → Shared → Prop),Q (.int (g i) s.toks) { s with toks := s.toks + 1 } → wpAny (model X.prog X.w) X.A (f (.int i t)) Q E s) :
 UnR X f (rU fun i => .int (g i)) := by
 intro pins s σ H x v Q I rx h
 obtain ⟨i,rfl,q⟩ := h
 obtain ⟨t,rfl⟩ := rx
 exact rule i t s _ _ ⟨.int (g i),H,I.tok _,⟨_,rfl⟩,q⟩
theorem zjG : UnR X (unaryOp .USub) (rU fun i => .int (-i)) := unI fun _ _ _ _ _ q => neg_int q
end
section
variable {X : Cx} {a b c : Expr} {ta tb tc : TE} {pos : Pos}
theorem zkz {pins : List (Addr × Obj)} {σ : St} {H : Hp} {s : Shared} {Q : VK} {k k' : Bool} (I : Inv X pins σ H s) (q : Q (.bl k) H) (e : k = k') : EP X pins σ Q (.bool k') s := by
 subst e
 exact ⟨.bl k,H,I,rfl,q⟩
theorem ziX : OpR X (compareOp .Lt) (rI0 fun i j => .bl (decide (i < j))) := opB0 fun _ _ _ _ _ _ _ q => lt_int q
theorem zka : OpR X (compareOp .Gt) (rI0 fun i j => .bl (decide (j < i))) := opB0 fun _ _ _ _ _ _ _ q => gt_int q
theorem zj8 : OpR X (compareOp .Is) (fun x y H Q => y = .non ∧ Q (.bl (decide (x = .non))) H) := by
 intro pins s σ H x y v u Q I rx ry h
 obtain ⟨rfl,q⟩ := h
 cases ry
 refine is_none_gen (zkz I q ?_)
 cases x <;> first
  | (cases rx; rfl)
  | (obtain ⟨t,rfl⟩ := rx; rfl)
theorem OpR.or {f : Value → Value → Sem Value} {r r' : R2} (h : OpR X f r) (h' : OpR X f r') : OpR X f (fun x y H Q => r x y H Q ∨ r' x y H Q) := by
 intro pins s σ H x y v u Q I rx ry q
 rcases q with q | q
 ·exact h pins s σ H x y v u Q I rx ry q
 ·exact h' pins s σ H x y v u Q I rx ry q
theorem uu (b : Expr) {op : CmpOp} (h : op ≠ .In := by decide) (h2 : op ≠ .NotIn := by decide) : behindInMarks op b = false := by
 have e1 : (op == CmpOp.In) = false := by cases op <;> first | rfl | exact absurd rfl h
 have e2 : (op == CmpOp.NotIn) = false := by cases op <;> first | rfl | exact absurd rfl h2
 cases b <;> simp [behindInMarks,e1,e2]
theorem ziT {op : CmpOp} {r : R2} (ho : OpR X (compareOp op) r) (ha : PE X a ta) (hb : PE X b tb) (hm : behindInMarks op b = false) : PE X (.Compare a [op] [b] pos) (tOp r ta tb) := by
 intro pins s σ H Q I h
 exact wpAny_Compare1 (binT ha hb I h fun v u s2 x y H2 I2 rx ry q => ho pins s2 σ H2 x y v u Q I2 rx ry q) hm
noncomputable def zjK (t : TE) : TT := fun σ H Q => t σ H fun x H' => ∃ k,x = .bl k ∧ Q k H'
theorem ziL {op : CmpOp} {r : R2} (ho : OpR X (compareOp op) r) (ha : PE X a ta) (hb : PE X b tb) (hm : behindInMarks op b = false) : PT X (.Compare a [op] [b] pos) (zjK (tOp r ta tb)) := by
 intro pins s σ H Q I h
 refine wpAny_isTrue_Compare1 (thn (ha pins s σ H _ I h) fun v s1 ⟨x,H1,I1,r1,q1⟩ => thn (hb pins s1 σ H1 _ I1 q1) fun u s2 ⟨y,H2,I2,r2,q2⟩ =>
  thn (ho pins s2 σ H2 x y v u _ I2 r1 r2 q2) fun c s3 ⟨z,H3,I3,r3,k,e,q3⟩ => ?_) hm
 subst e
 cases r3
 exact wpAny_truthy_bool ⟨H3,I3,q3⟩
noncomputable def zh2 (r r' : R2) (ta tb tc : TE) : TE := fun σ H Q => ta σ H fun x H1 => tb σ H1 fun y H2 => r x y H2 fun z H3 => ∃ k,z = .bl k ∧
 (if k = true then tc σ H3 fun w' H4 => r' y w' H4 Q else Q (.bl false) H3)
theorem zhj {op op' : CmpOp} {r r' : R2} (ho : OpR X (compareOp op) r) (ho' : OpR X (compareOp op') r') (ha : PE X a ta) (hb : PE X b tb) (hc : PE X c tc)
 (hm : lastMarks [op,op'] [b,c] = false := by with_unfolding_all rfl) : PT X (.Compare a [op,op'] [b,c] pos) (zjK (zh2 r r' ta tb tc)) := by
 intro pins s σ H Q I h
 refine isTrue_chain (thn (ha pins s σ H _ I h) fun v s1 ⟨x,H1,I1,r1,q1⟩ => test_link (thn (hb pins s1 σ H1 _ I1 q1) fun u s2 ⟨y,H2,I2,r2,q2⟩ =>
  thn (ho pins s2 σ H2 x y v u _ I2 r1 r2 q2) fun d s3 ⟨z,H3,I3,r3,k,e,q3⟩ => ?_)) hm
 subst e
 cases r3
 refine wpAny_truthy_bool ?_
 cases k with
 | false =>
   obtain ⟨k',e',q'⟩ := q3
   cases e'
   exact ite_ff ⟨H3,I3,q'⟩
 | true =>
   refine ite_tt (test_last (thn (hc pins s3 σ H3 _ I3 q3) fun w' s4 ⟨z',H4,I4,r4,q4⟩ => thn (ho' pins s4 σ H4 y z' u w' _ I4 r2 r4 q4) fun d' s5 ⟨z2,H5,I5,r5,k2,e2,q5⟩ => ?_))
   subst e2
   cases r5
   exact wpAny_truthy_bool ⟨H5,I5,q5⟩
noncomputable def TruV (K : PySem.W.Frag) (x : V) (H : Hp) (k : Bool) : Prop :=
 match x with
 | .non => k = false
 | .bl b => k = b
 | .int i => k = (i != 0)
 | .str y => y.length ≤ sizeLine ∧ k = ((y.length : Int) != 0)
 | .byt y => y.size ≤ sizeLine ∧ k = ((y.size : Int) != 0)
 | .ref p => (∃ xs,SqL K H p xs ∧ k = !xs.isEmpty) ∨ (∃ xs,SqT K H p xs ∧ k = !xs.isEmpty) ∨ ∃ kvs,H p = some (.dK kvs) ∧ k = !kvs.isEmpty
 | _ => False
theorem zeM {κ : Type} {kvs : List (κ × V)} {vs : List (κ × Value)} (r : KV kvs vs) : (!vs.isEmpty) = !kvs.isEmpty := by
 cases r <;> rfl
theorem zat {xs : List V} {its : List Value} (r : Vals xs its) : (!its.toArray.isEmpty) = !xs.isEmpty := by
 cases r <;> simp
theorem zbQ : (sizeLine : Nat) < 2 ^ 63 := by rw [sizeLine_eq]; decide
theorem zjH : TruR X (fun x H Q => ∃ k,TruV X.K x H k ∧ Q k H) := by
 intro pins s σ H x v Q I rx h
 obtain ⟨k,e,q⟩ := h
 have hl := zbQ
 have hs : sizeLine = 16777216 := sizeLine_eq
 cases x with
 | non =>
   cases rx
   have e' : k = false := e
   subst e'
   exact truthy_none ⟨H,I,q⟩
 | bl b =>
   cases rx
   have e' : k = b := e
   subst e'
   exact wpAny_truthy_bool ⟨H,I,q⟩
 | int i =>
   obtain ⟨t,rfl⟩ := rx
   have e' : k = (i != 0) := e
   subst e'
   exact PySem.P.truthy_int ⟨H,I,q⟩
 | str y =>
   obtain ⟨t,rfl⟩ := rx
   obtain ⟨hy,e'⟩ : y.length ≤ sizeLine ∧ k = ((y.length : Int) != 0) := e
   subst e'
   exact PySem.P.truthy_str (by lia) ⟨H,I.tok _,q⟩
 | byt y =>
   obtain ⟨t,rfl⟩ := rx
   obtain ⟨hy,e'⟩ : y.size ≤ sizeLine ∧ k = ((y.size : Int) != 0) := e
   subst e'
   exact PySem.W.truthy_bytes (by lia) ⟨H,I.tok _,q⟩
 | ref p =>
   cases rx
   have e' : (∃ xs,SqL X.K H p xs ∧ k = !xs.isEmpty) ∨ (∃ xs,SqT X.K H p xs ∧ k = !xs.isEmpty) ∨ ∃ kvs,H p = some (.dK kvs) ∧ k = !kvs.isEmpty := e
   rcases e' with ⟨xs,hx,e'⟩ | ⟨xs,hx,e'⟩ | ⟨kvs,hx,e'⟩
   ·subst e'
    obtain ⟨its,r,pl,hz⟩ := I.list hx
    have hlen := r.length
    exact wpAny_truthy_list pl.isList (by simp only [List.size_toArray]; lia) ⟨H,I.tok _,by rw [zat r]; exact q⟩
   ·subst e'
    obtain ⟨its,r,pl,hz⟩ := I.tuple hx
    have hlen := r.length
    exact truthy_tuple pl (by simp only [List.size_toArray]; lia) ⟨H,I.tok _,by rw [zat r]; exact q⟩
   ·subst e'
    obtain ⟨hz,hS,vs,r,m⟩ : kvs.length ≤ sizeLine ∧ (p == sysModules) = false ∧ ∃ vs,KV kvs vs ∧ s.heap.DictOf (ww X.prog X.w) p vs := I.hok p _ hx
    have hlen : kvs.length = vs.length := Paired.length r
    exact wpAny_truthy_dict hS m (by lia) ⟨H,I.tok _,by rw [zeM r]; exact q⟩
 | _ => exact (show False from e).elim
theorem zhi (ha : PE X a ta) (he : ∀ whole,isTrue a X.env whole = (do let v ← whole; standAt a.pos; holding [v] (truthy v))) :
 PT X a (fun σ H Q => ta σ H fun x H' => ∃ k,TruV X.K x H' k ∧ Q k H') := by
 intro pins s σ H Q I h
 exact isTrue_plain (thn (ha pins s σ H _ I h) fun v s1 ⟨x,H1,I1,r1,q1⟩ => zjH pins s1 σ H1 x v Q I1 r1 q1) (he _)
theorem wk {x : V} {us : List Value} (r : Vals [x] us) : ∃ u,us = [u] ∧ RelV x u := by
 cases r with
 | cons r1 r2 => cases r2; exact ⟨_,rfl,r1⟩
theorem zfa {x y : V} {us : List Value} (r : Vals [x,y] us) : ∃ u w',us = [u,w'] ∧ RelV x u ∧ RelV y w' := by
 cases r with
 | cons r1 r2 =>
   cases r2 with
   | cons r3 r4 => cases r4; exact ⟨_,_,rfl,r1,r3⟩
theorem zci (hc : X.calm = true) : wj X (.builtin "max") (fun xs H Q => ∃ i j,xs = [.int i,.int j] ∧ Q (.int (if j > i then j else i)) H) := by
 intro pins s σ H xs us Q I r h
 obtain ⟨i,j,rfl,q⟩ := h
 obtain ⟨u,w',rfl,⟨t,rfl⟩,⟨t',rfl⟩⟩ := zfa r
 refine max_two_ints (I.ok.hd hc) fun h' tk k => ⟨_,H,I.kept k,?_,q⟩
 by_cases hj : j > i
 ·rw [if_pos hj,if_pos hj]; exact ⟨_,rfl⟩
 ·rw [if_neg hj,if_neg hj]; exact ⟨_,rfl⟩
theorem zch (hc : X.calm = true) : wj X (.builtin "min") (fun xs H Q => ∃ i j,xs = [.int i,.int j] ∧ Q (.int (if j < i then j else i)) H) := by
 intro pins s σ H xs us Q I r h
 obtain ⟨i,j,rfl,q⟩ := h
 obtain ⟨u,w',rfl,⟨t,rfl⟩,⟨t',rfl⟩⟩ := zfa r
 refine min_two_ints (I.ok.hd hc) fun h' tk k => ⟨_,H,I.kept k,?_,q⟩
 by_cases hj : j < i
 ·rw [if_pos hj,if_pos hj]; exact ⟨_,rfl⟩
 ·rw [if_neg hj,if_neg hj]; exact ⟨_,rfl⟩
theorem zgw : wj X (.type "int") (fun xs H Q => (∃ i,xs = [.int i] ∧ Q (.int i) H) ∨ ∃ k,xs = [.bl k] ∧ Q (.int (if k then 1 else 0)) H) := by
 intro pins s σ H xs us Q I r h
 rcases h with ⟨i,rfl,q⟩ | ⟨k,rfl,q⟩
 ·obtain ⟨u,rfl,t,rfl⟩ := wk r
  exact call_int_int ⟨.int i,H,I,⟨_,rfl⟩,q⟩
 ·obtain ⟨u,rfl,r1⟩ := wk r
  cases r1
  exact call_int_bool ⟨.int (if k then 1 else 0),H,I.tok _,⟨_,rfl⟩,q⟩
end
end L2
namespace L2
open PySem PySem.Spec PyProof.Rows
structure ObjM (h : Heap) (x dx C : Addr) (mA : Str → Option Value) : Prop where
 obj : h.get? x = some (PySem.W.instObj C dx)
 ns : h.Ns1 dx mA
 ne : dx ≠ x
theorem zfV {h : Heap} {dx : Addr} {mA : Str → Option Value} (n : h.Ns1 dx mA) : ∃ od,h.get? dx = some od ∧ ∀ name,PySem.W.lookIn name od = some (mA name) := by
 obtain ⟨o,es,ep,ho,hd,hk,_,hm⟩ := n
 refine ⟨o,ho,fun name => ?_⟩
 have e := hm name
 unfold nsFind findBy at e
 rw [← Array.find?_toList] at e
 unfold PySem.W.lookIn
 rw [hd]
 dsimp only
 split
 ·rename_i y q
  rw [q] at e
  exact congrArg some e
 ·rename_i q
  rw [q] at e
  have a : es.toList.any (·.refKey) = false := by
   rw [List.any_eq_false]
   intro y hy
   obtain ⟨z,t,hkey⟩ := hk y (Array.mem_toList_iff.mp hy)
   simp [DictEntry.refKey,hkey]
  have a' : ¬ es.toList.any (·.refKey) = true := by rw [a]; exact Bool.false_ne_true
  rw [if_neg a']
  exact congrArg some e
theorem ObjM.look {h : Heap} {x dx C : Addr} {mA : Str → Option Value} (I : ObjM h x dx C mA) : ∃ od,PySem.W.InstAt h x (PySem.W.instObj C dx) C (some od) ∧ ∀ name,PySem.W.lookIn name od = some (mA name) :=
 let ⟨od,ho,hl⟩ := zfV I.ns
 ⟨od,⟨I.obj,rfl,rfl,ho⟩,hl⟩
section
variable {prog : Program} {w : World} {A : Around} {E : Value → Shared → Prop} {s : Shared} {K : PySem.W.Frag} {x dx C f : Addr} {mA : Str → Option Value} {name : Str} {v : Value}
end
section
variable {P : Program} {w : World} {H H' : Hp} {h h' : Heap} {a C dx : Addr} {fs fs' : List (Str × V)}
theorem zjb (hok : HOk P w H h) (e : H a = some (.ins C dx fs)) : ∃ mA,ObjM h a dx C mA ∧ (∀ f,RelO (fs.lookup f) (mA f)) ∧ PySem.Within mA (fs.map (·.1)) ∧ fs.length ≤ 1000 ∧ H dx = some (.own a) := by
 obtain ⟨d,z,ne,ob,mA,n,r,q⟩ := (show xx P w H h a (.ins C dx fs) from hok a _ e)
 exact ⟨mA,⟨ob,n,ne⟩,r,q,z,d⟩
end
structure Cls (K : PySem.W.Frag) (C : Addr) : Prop where
 pg : PySem.W.plainGet K C Str.empty = true
 hd : PySem.W.hasDictIn K C = true
 po : PySem.W.plainOver K C = true
 sa : PySem.W.findIn K (.ref C) "__setattr__" = some (some (.builtin "object.__setattr__"))
theorem Cls.get {K : PySem.W.Frag} {C : Addr} (c : Cls K C) (f : Str) : PySem.W.plainGet K C f = true := c.pg
structure Con (K : PySem.W.Frag) (C : Addr) (f : Str) (v : V) (u : Value) : Prop where
 at_ : PySem.W.findIn K (.ref C) f = some (some u)
 rel : RelV v u
 get : PySem.W.specialIn K u "__get__" = some none
 cp : PySem.W.copiedNames.contains f = false
structure Meth (K : PySem.W.Frag) (C : Addr) (m : Str) (f : Addr) : Prop where
 at_ : PySem.W.findIn K (.ref C) m = some (some (.ref f))
 fn : PySem.W.isFn K (.ref f) = true
 kp : PySem.W.keepIn K (.ref f) = true
section
variable {X : Cx} {pins : List (Addr × Obj)} {σ : St} {H : Hp} {s : Shared} {a C dx : Addr} {fs : List (Str × V)} {f : Str} {v : V} {A : Around} {E : Value → Shared → Prop}
end
section
variable {X : Cx} {o e value : Expr} {f : Str} {pos pos' tpos : Pos} {ta tv : TE}
end
section
variable {X : Cx} {pins : List (Addr × Obj)} {σ : St} {H : Hp} {s : Shared} {A : Around} {E : Value → Shared → Prop} {Q : Value → Shared → Prop} {c : Value} {b : Bool}
inductive TyOf (K : PySem.W.Frag) (H : Hp) : V → Value → Prop where
 | non : TyOf K H .non (.type "NoneType")
 | bl (x : Bool) : TyOf K H (.bl x) (.type "bool")
 | int (i : Int) : TyOf K H (.int i) (.type "int")
 | str (x : Str) : TyOf K H (.str x) (.type "str")
 | flt (x : UInt64) : TyOf K H (.flt x) (.type "float")
 | lst {a : Addr} {xs : List V} (e : H a = some (.lst xs)) : TyOf K H (.ref a) (.type "list")
 | frz {a : Addr} {o : Obj} {xs : List V} (e : H a = some (.frz o (.lst xs))) : TyOf K H (.ref a) (.type "list")
 | tup {a : Addr} {xs : List V} (e : H a = some (.tup xs)) : TyOf K H (.ref a) (.type "tuple")
 | dK {a : Addr} {kvs : List (Key × V)} (e : H a = some (.dK kvs)) : TyOf K H (.ref a) (.type "dict")
 | dT {a : Addr} {kvs : List (List Key × V)} (e : H a = some (.dT kvs)) : TyOf K H (.ref a) (.type "dict")
 | ins {a C dx : Addr} {fs : List (Str × V)} (e : H a = some (.ins C dx fs)) (cl : Cls K C) (ha : PySem.W.findIn K (.ref C) "__class__" = some (some (.builtin "object.__class__")))
  (hn : PySem.W.specialIn K (.builtin "object.__class__") "__get__" = some (some (.builtin "getset_descriptor.__get__"))) (htk : PySem.W.takesIn K (.builtin "object.__class__") = some true)
  (hm : PySem.W.mroIn K C (.type "object") = some true) : TyOf K H (.ref a) (.ref C)
theorem zf2 {x : V} {u t : Value} (I : Inv X pins σ H s) (rx : RelV x u) (ty : TyOf X.K H x t) (e : PySem.W.kitOne X.K t c = some b) (h : ∀ tk,Q (.bool b) { s with toks := tk }) :
 wpAny (model X.prog X.w) A (call (.builtin "isinstance") [u,c]) Q E s := by
 cases ty with
 | non => cases (show u = Value.none from rx); exact PySem.W.kia_one PySem.W.kitx_none I.kIn True.intro e (fun z => nomatch z) h
 | bl y => cases (show u = Value.bool y from rx); exact PySem.W.kia_one PySem.W.kitx_bool I.kIn True.intro e (fun z => nomatch z) h
 | int i => obtain ⟨t,q⟩ := (show ∃ t,u = Value.int i t from rx); cases q; exact PySem.W.kia_one PySem.W.kitx_int I.kIn True.intro e (fun z => nomatch z) h
 | str y => obtain ⟨t,q⟩ := (show ∃ t,u = Value.str y t from rx); cases q; exact PySem.W.kia_one PySem.W.kitx_str I.kIn True.intro e (fun z => nomatch z) h
 | flt y => obtain ⟨t,q⟩ := (show ∃ t,u = Value.float y t from rx); cases q; exact PySem.W.kia_one PySem.W.kitx_float I.kIn True.intro e (fun z => nomatch z) h
 | @lst a xs ea =>
   cases (show u = Value.ref a from rx)
   obtain ⟨_,_,n,_,h1⟩ := (show xx X.prog X.w H s.heap a (.lst xs) from I.hok a _ ea)
   exact PySem.W.kia_one PySem.W.kitx_list I.kIn ⟨_,h1,rfl⟩ e (fun z => nomatch z) h
 | @frz a ob xs ea =>
   cases (show u = Value.ref a from rx)
   obtain ⟨_,_,_,n,_,h1⟩ := (show xx X.prog X.w H s.heap a (.frz ob (.lst xs)) from I.hok a _ ea)
   exact PySem.W.kia_one PySem.W.kitx_list I.kIn ⟨_,h1,rfl⟩ e (fun z => nomatch z) h
 | @tup a xs ea =>
   cases (show u = Value.ref a from rx)
   obtain ⟨_,_,_,p⟩ := (show xx X.prog X.w H s.heap a (.tup xs) from I.hok a _ ea)
   obtain ⟨o,h1,h2,_⟩ := p
   exact PySem.W.kia_one PySem.W.kitx_tuple I.kIn ⟨o,h1,h2⟩ e (fun z => nomatch z) h
 | @dK a kvs ea =>
   cases (show u = Value.ref a from rx)
   obtain ⟨_,_,vs,_,p⟩ := (show xx X.prog X.w H s.heap a (.dK kvs) from I.hok a _ ea)
   obtain ⟨o,es,ep,h1,h2,_⟩ := p
   exact PySem.W.kia_one PySem.W.kitx_dict I.kIn ⟨o,h1,h2.1⟩ e (fun z => nomatch z) h
 | @dT a kvs ea =>
   cases (show u = Value.ref a from rx)
   obtain ⟨_,_,xs,_,o,es,ep,h1,h2,_⟩ := (show xx X.prog X.w H s.heap a (.dT kvs) from I.hok a _ ea)
   exact PySem.W.kia_one PySem.W.kitx_dict I.kIn ⟨o,h1,h2.1⟩ e (fun z => nomatch z) h
 | @ins a C dx fs ea cl ha hn htk hm =>
   cases (show u = Value.ref a from rx)
   obtain ⟨mA,O,_⟩ := zjb I.hok ea
   obtain ⟨od,J,_⟩ := O.look
   exact PySem.W.kia_one (PySem.W.kitx_own (cl.get _) cl.hd ha hn htk hm) I.kIn J e (fun z => nomatch z) h
end
end L2
namespace L2
open PySem PySem.Spec PyProof.Rows
structure Room (k : Nat) (A : Around) : Prop where
 hd : A.handled = none
 dp : A.depth + 3 * k + 5 < recursionLimit
 un : A.units + 16 * k + 200 < cLine
theorem Room.mono {j k : Nat} {A : Around} (r : Room k A) (h : j ≤ k) : Room j A := ⟨r.hd,by have := r.dp; lia,by have := r.un; lia⟩
theorem Room.deeper {k : Nat} {A : Around} (r : Room (k + 1) A) (env : Env) : Room k (A.deeper env) :=
 ⟨r.hd,by have := r.dp; show A.depth + 1 + 3 * k + 5 < _; lia,by have := r.un; show A.units + 3 + 16 * k + 200 < _; lia⟩
theorem Room.depth {k : Nat} {A : Around} (r : Room k A) : A.depth < recursionLimit := by have := r.dp; lia
theorem Room.units {k : Nat} {A : Around} (r : Room k A) : A.units + 64 < cLine := by have := r.un; lia
noncomputable def tNil : TA := fun _ H Q => Q [] H
noncomputable def zac (ta : TE) (tr : TA) : TA := fun σ H Q => ta σ H fun x H1 => tr σ H1 fun xs H2 => Q (x :: xs) H2
section
variable {X : Cx} {e : Expr} {es : List Expr} {te : TE} {t : TA} {pos : Pos}
theorem yF : PA X [] tNil := fun _ _ _ _ H Q I h => Calls.spliced_nil ⟨[],H,I,.nil,h⟩
theorem zU (ha : PE X e te) (hr : PA X es t) (hs : starEach (e :: es) X.env = (false,eval e X.env) :: starEach es X.env := by rfl) : PA X (e :: es) (zac te t) := by
 intro pos pins s σ H Q I h
 rw [hs]
 show wpAny _ _ (spliced ((false,eval e X.env) :: backTo pos (starEach es X.env))) _ _ s
 refine Calls.spliced_cons (thn (ha pins s σ H _ I h) fun u s1 ⟨x,H1,I1,r1,q1⟩ => ?_)
 exact thn (hr pos pins s1 σ H1 _ I1 q1) fun us s2 ⟨xs,H2,I2,r2,q2⟩ => ⟨x :: xs,H2,I2,.cons r1 r2,q2⟩
noncomputable def tTup (t : TA) : TE := fun σ H Q => t σ H fun xs H1 => xs.length ≤ sizeLine ∧ ∀ p,H1 p = none → Q (.ref p) (upd H1 p (.tup xs))
noncomputable def tLst (t : TA) : TE := fun σ H Q => t σ H fun xs H1 => xs.length ≤ sizeLine ∧ ∀ p,H1 p = none → Q (.ref p) (upd H1 p (.lst xs))
theorem zjX {x1} (h : PA X es t) : PE X (.Tuple es x1 pos) (tTup t) := by
 intro pins s σ H Q I hq
 refine wpAny_Tuple_spliced (thn (h pos pins s σ H _ I hq) fun us s1 ⟨xs,H1,I1,r,z,q⟩ => ⟨by rw [← r.length]; exact z,?_⟩)
 have hf : H1 s1.heap.objs.size = none := I1.hok.fresh (Nat.le_refl _)
 refine ⟨.ref s1.heap.objs.size,upd H1 s1.heap.objs.size (.tup xs),I1.laid (t' := s1.toks) (fun b u e => Heap.get?_push_of_some _ e) (Nat.le_refl _) ?_,rfl,q _ hf⟩
 exact ⟨z,us,r,⟨_,Heap.get?_push_size _ rfl,rfl,_,rfl⟩⟩
theorem zif (h : PA X es t) : PE X (.List es pos) (tLst t) := by
 intro pins s σ H Q I hq
 refine wpAny_List_spliced (thn (h pos pins s σ H _ I hq) fun us s1 ⟨xs,H1,I1,r,z,q⟩ => ⟨by rw [← r.length]; exact z,?_⟩)
 have hf : H1 s1.heap.objs.size = none := I1.hok.fresh (Nat.le_refl _)
 refine ⟨.ref s1.heap.objs.size,upd H1 s1.heap.objs.size (.lst xs),I1.laid (t' := s1.toks) (fun b u e => Heap.get?_push_of_some _ e) (Nat.le_refl _) ?_,rfl,q _ hf⟩
 exact ⟨z,us,0,r,Heap.get?_push_size _ rfl⟩
end
noncomputable abbrev Sp := List V → Hp → VK → XK → Prop
noncomputable abbrev CXT := List Env → Hp → Shared → XK → Value → Shared → Prop
structure Env0 (P : Program) (w : World) (K : PySem.W.Frag) (mg : Str → Option Value) (base : Heap) (A : Around) (outer : List Env) (s : Shared) (H : Hp) : Prop where
 frames : A.frames = some outer
 mod : Mod K mg base
 bs : ∀ b o,base.get? b = some o → s.heap.get? b = some o ∧ H b = none
 bsz : base.objs.size ≤ s.heap.objs.size
 funs : s.heap.FunFrames base outer
 frf : ∀ b ∈ frs outer,H b = none
 hok : HOk P w H s.heap
 bare : AllBare s.gens
noncomputable def CE (outer : List Env) (P : Program) (w : World) (H : Hp) (s : Shared) (Q : VK) (u : Value) (s' : Shared) : Prop :=
 ∃ v H',s'.os = s.os ∧ AllBare s'.gens ∧ Un (frs outer) [] H H' s.heap s'.heap ∧ HOk P w H' s'.heap ∧ RelV v u ∧ Q v H'
noncomputable def CR (CX : CXT) (outer : List Env) (P : Program) (w : World) (H : Hp) (s : Shared) (Q : VK) (E : XK) (r : Result) (s' : Shared) : Prop :=
 match r with
 | .ok (.ret u) => CE outer P w H s Q u s'
 | .ok _ => False
 | .error e => CX outer H s E e s'
structure FnOk (P : Program) (w : World) (K : PySem.W.Frag) (mg : Str → Option Value) (base : Heap) (CX : CXT) (k : Nat) (f : Addr) (fd : FuncData) (ps : List Str) (sp : Sp) : Prop where
 len : ∀ vs H Q E,sp vs H Q E → vs.length = ps.length
 run : ∀ (A : Around) (outer : List Env) (s : Shared) (H : Hp) (args : Args) (us : List Value) (vs : List V) (Q : VK) (E : XK),Room k A → Env0 P w K mg base A outer s H → BindsTo s fd args (ps.zip us) → Vals vs us → sp vs H Q E →
  codeAny (model P w) A (.call (.ref f) args) (CR CX outer P w H s Q E) s
theorem FnOk.mono {P : Program} {w : World} {K : PySem.W.Frag} {mg : Str → Option Value} {base : Heap} {CX : CXT} {j k : Nat} {f : Addr} {fd : FuncData} {ps : List Str} {sp : Sp} (F : FnOk P w K mg base CX j f fd ps sp) (h : j ≤ k) :
 FnOk P w K mg base CX k f fd ps sp := ⟨F.len,fun A outer s H args us vs Q E hr => F.run A outer s H args us vs Q E (hr.mono h)⟩
theorem FnOk.imp {P : Program} {w : World} {K : PySem.W.Frag} {mg : Str → Option Value} {base : Heap} {CX : CXT} {k : Nat} {f : Addr} {fd : FuncData} {ps : List Str} {sp sp' : Sp} (F : FnOk P w K mg base CX k f fd ps sp)
 (h : ∀ vs H Q E,sp' vs H Q E → sp vs H Q E) : FnOk P w K mg base CX k f fd ps sp' :=
 ⟨fun vs H Q E q => F.len vs H Q E (h _ _ _ _ q),fun A outer s H args us vs Q E hr he hb hv hs => F.run A outer s H args us vs Q E hr he hb hv (h _ _ _ _ hs)⟩
section
variable {X : Cx} {pins : List (Addr × Obj)} {σ : St} {H : Hp} {s s' : Shared}
theorem Inv.env0 (I : Inv X pins σ H s) : Env0 X.prog X.w X.K X.mg X.base X.A X.stack s H :=
 ⟨I.ok.frames,I.ok.mod,I.bs,Nat.le_trans I.ok.bsz I.sz,I.stack,I.stkFree,I.hok,I.bare⟩
theorem Inv.after {Q : VK} {u : Value} (I : Inv X pins σ H s) (h : CE X.stack X.prog X.w H s Q u s') : EP X pins σ Q u s' := by
 obtain ⟨v,H',os,bare,un,hok,r,q⟩ := h
 obtain ⟨hh,g,d,t,os'⟩ := s'
 obtain rfl : os' = s.os := os
 exact ⟨v,H',I.call (h' := hh) (g' := g) (d' := d) (t' := t) (ch := []) un hok bare (fun b z => absurd z (by simp)),r,q⟩
end
noncomputable def tCall (sp : Sp) (dvs : List V) (E : XK) (t : TA) : TE := fun σ H Q => t σ H fun vs H1 => sp (vs ++ dvs) H1 Q E
noncomputable def Binds (K : PySem.W.Frag) (fd : FuncData) (ps : List Str) (ds : List Value) : Prop :=
 ∀ (s : Shared) (us : List Value),K.In s.heap → (us ++ ds).length = ps.length → BindsTo s fd ⟨us,[]⟩ (ps.zip (us ++ ds))
theorem Binds.all {K : PySem.W.Frag} {fd : FuncData} {ps : List Str} (h : ∀ us : List Value,us.length = ps.length → bindArgs fd ⟨us,[]⟩ = pure (ps.zip us)) : Binds K fd ps [] := fun s us _ hl => by
 rw [List.append_nil] at hl ⊢
 exact .of_eq (h us hl)
noncomputable def zgM (CX : CXT) (X : Cx) (E : XK) : Prop := ∀ (pins : List (Addr × Obj)) (σ : St) (H : Hp) (s : Shared) (e : Value) (s' : Shared),Inv X pins σ H s → CX X.stack H s E e s' → X.xe e s'
section
variable {X : Cx} {CX : CXT} {k : Nat} {f C : Addr} {fd : FuncData} {ps : List Str} {sp : Sp} {dvs : List V} {ds : List Value} {E : XK} {x m : Str} {p pos apos : Pos} {e o : Expr} {es : List Expr} {ta : TE} {t : TA}
theorem zjN {pins : List (Addr × Obj)} {σ : St} {H : Hp} {s : Shared} {Q : VK} {us : List Value} {vs : List V} (F : FnOk X.prog X.w X.K X.mg X.base CX k f fd ps sp) (hr : Room k X.A) (hb : Binds X.K fd ps ds) (hd : Vals dvs ds) (hx : zgM CX X E)
 (I : Inv X pins σ H s) (r : Vals vs us) (h : sp (vs ++ dvs) H Q E) : wpAny (model X.prog X.w) X.A (call (.ref f) us) (EP X pins σ Q) X.xe s := by
 have r2 : Vals (vs ++ dvs) (us ++ ds) := r.append hd
 have hl : (us ++ ds).length = ps.length := by rw [← r2.length]; exact F.len _ _ _ _ h
 refine wpAny_call (codeAny_mono (F.run X.A X.stack s H ⟨us,[]⟩ (us ++ ds) (vs ++ dvs) Q E hr I.env0 (hb s us I.kIn hl) r2 h) fun r s' hq => ?_)
 cases r with
 | error e => exact hx pins σ H s e s' I hq
 | ok fl =>
   cases fl with
   | ret u => exact I.after hq
   | next => exact False.elim hq
   | brk => exact False.elim hq
   | cont => exact False.elim hq
theorem ziU (F : FnOk X.prog X.w X.K X.mg X.base CX k f fd ps sp) (hr : Room k X.A) (hg : Gl X x) (hm : X.mg x = some (.ref f)) (hk : PySem.W.keepIn X.K (.ref f) = true) (hb : Binds X.K fd ps ds) (hd : Vals dvs ds) (hx : zgM CX X E)
 (ha : PA X (e :: es) t) (hdb : (x == ("__debug__" : Str)) = false := by decide) (he : starEach (e :: es) X.env = (false,eval e X.env) :: starEach es X.env := by rfl) (hpl : (backTo pos (starEach es X.env)).any (·.1) = false := by rfl) :
 PE X (.Call (.Name x p) (e :: es) [] pos) (tCall sp dvs E t) := by
 intro pins s σ H Q I h
 refine wpAny_Call_Name_kw (zi4 I hg hm ?_ hdb)
 refine PySem.W.callWith_K (h₀ := X.base) I.ok.mod.kin hk (thn (ha pos pins s σ H _ I h) fun us s1 ⟨vs,H1,I1,r,q⟩ => ⟨I1.kIn,?_⟩) he hpl
 exact zjN F hr hb hd hx I1 r q
structure Mk (K : PySem.W.Frag) (C f : Addr) : Prop where
 makes : PySem.W.makesIn K C = true
 init : PySem.W.findIn K (.ref C) "__init__" = some (some (.ref f))
 fn : PySem.W.isFn K (.ref f) = true
 kp : PySem.W.keepIn K (.ref C) = true
end
section
variable {X : Cx} {CX : CXT} {k : Nat} {f C : Addr} {fd : FuncData} {ps ks : List Str} {sp : Sp} {E : XK} {x m : Str} {p pos apos kpos : Pos} {e o : Expr} {es : List Expr} {kws : List Keyword} {te ta : TE} {t tk : TA} {nm : Option Str}
structure KBinds (K : PySem.W.Frag) (fd : FuncData) (ps ks : List Str) (g : List Value → List Value → List Value) (gV : List V → List V → List V) : Prop where
 to : ∀ (s : Shared) (us ws : List Value),K.In s.heap → (g us ws).length = ps.length → BindsTo s fd ⟨us,ks.zip ws⟩ (ps.zip (g us ws))
 rel : ∀ {vs : List V} {us : List Value} {zs : List V} {ws : List Value},Vals vs us → Vals zs ws → Vals (gV vs zs) (g us ws)
variable {g : List Value → List Value → List Value} {gV : List V → List V → List V}
end
structure FnScope (N P : List Str) (sc : Scope) : Prop where
 kind : sc.kind = .function
 co : sc.isCoroutine = false
 gen : sc.isGenerator = false
 nd : N.Nodup
 pre : N.take P.length = P
 par : ∀ x ∈ P,sc.names.lookup x = some .local ∨ sc.names.lookup x = some .cell
 nofree : ∀ y ∈ sc.names,y.2 ≠ .free
theorem zcp {kindOf : Str → Option NameKind} {x : Str} : ∀ {binds : List (Str × Value)} {m : Str → Option Value},(∀ v,(x,v) ∉ binds) → bindL kindOf binds m x = m x
 | [],_,_ => rfl
 | (n,v) :: r,m,h => by
   unfold bindL
   rw [zcp fun w hw => h w (List.mem_cons_of_mem _ hw)]
   split
   ·have : x ≠ n := by rintro rfl; exact h v List.mem_cons_self
    simp [this]
   ·rfl
theorem zcr {kindOf : Str → Option NameKind} {x : Str} : ∀ {binds : List (Str × Value)} {m : Str → Option Value},(∀ v,(x,v) ∉ binds) → bindC kindOf binds m x = m x
 | [],_,_ => rfl
 | (n,v) :: r,m,h => by
   unfold bindC
   rw [zcr fun w hw => h w (List.mem_cons_of_mem _ hw)]
   split
   ·rfl
   ·have : x ≠ n := by rintro rfl; exact h v List.mem_cons_self
    simp [this]
theorem zcq {kindOf : Str → Option NameKind} {x : Str} {v : Value} : ∀ {P : List Str} {vs : List Value} {i : Nat} {m : Str → Option Value},P.Nodup → P[i]? = some x → vs[i]? = some v → kindOf x = some .local →
 bindL kindOf (P.zip vs) m x = some v
 | [],_,_,_,_,h,_,_ => by simp at h
 | _ :: _,[],_,_,_,_,h,_ => by simp at h
 | p :: P,w :: vs,0,m,nd,h1,h2,hk => by
   simp at h1 h2; subst h1; subst h2
   show bindL kindOf ((p,w) :: P.zip vs) m p = _
   unfold bindL
   rw [zcp fun v hv => (List.nodup_cons.mp nd).1 (List.of_mem_zip hv).1,if_pos hk]
   simp
 | p :: P,w :: vs,i + 1,m,nd,h1,h2,hk => by
   show bindL kindOf ((p,w) :: P.zip vs) m x = _
   unfold bindL
   exact zcq (i := i) (List.nodup_cons.mp nd).2 (by simpa using h1) (by simpa using h2) hk
theorem zcs {kindOf : Str → Option NameKind} {x : Str} {v : Value} : ∀ {P : List Str} {vs : List Value} {i : Nat} {m : Str → Option Value},P.Nodup → P[i]? = some x → vs[i]? = some v → kindOf x ≠ some .local →
 bindC kindOf (P.zip vs) m x = some v
 | [],_,_,_,_,h,_,_ => by simp at h
 | _ :: _,[],_,_,_,_,h,_ => by simp at h
 | p :: P,w :: vs,0,m,nd,h1,h2,hk => by
   simp at h1 h2; subst h1; subst h2
   show bindC kindOf ((p,w) :: P.zip vs) m p = _
   unfold bindC
   rw [zcr fun v hv => (List.nodup_cons.mp nd).1 (List.of_mem_zip hv).1,if_neg hk]
   simp
 | p :: P,w :: vs,i + 1,m,nd,h1,h2,hk => by
   show bindC kindOf ((p,w) :: P.zip vs) m x = _
   unfold bindC
   exact zcs (i := i) (List.nodup_cons.mp nd).2 (by simpa using h1) (by simpa using h2) hk
noncomputable def zx (N : List Str) (vs : List V) : St := vs.map some ++ List.replicate (N.length - vs.length) none
noncomputable def cxOf (CX : CXT) (P : Program) (w : World) (K : PySem.W.Frag) (mg : Str → Option Value) (base : Heap) (N : List Str) (qual : Str) (scope : Scope) (f : Addr) (cd : Value) (A : Around) (outer : List Env) (s : Shared) (H : Hp) (E : XK) : Cx where
 prog := P
 w := w
 K := K
 mg := mg
 base := base
 A := A.deeper (envOfC qual scope s.heap.objs.size f cd)
 N := N
 s₀ := s
 H₀ := H
 env := envOfC qual scope s.heap.objs.size f cd
 outer := outer
 stack := envOfC qual scope s.heap.objs.size f cd :: outer
 ex := []
 calm := true
 fn := fun _ => true
 pn := []
 xe := fun e s' => wpAny (model P w) (A.deeper (envOfC qual scope s.heap.objs.size f cd)) (leaving (envOfC qual scope s.heap.objs.size f cd) e) (fun _ s'' => CX outer H s E e s'') (fun e' s'' => CX outer H s E e' s'') s'
theorem uR {sc : Scope} {n : Nat} {x : Str} (h : sc.names.lookup x = some .cell) : ∃ c,(cellsFrom n sc.names []).lookup x = some c := by
 have q := PySem.W.cellsFrom_some sc.names n [] (.inl h)
 exact Option.isSome_iff_exists.mp q
theorem zf3 {CX : CXT} {P : Program} {w : World} {K : PySem.W.Frag} {mg : Str → Option Value} {base : Heap} {N ps : List Str} {qual : Str} {scope : Scope} {f : Addr} {cd : Value} {A : Around} {outer : List Env} {s s1 : Shared} {H : Hp} {E : XK} {us : List Value} {vs : List V}
 (S : FnScope N ps scope) (hd : A.handled = none) (e0 : Env0 P w K mg base A outer s H) (hl : vs.length = ps.length) (r : Vals vs us)
 (x : InCallC s s.heap.objs.size (bindL (envOfC qual scope s.heap.objs.size f cd).kindOf (ps.zip us) fun _ => none) (cellsFrom (s.heap.objs.size + 1) scope.names []) (bindC (envOfC qual scope s.heap.objs.size f cd).kindOf (ps.zip us) fun _ => none) s1) :
 Inv (cxOf CX P w K mg base N qual scope f cd A outer s H E) [] (zx N vs) H s1 := by
 have hpl : ps.length ≤ N.length := by have := congrArg List.length S.pre; rw [List.length_take] at this; lia
 obtain ⟨h1,tk,rfl,hk⟩ := x.done
 have noA : ∀ b : Addr,b ∉ (cxOf CX P w K mg base N qual scope f cd A outer s H E).ex := fun b z => absurd (show b ∈ ([] : List Addr) from z) (by simp)
 refine ⟨⟨e0.mod,S.kind,rfl,rfl,Nat.le_refl _,fun y z c h1 h2 => ?_,fun y hy => ?_,fun y c _ h => ?_,fun _ => hd,Around.frames_deeper e0.frames,.inr ⟨rfl,rfl⟩,fun b z => absurd z (noA b),e0.bs,e0.bsz,fun b _ _ => noA b,fun b z => absurd z (noA b),e0.funs,e0.frf⟩,
  rfl,e0.bare,Un.kept hk,⟨_,x.toInCall.ns,fun i y v h1 h2 h3 => ?_⟩,fun y c h => ⟨_,x.cell y c h⟩,e0.hok.fresh (Nat.le_refl _),fun y c h => ?_,fun p hp => absurd (show p ∈ ([] : List (Addr × Obj)) from hp) (by simp),e0.hok.kept hk,?_⟩
 ·exact name_of_addr x.apart (PySem.mem_of_lookup h1) (PySem.mem_of_lookup h2)
 ·have hy : scope.names.lookup y = some .cell ∨ scope.names.lookup y = some .free := hy
  rcases hy with hy | hy
  ·exact uR hy
  ·exact absurd rfl (S.nofree _ (PySem.mem_of_lookup hy))
 ·exact Nat.le_of_lt (x.above y c (PySem.mem_of_lookup h))
 ·have hi : i < vs.length := by
   unfold zx at h2
   by_cases hi : i < vs.length
   ·exact hi
   ·rw [List.getElem?_append_right (by simpa using hi)] at h2
    rw [List.getElem?_replicate] at h2
    split at h2 <;> cases h2
  have ha : vs[i]? = some v := by
   unfold zx at h2
   rw [List.getElem?_append_left (by simpa using hi),List.getElem?_map] at h2
   cases e : vs[i]? with
   | none => rw [e] at h2; cases h2
   | some a => rw [e] at h2; cases h2; rfl
  obtain ⟨u,hu,rv⟩ := r.get ha
  have hp : ps[i]? = some y := by
   rw [← S.pre,List.getElem?_take_of_lt (by lia)]; exact h1
  have ndP : ps.Nodup := by rw [← S.pre]; exact S.nd.sublist (List.take_sublist _ _)
  refine ⟨u,rv,?_⟩
  rcases S.par y (List.mem_of_getElem? hp) with k | k
  ·exact .inl ⟨k,zcq ndP hp hu k⟩
  ·obtain ⟨c,e⟩ := uR (n := s.heap.objs.size + 1) k
   refine .inr ⟨.inl k,c,e,?_⟩
   have q := x.cell y c e
   rw [zcs ndP hp hu (by show scope.names.lookup y ≠ _; rw [k]; decide)] at q
   exact q
 ·exact e0.hok.fresh (Nat.le_of_lt (x.above y c (PySem.mem_of_lookup h)))
 ·unfold zx
  show _ = N.length
  rw [List.length_append,List.length_map,List.length_replicate]
  lia
theorem fn_of {CX : CXT} {P : Program} {w : World} {K : PySem.W.Frag} {mg : Str → Option Value} {base : Heap} {k : Nat} {f : Addr} {name qual : Str} {params : Arguments} {body : List Stmt} {scope : Scope} {dV kV doc pm cdv ct oc : Value} {an od : Option Addr}
 {osl : Array (Option Value)} {N ps : List Str} {sp : Sp} (lk : K.lookup f = some ⟨oc,od,.func (PySem.W.fnOf name qual params body scope dV kV doc pm an cdv ct),osl⟩) (hcd : PySem.W.codeIn K cdv qual = true) (S : FnScope N ps scope)
 (len : ∀ vs H Q E,sp vs H Q E → vs.length = ps.length)
 (hbody : ∀ (A : Around) (outer : List Env) (s : Shared) (H : Hp) (vs : List V) (Q : VK) (E : XK),Room k (A.deeper (envOfC qual scope s.heap.objs.size f cdv)) → sp vs H Q E →
  ∃ t,PSs (cxOf CX P w K mg base N qual scope f cdv A outer s H E) body t ∧ t { nx := fun _ H' => Q .non H',rt := Q } (zx N vs) H) :
 FnOk P w K mg base CX (k + 1) f (PySem.W.fnOf name qual params body scope dV kV doc pm an cdv ct) ps sp := by
 refine ⟨len,fun A outer s H args us vs Q E hr e0 hb r hsp => ?_⟩
 have hl := len _ _ _ _ hsp
 have KX : K.In s.heap := e0.mod.kin.keeps fun b o e => (e0.bs b o e).1
 have lim : s.heap.NoLimit := e0.mod.nolimit.keeps fun b o e => (e0.bs b o e).1
 have hkind : ∀ y ∈ ps.zip us,scope.names.lookup y.1 = some .local ∨ (scope.names.lookup y.1 = some .cell ∧ ((cellsFrom (s.heap.objs.size + 1) scope.names []).lookup y.1).isSome = true) := fun ⟨n,v⟩ hy => by
  rcases S.par n (List.of_mem_zip hy).1 with q | q
  ·exact .inl q
  ·exact .inr ⟨q,PySem.W.cellsFrom_some _ _ _ (.inl q)⟩
 refine codeAny_call_function hr.depth (KX _ _ lk) rfl S.co S.gen rfl (PySem.W.codeRec_of KX hcd) (hb _ _ _ _ ?_)
 refine wpAny_newFunctionEnv_cells S.kind hkind fun env he s1 x => ?_
 subst he
 refine ⟨lim.keeps x.toInCall.keep,codeAny_func ?_⟩
 obtain ⟨t,ht,hq⟩ := hbody A outer s H vs Q E (hr.deeper _) hsp
 have I : Inv (cxOf CX P w K mg base N qual scope f cdv A outer s H E) [] (zx N vs) H s1 := zf3 S hr.hd e0 hl r x
 refine wpAny_mono (ht [] s1 (zx N vs) H _ I hq) (fun fl s' hs => ?_) fun e s' hs => hs
 have fin : ∀ {σ' : St} {H' : Hp} {v : V} {u : Value},Inv (cxOf CX P w K mg base N qual scope f cdv A outer s H E) [] σ' H' s' → RelV v u → Q v H' → CE outer P w H s Q u s' :=
  fun {σ' H' v u} J rv q => ⟨v,H',J.os,J.bare,J.base,J.hok,rv,q⟩
 cases fl with
 | ret u =>
   obtain ⟨v,σ',H',J,rv,q⟩ := hs
   exact fin J rv q
 | next =>
   obtain ⟨σ',H',J,q⟩ := hs
   exact fin (v := V.non) (u := Value.none) J rfl q
 | brk =>
   obtain ⟨_,_,_,q⟩ := hs
   exact False.elim q
 | cont =>
   obtain ⟨_,_,_,q⟩ := hs
   exact False.elim q
end L2
namespace L2
open PySem PySem.Spec PyProof.Rows
section
variable {X : Cx} {x : Str} {p pos : Pos} {e : Expr} {es : List Expr} {t : TA} {id T : String} {r : List V → Hp → VK → Prop}
noncomputable def tCB (r : List V → Hp → VK → Prop) (t : TA) : TE := fun σ H Q => t σ H fun vs H1 => r vs H1 Q
theorem vK (hc : wj X (.builtin id) r) (hg : Gl X x) (hm : X.mg x = none) (hv : bootBuiltins x = some (.builtin id)) (ha : PA X (e :: es) t) (hn : x ≠ "__name__" := by decide) (hdb : (x == ("__debug__" : Str)) = false := by decide)
 (he : starEach (e :: es) X.env = (false,eval e X.env) :: starEach es X.env := by rfl) (hpl : (backTo pos (starEach es X.env)).any (·.1) = false := by rfl) : PE X (.Call (.Name x p) (e :: es) [] pos) (tCB r t) := by
 intro pins s σ H Q I h
 refine wpAny_Call_Name_kw (wb I hg hm hv ?_ hn hdb)
 exact PyProof.Rows.callWith_builtin1 (thn (ha pos pins s σ H _ I h) fun us s1 ⟨vs,H1,I1,r1,q1⟩ => hc pins s1 σ H1 vs us Q I1 r1 q1) he hpl
theorem vJ (hc : wj X (.type T) r) (hg : Gl X x) (hm : X.mg x = none) (hv : bootBuiltins x = some (.type T)) (ha : PA X (e :: es) t) (hn : x ≠ "__name__" := by decide) (hdb : (x == ("__debug__" : Str)) = false := by decide)
 (he : starEach (e :: es) X.env = (false,eval e X.env) :: starEach es X.env := by rfl) (hpl : (backTo pos (starEach es X.env)).any (·.1) = false := by rfl) : PE X (.Call (.Name x p) (e :: es) [] pos) (tCB r t) := by
 intro pins s σ H Q I h
 refine wpAny_Call_Name_kw (wb I hg hm hv ?_ hn hdb)
 exact PyProof.Rows.callWith_type1 (thn (ha pos pins s σ H _ I h) fun us s1 ⟨vs,H1,I1,r1,q1⟩ => hc pins s1 σ H1 vs us Q I1 r1 q1) he hpl
end
end L2
namespace HT
open PySem PyProof.Rows
section
open PySem.SeqAt
open PySem.AutoSeq1 (wpAny_loadPart')
open PySem.MeetsSeq PySem.MeetsSeq2 PySem.MeetsSeq3
end
section
variable {prog : Program} {w : World} {A : Around} {E : Value → Shared → Prop} {s : Shared}
noncomputable def sIx (n d : Nat) : Option Int → Nat
 | none => d
 | some v => if v < 0 then (v + (n : Int)).toNat else min v.toNat n
theorem zjM (n d : Nat) (hd : d ≤ n) (o : Option Int) : sIx n d o ≤ n := by
 cases o with
 | none => exact hd
 | some v =>
   show (if v < 0 then (v + (n : Int)).toNat else min v.toNat n) ≤ n
   by_cases hv : v < 0
   ·rw [if_pos hv]; lia
   ·rw [if_neg hv]; exact Nat.min_le_right _ _
theorem zgp (v : Int) (n d : Nat) : (if v < 0 then max (v + (n : Int)) 0 else min v (n : Int)) = ((sIx n d (some v) : Nat) : Int) := by
 show (if v < 0 then max (v + (n : Int)) 0 else min v (n : Int)) = (((if v < 0 then (v + (n : Int)).toNat else min v.toNat n) : Nat) : Int)
 by_cases hv : v < 0
 ·simp only [if_pos hv]; lia
 ·simp only [if_neg hv]; lia
theorem ze5 (lo hi : Option Int) (n : Nat) : Builtin.Slice.sliceAdjust lo hi 1 (n : Int) = (((sIx n 0 lo : Nat) : Int),((sIx n n hi : Nat) : Int)) := by
 have h1 : ¬ ((1 : Int) < 0) := by lia
 unfold Builtin.Slice.sliceAdjust
 simp only [h1,if_false]
 refine Prod.ext ?_ ?_
 ·cases lo with
  | none => rfl
  | some v => exact zgp v n 0
 ·cases hi with
  | none => rfl
  | some v => exact zgp v n n
theorem zeu (i j : Nat) : Builtin.Slice.slicePlaces (i : Int) (j : Int) 1 = j - i := by
 unfold Builtin.Slice.slicePlaces
 have h1 : (1 : Int) > 0 := by lia
 simp only [h1,if_true,Int.ediv_one]
 split <;> lia
theorem zak {v : Value} {o : Option Int} {Q : Option Int → Shared → Prop} (p : IsPart v o) (h : Q o s) : wpAny (model prog w) A (Builtin.Slice.slicePartIndex v) Q E s := by
 cases p with
 | none => exact slicePart_none h
 | int i t => exact slicePart_int h
theorem uE {sl : Addr} {vl vu : Value} {lo hi : Option Int} {n : Nat} {Q : Int × Int × Nat → Shared → Prop} (hs : s.heap.IsSliceOf sl vl vu .none) (pl : IsPart vl lo) (pu : IsPart vu hi)
 (h : Q (((sIx n 0 lo : Nat) : Int),1,sIx n n hi - sIx n 0 lo) s) : wpAny (model prog w) A (Builtin.Slice.sliceApplied (.ref sl) (pure (n : Int))) Q E s := by
 obtain ⟨os,hos,hcs,hds⟩ := id hs
 unfold Builtin.Slice.sliceApplied Builtin.Slice.sliceFields
 refine wpAny_bind (wpAny_bind (wpAny_field hos hds (x := vl) rfl (wpAny_bind (wpAny_field hos hds (x := vu) rfl (wpAny_bind (wpAny_field hos hds (x := .none) rfl (wpAny_pure ?_)))))))
 refine wpAny_bind (slicePart_none ?_)
 show wpAny _ _ (if ((1 : Int) == 0) = true then _ else _) _ _ s
 rw [if_neg (by decide)]
 refine wpAny_bind (zak pl (wpAny_bind (zak pu (wpAny_bind (wpAny_pure ?_)))))
 show wpAny _ _ (match Builtin.Slice.sliceAdjust lo hi 1 (n : Int) with | (lo,hi) => pure (lo,(1 : Int),Builtin.Slice.slicePlaces lo hi 1)) _ _ s
 rw [ze5 lo hi n]
 show wpAny _ _ (pure (((sIx n 0 lo : Nat) : Int),(1 : Int),Builtin.Slice.slicePlaces ((sIx n 0 lo : Nat) : Int) ((sIx n n hi : Nat) : Int) 1)) _ _ s
 rw [zeu]
 exact wpAny_pure h
theorem zhl (xs : Array Value) (i k : Nat) : ((List.range k).filterMap fun (m : Nat) => xs[((i : Int) + (m : Int) * 1).toNat]?).toArray = ((xs.toList.drop i).take k).toArray := by
 have e : (fun (m : Nat) => xs[((i : Int) + (m : Int) * 1).toNat]?) = fun m => xs[i + m]? := by
  funext m
  have : ((i : Int) + (m : Int) * 1).toNat = i + m := by lia
  rw [this]
 rw [e]
 have := pick_run xs i k
 rw [List.filterMap_map] at this
 have e2 : ((fun x => xs[x]?) ∘ fun x => i + x) = fun m => xs[i + m]? := rfl
 rw [e2] at this
 rw [this]
theorem getItem_tuple_cut {t sl : Addr} {items : Array Value} {vl vu : Value} {lo hi : Option Int} {Q : Value → Shared → Prop} (ht : IsTup s.heap t items) (hs : s.heap.IsSliceOf sl vl vu .none) (pl : IsPart vl lo) (pu : IsPart vu hi)
 (hw : ¬ (sIx items.size 0 lo = 0 ∧ sIx items.size items.size hi = items.size))
 (h : Q (.ref s.heap.objs.size) { s with heap := s.heap.push { cls := .type "tuple",data := .seq ((items.toList.drop (sIx items.size 0 lo)).take (sIx items.size items.size hi - sIx items.size 0 lo)).toArray } })
 (hsz : items.size ≤ sizeLine) : wpAny (model prog w) A (getItem (.ref t) (.ref sl)) Q E s := by
 have htake : sizeOk (.seq ((items.toList.drop (sIx items.size 0 lo)).take (sIx items.size items.size hi - sIx items.size 0 lo)).toArray) := by
  show ((items.toList.drop (sIx items.size 0 lo)).take (sIx items.size items.size hi - sIx items.size 0 lo)).toArray.size ≤ sizeLine
  rw [List.size_toArray,List.length_take,List.length_drop,Array.length_toList]
  lia
 have hj : sIx items.size items.size hi ≤ items.size := zjM _ _ (Nat.le_refl _) hi
 obtain ⟨os,hos,hcs,hds⟩ := id hs
 have hTs : s.TypeIs (.ref sl) "slice" := ⟨os,hos,hcs⟩
 unfold getItem
 try with_reducible refine wpAny_holding ?_
 first | refine wpAny_bind (wpAny_pure ?_) | skip
 refine wpAny_bind (wpAny_sequenceKey ht.typeIs (by decide) ?_)
 refine wpAny_bind (wpAny_callSpecial?_slot (name := Str.ofString "__getitem__") ht.typeIs PyProof.Rows.slot_tuple_getitem
  (wpAny_call_entry PyProof.Rows.slot_tuple_getitem ht.typeIs entry_tuple_getitem ?_ (args_tuple_getitem _ _)))
 show wpAny _ _ (Builtin.Tuple.tupleItemsOf (.ref t) >>= _) _ _ s
 refine wpAny_bind (tupleItemsOf_ ht ?_)
 refine wpAny_bind (wpAny_typeOf hTs ?_)
 rw [if_pos (by decide)]
 refine wpAny_bind (uE hs pl pu ?_)
 have hno : ¬ ((((sIx items.size 0 lo : Nat) : Int) == 0 && (1 : Int) == 1 && (sIx items.size items.size hi - sIx items.size 0 lo) == items.size) = true) := by
  intro q
  rw [Bool.and_eq_true,Bool.and_eq_true] at q
  have q1 : ((sIx items.size 0 lo : Nat) : Int) = 0 := eq_of_beq q.1.1
  have q2 : sIx items.size items.size hi - sIx items.size 0 lo = items.size := eq_of_beq q.2
  exact hw ⟨by lia,by lia⟩
 show wpAny _ _ (if (((sIx items.size 0 lo : Nat) : Int) == 0 && (1 : Int) == 1 && (sIx items.size items.size hi - sIx items.size 0 lo) == items.size) = true then _ else _) _ _ s
 rw [if_neg hno,zhl]
 first
  | exact wpAny_bind (m := Builtin.Tuple.tupleExact _) (wpAny_newObj_type (wpAny_pure ⟨_,rfl,wpAny_pure h⟩) htake)
  | exact wpAny_bind (m := Builtin.Tuple.tupleExact _) (wpAny_newObj_type (wpAny_bind (wpAny_pure (wpAny_pure ⟨_,rfl,wpAny_pure h⟩))) htake)
  | exact wpAny_bind (wpAny_bind (m := Builtin.Tuple.tupleExact _) (wpAny_newObj_type (wpAny_pure (wpAny_pure ⟨_,rfl,wpAny_pure h⟩)) htake))
  | exact wpAny_bind (wpAny_bind (m := Builtin.Tuple.tupleExact _) (wpAny_newObj_type (wpAny_pure ⟨_,rfl,wpAny_pure h⟩) htake))
end
end HT
namespace L2
open PySem PySem.Spec PyProof.Rows
noncomputable abbrev TO := St → Hp → (Option Int → Hp → Prop) → Prop
noncomputable def PO (X : Cx) (e : Option Expr) (t : TO) : Prop :=
 ∀ (pins : List (Addr × Obj)) (s : Shared) (σ : St) (H : Hp) (Q : Option Int → Hp → Prop),Inv X pins σ H s → t σ H Q →
   wpAny (model X.prog X.w) X.A (evalPart e X.env) (fun u s' => ∃ o H',Inv X pins σ H' s' ∧ IsPart u o ∧ Q o H') X.xe s
noncomputable def ziA : TO := fun _ H Q => Q none H
noncomputable def tPart (t : TE) : TO := fun σ H Q => t σ H fun x H1 => ∃ i,x = .int i ∧ Q (some i) H1
theorem wP {ns : List Int} : ∀ {us : List Value},Vals (ns.map V.int) us → IntsAre us ns := by
 induction ns with
 | nil => intro us r; rw [List.map_nil] at r; cases r; exact .nil
 | cons n ns ih =>
   intro us r
   rw [List.map_cons] at r
   cases r with
   | cons r1 r2 =>
     obtain ⟨t,e⟩ := r1
     subst e
     exact .cons n t (ih r2)
section
variable {X : Cx} {e : Expr} {te : TE} {lo hi : Option Expr} {tl th : TO} {pos p2 : Pos}
theorem ziO : PO X none ziA := by
 intro pins s σ H Q I h
 rw [evalPart_none]
 exact wpAny_pure ⟨none,H,I,.none,h⟩
theorem ziN (h : PE X e te) : PO X (some e) (tPart te) := by
 intro pins s σ H Q I hw
 rw [evalPart_some]
 refine thn (h pins s σ H _ I hw) fun u s1 ⟨x,H1,I1,r1,q1⟩ => ?_
 obtain ⟨i,rfl,q⟩ := q1
 obtain ⟨t,rfl⟩ := r1
 exact ⟨some i,H1,I1,.int i t,q⟩
noncomputable def SlR (X : Cx) (r : V → Option Int → Option Int → Hp → VK → Prop) : Prop :=
 ∀ (pins : List (Addr × Obj)) (s : Shared) (σ : St) (H : Hp) (x : V) (v vl vu : Value) (lo hi : Option Int) (sl : Addr) (Q : VK),Inv X pins σ H s → RelV x v → s.heap.IsSliceOf sl vl vu .none → IsPart vl lo → IsPart vu hi → r x lo hi H Q →
   ∃ T id,typeLookup (.type T) "__getitem__" = pure (some (.builtin id)) ∧ s.TypeIs v T ∧ wpAny (model X.prog X.w) X.A (getItem v (.ref sl)) (EP X pins σ Q) X.xe s
theorem SlR.or {r r' : V → Option Int → Option Int → Hp → VK → Prop} (h : SlR X r) (h' : SlR X r') : SlR X (fun x lo hi H Q => r x lo hi H Q ∨ r' x lo hi H Q) := by
 intro pins s σ H x v vl vu lo hi sl Q I rx hs pl pu q
 rcases q with q | q
 ·exact h pins s σ H x v vl vu lo hi sl Q I rx hs pl pu q
 ·exact h' pins s σ H x v vl vu lo hi sl Q I rx hs pl pu q
noncomputable def tSl (r : V → Option Int → Option Int → Hp → VK → Prop) (te : TE) (tl th : TO) : TE := fun σ H Q => te σ H fun x H1 => tl σ H1 fun l H2 => th σ H2 fun u H3 => r x l u H3 Q
theorem zhm {r : V → Option Int → Option Int → Hp → VK → Prop} (hr : SlR X r) (he : PE X e te) (hl : PO X lo tl) (hu : PO X hi th) : PE X (.Subscript e (.Slice lo hi none p2) pos) (tSl r te tl th) := by
 intro pins s σ H Q I h
 refine Subscript_ (thn (he pins s σ H _ I h) fun v s1 ⟨x,H1,I1,r1,q1⟩ => ?_)
 refine wpAny_Slice (thn (hl pins s1 σ H1 _ I1 q1) fun vl s2 ⟨l,H2,I2,pl,q2⟩ => thn (hu pins s2 σ H2 _ I2 q2) fun vu s3 ⟨u,H3,I3,pu,q3⟩ => ?_)
 rw [evalPart_none]
 refine wpAny_pure ?_
 have I4 : Inv X pins σ H3 { s3 with heap := s3.heap.push { cls := .type "slice",data := .fields #[vl,vu,.none] } } := I3.kept (t' := s3.toks) fun b ob q => Heap.get?_push_of_some _ q
 obtain ⟨T,id,hT,ht,hg⟩ := hr pins { s3 with heap := s3.heap.push { cls := .type "slice",data := .fields #[vl,vu,.none] } } σ H3 x v vl vu l u s3.heap.objs.size Q I4 r1 (Heap.IsSliceOf.new ..) pl pu q3
 show wpAny (model X.prog X.w) X.A (subscriptTail e (.Slice lo hi none p2) v (.ref s3.heap.objs.size)) (EP X pins σ Q) X.xe { s3 with heap := s3.heap.push { cls := .type "slice",data := .fields #[vl,vu,.none] } }
 exact tail_any (ops := [.ref s3.heap.objs.size,v]) ht hT hg (by with_unfolding_all rfl)
noncomputable def cutV (xs : List V) (lo hi : Option Int) : List V := (xs.drop (HT.sIx xs.length 0 lo)).take (HT.sIx xs.length xs.length hi - HT.sIx xs.length 0 lo)
theorem tN (xs : List V) (lo hi : Option Int) : (cutV xs lo hi).length ≤ xs.length := by
 unfold cutV
 rw [List.length_take,List.length_drop]
 lia
noncomputable def rSlT (K : PySem.W.Frag) : V → Option Int → Option Int → Hp → VK → Prop := fun x lo hi H Q => ∃ a xs,x = .ref a ∧ SqT K H a xs ∧
 ¬ (HT.sIx xs.length 0 lo = 0 ∧ HT.sIx xs.length xs.length hi = xs.length) ∧ ∀ p,H p = none → Q (.ref p) (upd H p (.tup (cutV xs lo hi)))
theorem zjL : SlR X (rSlT X.K) := by
 intro pins s σ H x v vl vu lo hi sl Q I rx hs pl pu h
 obtain ⟨a,xs,rfl,hx,hw,q⟩ := h
 cases rx
 obtain ⟨its,r,ht,hz⟩ := I.tuple hx
 have hlen : its.toArray.size = xs.length := by rw [List.size_toArray]; exact r.length.symm
 refine ⟨"tuple",_,PyProof.Rows.slot_tuple_getitem.lookup,ht.typeIs,?_⟩
 refine HT.getItem_tuple_cut ht hs pl pu (by rw [hlen]; exact hw) ?_ (by rw [hlen]; exact hz)
 rw [hlen]
 refine ⟨.ref s.heap.objs.size,_,I.laid (t' := s.toks) (o := .tup (cutV xs lo hi)) (fun b ob q => Heap.get?_push_of_some _ q) (Nat.le_refl _) ?_,rfl,q _ (I.hok.fresh (Nat.le_refl _))⟩
 exact ⟨Nat.le_trans (tN xs lo hi) hz,_,(r.drop (HT.sIx xs.length 0 lo)).take (HT.sIx xs.length xs.length hi - HT.sIx xs.length 0 lo),IsTup.new _ _⟩
end
end L2
namespace L2
open PySem PySem.Spec PyProof.Rows
noncomputable def ixN (n : Nat) (i : Int) : Option Nat := if 0 ≤ i then (if i < n then some i.toNat else none) else if -(n : Int) ≤ i then some (i + n).toNat else none
noncomputable def atI {α : Type} (xs : List α) (i : Int) : Option α := (ixN xs.length i).bind fun j => xs[j]?
theorem zi9 {n : Nat} {i : Int} {j : Nat} (h : ixN n i = some j) : seqIndex? i n = some j ∧ j < n ∧ -(n : Int) ≤ i ∧ i < n := by
 unfold ixN at h
 by_cases h0 : 0 ≤ i
 ·rw [if_pos h0] at h
  by_cases h1 : i < n
  ·rw [if_pos h1] at h
   have e : i.toNat = j := Option.some.inj h
   exact ⟨by rw [seqIndex_of h0 h1,e],by lia,by lia,h1⟩
  ·rw [if_neg h1] at h; cases h
 ·rw [if_neg h0] at h
  by_cases h1 : -(n : Int) ≤ i
  ·rw [if_pos h1] at h
   have e : (i + n).toNat = j := Option.some.inj h
   exact ⟨by rw [seqIndex_neg (by lia) h1,e],by lia,h1,by lia⟩
  ·rw [if_neg h1] at h; cases h
theorem zdp {α : Type} {xs : List α} {i : Int} {v : α} (h : atI xs i = some v) : ∃ j,seqIndex? i xs.length = some j ∧ xs[j]? = some v ∧ j < xs.length ∧ -(xs.length : Int) ≤ i ∧ i < xs.length := by
 unfold atI at h
 cases e : ixN xs.length i with
 | none => rw [e] at h; cases h
 | some j =>
   rw [e] at h
   obtain ⟨h1,h2,h3,h4⟩ := zi9 e
   exact ⟨j,h1,h,h2,h3,h4⟩
noncomputable def zdr (b : Expr) : Prop := ∀ o i,subscripted b false o i = operate [o,i] (getItem o i)
noncomputable def IxR (X : Cx) (r : R2) : Prop :=
 ∀ (value slice : Expr) (pins : List (Addr × Obj)) (s : Shared) (σ : St) (H : Hp) (x y : V) (v u : Value) (Q : VK),Inv X pins σ H s → RelV x v → RelV y u → r x y H Q →
   subscripted slice false v u = operate [v,u] (getItem v u) → wpAny (model X.prog X.w) X.A (subscriptTail value slice v u) (EP X pins σ Q) X.xe s
noncomputable def MtR (X : Cx) (id : String) (r : V → List V → Hp → VK → Prop) : Prop :=
 ∀ (pins : List (Addr × Obj)) (s : Shared) (σ : St) (H : Hp) (x : V) (xs : List V) (v : Value) (us : List Value) (Q : VK),Inv X pins σ H s → RelV x v → Vals xs us → r x xs H Q →
   wpAny (model X.prog X.w) X.A (call (.builtin id) (v :: us)) (EP X pins σ Q) X.xe s
section
variable {X : Cx} {a b : Expr} {ta tb : TE} {pos : Pos}
theorem IxR.or {r r' : R2} (h : IxR X r) (h' : IxR X r') : IxR X (fun x y H Q => r x y H Q ∨ r' x y H Q) := by
 intro value slice pins s σ H x y v u Q I rx ry q hs
 rcases q with q | q
 ·exact h value slice pins s σ H x y v u Q I rx ry q hs
 ·exact h' value slice pins s σ H x y v u Q I rx ry q hs
theorem pe_ix {r : R2} (hr : IxR X r) (ha : PE X a ta) (hb : PE X b tb) (hs : zdr b) : PE X (.Subscript a b pos) (tOp r ta tb) := by
 intro pins s σ H Q I h
 exact Subscript_ (binT ha hb I h fun v u s2 x y H2 I2 rx ry q => hr a b pins s2 σ H2 x y v u Q I2 rx ry q (hs _ _))
noncomputable def rIxL (K : PySem.W.Frag) : R2 := fun x y H Q => ∃ p xs i v,x = .ref p ∧ y = .int i ∧ SqL K H p xs ∧ atI xs i = some v ∧ Q v H
noncomputable def rIxT (K : PySem.W.Frag) : R2 := fun x y H Q => ∃ p xs i v,x = .ref p ∧ y = .int i ∧ SqT K H p xs ∧ atI xs i = some v ∧ Q v H
noncomputable def rIxS : R2 := fun x y H Q => ∃ z i c,x = .str z ∧ y = .int i ∧ z.length ≤ sizeLine ∧ atI z.cps.toList i = some c ∧ Q (.str ⟨#[c]⟩) H
theorem zi8 : IxR X (rIxL X.K) := by
 intro value slice pins s σ H x y v u Q I rx ry h hs
 obtain ⟨p,xs,i,z,rfl,rfl,hq,he,q⟩ := h
 cases rx
 obtain ⟨t,rfl⟩ := ry
 obtain ⟨its,r,pl,hz⟩ := I.list hq
 obtain ⟨j,h1,h2,h3,h4,h5⟩ := zdp he
 obtain ⟨w,ew,rw'⟩ := r.get h2
 have hl := r.length
 have hn := zbQ
 have fin : EP X pins σ Q w s := ⟨z,H,I,rw',q⟩
 by_cases h0 : 0 ≤ i
 ·have hj : i.toNat = j := by
   rw [seqIndex_of h0 h5] at h1
   exact Option.some.inj h1
  exact item_listR pl.isList h0 (by lia) (by rw [hj]; simpa using ew) fin hs
 ·have hj : (i + (its.toArray.size : Int)).toNat = j := by
   rw [seqIndex_neg (by lia) h4] at h1
   rw [List.size_toArray,← hl]
   exact Option.some.inj h1
  exact subscriptTail_builtinR (x := w) pl.isList.typeIs slot_list_getitem.lookup
   (wpAny_getItem_list_neg (Q := fun r s' => r = w ∧ EP X pins σ Q r s') pl.isList (by lia) (by rw [List.size_toArray] <;> lia) (by lia) (by rw [hj]; simpa using ew) ⟨rfl,fin⟩) hs
theorem zkp : IxR X (rIxT X.K) := by
 intro value slice pins s σ H x y v u Q I rx ry h hs
 obtain ⟨p,xs,i,z,rfl,rfl,hq,he,q⟩ := h
 cases rx
 obtain ⟨t,rfl⟩ := ry
 obtain ⟨its,r,pl,hz⟩ := I.tuple hq
 obtain ⟨j,h1,h2,h3,h4,h5⟩ := zdp he
 obtain ⟨w,ew,rw'⟩ := r.get h2
 have hl := r.length
 have hn := zbQ
 have fin : EP X pins σ Q w s := ⟨z,H,I,rw',q⟩
 exact subscriptTail_builtinR (x := w) pl.typeIs slot_tuple_getitem.lookup
  (getItem_tuple (j := j) (Q := fun r s' => r = w ∧ EP X pins σ Q r s') pl (by lia) (by lia) (by rw [List.size_toArray,← hl]; exact h1) (by simpa using ew) ⟨rfl,fin⟩) hs
theorem zkq : IxR X rIxS := by
 intro value slice pins s σ H x y v u Q I rx ry h hs
 obtain ⟨z,i,c,rfl,rfl,hz,he,q⟩ := h
 obtain ⟨t,rfl⟩ := rx
 obtain ⟨t',rfl⟩ := ry
 obtain ⟨j,h1,h2,h3,h4,h5⟩ := zdp he
 have hl : z.cps.toList.length = z.length := by simp [Str.length]
 rw [hl] at h1 h4 h5
 have hn := zbQ
 exact tail_any (typeIs_str s z t) slot_str_getitem.lookup (getItem_str (c := c) (by
  have e1 : decide (i < -(2 ^ 63 : Int)) = false := decide_eq_false (by lia)
  have e2 : decide (i ≥ 2 ^ 63) = false := decide_eq_false (by lia)
  rw [e1,e2,Bool.or_false]) (by rw [h1]; simpa using h2) ⟨.str ⟨#[c]⟩,H,I.tok _,⟨_,rfl⟩,q⟩) hs
noncomputable def rIx (K : PySem.W.Frag) : R2 := fun x y H Q => rIxL K x y H Q ∨ rIxT K x y H Q ∨ rIxS x y H Q
theorem zkr : IxR X (rIx X.K) := zi8.or (zkp.or zkq)
theorem zbw (lo hi : Option Int) (n : Nat) : (sliceBounds lo hi none n).1 = ((HT.sIx n 0 lo : Nat) : Int) ∧ (sliceBounds lo hi none n).2.1 = ((HT.sIx n n hi : Nat) : Int) ∧ (sliceBounds lo hi none n).2.2 = 1 := by
 refine ⟨?_,?_,rfl⟩
 ·cases lo with
  | none => simp [sliceBounds,HT.sIx]
  | some i =>
    simp only [sliceBounds,HT.sIx,Option.getD_none,show (1 : Int) > 0 by decide,if_true]
    by_cases h : i < 0
    ·simp only [h,if_true] <;> lia
    ·simp only [h,if_false] <;> lia
 ·cases hi with
  | none => simp [sliceBounds,HT.sIx]
  | some i =>
    simp only [sliceBounds,HT.sIx,Option.getD_none,show (1 : Int) > 0 by decide,if_true]
    by_cases h : i < 0
    ·simp only [h,if_true] <;> lia
    ·simp only [h,if_false] <;> lia
theorem zaK (its : List Value) (lo hi : Option Int) : slicePick its.toArray lo hi none = ((its.drop (HT.sIx its.length 0 lo)).take (HT.sIx its.length its.length hi - HT.sIx its.length 0 lo)).toArray := by
 obtain ⟨h1,h2,h3⟩ := zbw lo hi its.toArray.size
 unfold slicePick
 rw [h1,h2,h3]
 simp only [sliceRange_one,pick_run,List.size_toArray] <;> rfl
noncomputable def rSlL (K : PySem.W.Frag) : V → Option Int → Option Int → Hp → VK → Prop := fun x lo hi H Q => ∃ a xs,x = .ref a ∧ SqL K H a xs ∧ ∀ p,H p = none → Q (.ref p) (upd H p (.lst (cutV xs lo hi)))
theorem ziB : SlR X (rSlL X.K) := by
 intro pins s σ H x v vl vu lo hi sl Q I rx hs pl pu h
 obtain ⟨a,xs,rfl,hx,q⟩ := h
 cases rx
 obtain ⟨its,r,ht,hz⟩ := I.list hx
 have hlen := r.length
 refine ⟨"list",_,slot_list_getitem.lookup,ht.isList.typeIs,?_⟩
 refine wpAny_getItem_list_slice ht.isList hs pl pu .none (by simp) ?_ (by rw [List.size_toArray] <;> lia)
 rw [zaK,← hlen]
 refine ⟨.ref s.heap.objs.size,_,I.laid (t' := s.toks) (o := .lst (cutV xs lo hi)) (fun b ob q => Heap.get?_push_of_some _ q) (Nat.le_refl _) ?_,rfl,q _ (I.hok.fresh (Nat.le_refl _))⟩
 exact ⟨Nat.le_trans (tN xs lo hi) hz,_,0,(r.drop (HT.sIx xs.length 0 lo)).take (HT.sIx xs.length xs.length hi - HT.sIx xs.length 0 lo),Heap.get?_push_size _ rfl⟩
theorem zR : wj X (.builtin "len") (fun xs H Q => ∃ p ys,xs = [.ref p] ∧ (SqL X.K H p ys ∨ SqT X.K H p ys) ∧ Q (.int ys.length) H) := by
 intro pins s σ H xs us Q I r h
 obtain ⟨p,ys,rfl,hq,q⟩ := h
 obtain ⟨u,rfl,rx⟩ := wk r
 cases rx
 have hn := zbQ
 rcases hq with hq | hq
 ·obtain ⟨its,r',pl,hz⟩ := I.list hq
  have hlen := r'.length
  exact Calls.call_len_list pl.isList (by simp only [List.size_toArray] <;> lia) ⟨.int ys.length,H,I.tok _,⟨s.toks + 1,by rw [List.size_toArray,hlen]⟩,q⟩
 ·obtain ⟨its,r',pl,hz⟩ := I.tuple hq
  have hlen := r'.length
  exact len_tuple pl (by simp only [List.size_toArray] <;> lia) ⟨.int ys.length,H,I.tok _,⟨s.toks + 1,by rw [List.size_toArray,hlen]⟩,q⟩
theorem y9 : wj X (.type "list") (fun xs H Q => ∃ p ys,xs = [.ref p] ∧ (SqL X.K H p ys ∨ SqT X.K H p ys) ∧ ∀ l,H l = none → Q (.ref l) (upd H l (.lst ys))) := by
 intro pins s σ H xs us Q I r h
 obtain ⟨p,ys,rfl,hq,q⟩ := h
 obtain ⟨u,rfl,rx⟩ := wk r
 cases rx
 have fin : ∀ (its : List Value),Vals ys its → ys.length ≤ sizeLine → ∀ (h' : Heap) (c' : Nat),(∀ b o',s.heap.get? b = some o' → h'.get? b = some o') →
  h'.get? s.heap.objs.size = some { cls := .type "list",dict := none,data := .seq its.toArray c',slots := #[] } → EP X pins σ Q (.ref s.heap.objs.size) { s with heap := h' } := fun its r' hz h' c' kp e =>
  ⟨.ref s.heap.objs.size,_,I.laid (t' := s.toks) kp (Nat.le_refl _) (show xx X.prog X.w _ h' _ (.lst ys) from ⟨hz,its,c',r',e⟩),rfl,q _ (I.hok.fresh (Nat.le_refl _))⟩
 rcases hq with hq | hq
 ·obtain ⟨its,r',pl,hz⟩ := I.list hq
  have hlen := r'.length
  obtain ⟨o,ho,hc,n,hd⟩ := pl.isList
  exact call_list_seq p (.inl rfl) ho hc hd (fun h' c' kp e => fin its r' hz h' c' kp e) (by simp only [List.size_toArray] <;> lia)
 ·obtain ⟨its,r',pl,hz⟩ := I.tuple hq
  have hlen := r'.length
  obtain ⟨o,ho,hc,n,hd⟩ := pl
  exact call_list_seq p (.inr rfl) ho hc hd (fun h' c' kp e => fin its r' hz h' c' kp e) (by simp only [List.size_toArray] <;> lia)
noncomputable def tyV (K : PySem.W.Frag) (T : String) (x : V) (H : Hp) : Prop := match x with
 | .str _ => T = "str"
 | .int _ => T = "int"
 | .ref p => (T = "list" ∧ ∃ xs,SqL K H p xs) ∨ (T = "tuple" ∧ ∃ o,K.lookup p = some o ∧ o.cls = .type "tuple" ∧ o.dict = none) ∨
  (T = "dict" ∧ ((∃ kvs,H p = some (.dK kvs)) ∨ ∃ kvs,H p = some (.dT kvs))) ∨ (T = "set" ∧ ∃ S n,H p = some (.set S n))
 | _ => False
theorem zh0 {pins : List (Addr × Obj)} {σ : St} {H : Hp} {s : Shared} {T : String} {x : V} {v : Value} (I : Inv X pins σ H s) (r : RelV x v) (ty : tyV X.K T x H) :
 s.TypeIs v T ∧ ∀ a,v = .ref a → ∃ ob,s.heap.get? a = some ob ∧ ob.dict = none := by
 cases x with
 | str z =>
   obtain ⟨t,rfl⟩ := r
   cases (show T = "str" from ty)
   exact ⟨typeIs_str s z t,fun _ e => nomatch e⟩
 | int i =>
   obtain ⟨t,rfl⟩ := r
   cases (show T = "int" from ty)
   exact ⟨typeIs_int s i t,fun _ e => nomatch e⟩
 | ref p =>
   cases r
   rcases ty with ⟨rfl,xs,hq⟩ | ⟨rfl,o,hk,hc,hd⟩ | ⟨rfl,hk⟩ | ⟨rfl,S,n,hk⟩
   ·obtain ⟨its,_,pl,_⟩ := I.list hq
    refine ⟨pl.isList.typeIs,fun a e => ?_⟩
    cases e
    obtain ⟨o,n,e,c,hd,_⟩ := pl
    exact ⟨o,e,hd⟩
   ·refine ⟨⟨o,I.kIn p o hk,hc⟩,fun a e => ?_⟩
    cases e
    exact ⟨o,I.kIn _ o hk,hd⟩
   ·have z : ∃ o,s.heap.get? p = some o ∧ o.ExactDict := by
     rcases hk with ⟨kvs,hk⟩ | ⟨kvs,hk⟩
     ·obtain ⟨_,_,_,_,o,_,_,e,ex,_⟩ := I.hok p _ hk
      exact ⟨o,e,ex⟩
     ·obtain ⟨_,_,_,_,o,_,_,e,ex,_⟩ := I.hok p _ hk
      exact ⟨o,e,ex⟩
    obtain ⟨o,e,ex⟩ := z
    refine ⟨⟨o,e,ex.1⟩,fun a e2 => ?_⟩
    cases e2
    exact ⟨o,e,ex.2.1⟩
   ·obtain ⟨o,_,_,_,e,ex,_⟩ := I.hok p _ hk
    refine ⟨⟨o,e,ex.1⟩,fun a e2 => ?_⟩
    cases e2
    exact ⟨o,e,ex.2.1⟩
 | _ => exact False.elim ty
noncomputable def tBM0 (K : PySem.W.Frag) (T : String) (r : V → List V → Hp → VK → Prop) (to : TE) : TE := fun σ H Q => to σ H fun x H1 => tyV K T x H1 ∧ r x [] H1 Q
noncomputable def tBM (K : PySem.W.Frag) (T : String) (r : V → List V → Hp → VK → Prop) (to : TE) (t : TA) : TE := fun σ H Q => to σ H fun x H1 => tyV K T x H1 ∧ t σ H1 fun xs H2 => r x xs H2 Q
variable {o e : Expr} {es : List Expr} {to : TE} {t : TA} {name : Str} {apos cpos : Pos} {T id : String} {r : V → List V → Hp → VK → Prop}
theorem zfD (pa : PlainAttrs T) (slot : Slot T name id) (hty : typeOf (.builtin id) = pure (.type "method_descriptor")) (hm : MtR X id r) (ho : PE X o to)
 (hbase : attributeBase o name X.env (eval o X.env) = eval o X.env := by rfl) (hline : (apos.endLine == cpos.line) = true := by rfl) : PE X (.Call (.Attribute o name apos) [] [] cpos) (tBM0 X.K T r to) := by
 intro pins s σ H Q I h
 refine wpAny_Call_method0_late hbase hline (thn (ho pins s σ H _ I h) fun v s1 ⟨x,H1,I1,r1,ty,q1⟩ => ?_)
 obtain ⟨h1,h2⟩ := zh0 I1 r1 ty
 exact ⟨T,id,pa,slot,hty,h1,h2,Calls.callWith_builtin rfl (PySem.evalArgs_none (hm pins s1 σ H1 x [] v [] Q I1 r1 .nil q1))⟩
theorem zhp (pa : PlainAttrs T) (slot : Slot T name id) (hty : typeOf (.builtin id) = pure (.type "method_descriptor")) (hm : MtR X id r) (ho : PE X o to) (ha : PA X (e :: es) t)
 (hbase : attributeBase o name X.env (eval o X.env) = eval o X.env := by rfl)
 (hfew : ((backTo cpos (starEach (e :: es) X.env)).all (fun x => !x.1) && (backToKw cpos (keywordEach [] X.env)).all (fun x => x.1.isSome)
  && decide ((e :: es).length + ([] : List Keyword).length + (if ([] : List Keyword).isEmpty then 0 else 1) < 30)) = true := by rfl)
 (hline : (apos.endLine == cpos.line) = true := by rfl) (hs : starEach (e :: es) X.env = (false,eval e X.env) :: starEach es X.env := by rfl) (hplain : (backTo cpos (starEach es X.env)).any (·.1) = false := by rfl) :
 PE X (.Call (.Attribute o name apos) (e :: es) [] cpos) (tBM X.K T r to t) := by
 intro pins s σ H Q I h
 refine wpAny_Call_method_late hbase hfew hline rfl (thn (ho pins s σ H _ I h) fun v s1 ⟨x,H1,I1,r1,ty,q1⟩ => ?_)
 obtain ⟨h1,h2⟩ := zh0 I1 r1 ty
 refine ⟨T,id,pa,slot,hty,h1,h2,?_⟩
 have hA := ha cpos pins s1 σ H1 _ I1 q1
 rw [hs] at hA ⊢
 refine Calls.callWith_builtin (by show (false || (backTo cpos (starEach es X.env)).any (·.1)) = false; rw [hplain] <;> rfl) (Calls.evalArgs_plain ?_)
 exact thn hA fun us s2 ⟨vs,H2,I2,r2,q2⟩ => hm pins s2 σ H2 x vs v us Q I2 r1 r2 q2
end
end L2
namespace L2
open PySem PySem.Spec PyProof.Rows
noncomputable def MtM (X : Cx) (id : String) (r : V → List V → Hp → VK → Prop) : Prop :=
 ∀ (pins : List (Addr × Obj)) (s : Shared) (σ : St) (H : Hp) (x : V) (xs : List V) (v : Value) (us : List Value) (Q : VK),Inv X pins σ H s → RelV x v → Vals xs us → r x xs H Q →
   wpAny (model X.prog X.w) X.A (call (.builtin id) (v :: us)) (EP X pins σ Q) X.xe s
theorem Vals.one : ∀ {x : V} {us : List Value},Vals [x] us → ∃ u,us = [u] ∧ RelV x u
 | _,_,.cons r .nil => ⟨_,rfl,r⟩
theorem Vals.zero : ∀ {us : List Value},Vals [] us → us = []
 | _,.nil => rfl
theorem Vals.dropLast {xs : List V} {us : List Value} (h : Vals xs us) : Vals xs.dropLast us.dropLast := by
 induction h with
 | nil => exact .nil
 | cons r t ih =>
   cases t with
   | nil => exact .nil
   | cons q t' => exact .cons r ih
theorem Vals.reverse {xs : List V} {us : List Value} (h : Vals xs us) : Vals xs.reverse us.reverse := by
 induction h with
 | nil => exact .nil
 | cons r t ih => rw [List.reverse_cons,List.reverse_cons]; exact Vals.append ih (.cons r .nil)
theorem zeU {α : Type} (l : List α) : l.eraseIdx (l.length - 1) = l.dropLast := by
 induction l with
 | nil => rfl
 | cons a r ih =>
   cases r with
   | nil => rfl
   | cons b r =>
     have e : (a :: b :: r).length - 1 = ((b :: r).length - 1) + 1 := by
      have h1 : (a :: b :: r).length = r.length + 2 := rfl
      have h2 : (b :: r).length = r.length + 1 := rfl
      lia
     rw [e,List.eraseIdx_cons_succ,ih]
     all_goals rfl
section
variable {X : Cx} {pins : List (Addr × Obj)} {σ : St} {H : Hp} {s : Shared} {l b : Addr} {xs ys zs : List V}
theorem Inv.lset {its its' : List Value} {n : Nat} {f : Array Value → Array Value} {t' : Nat} (I : Inv X pins σ H s) (hH : H l = some (.lst xs))
 (e : s.heap.get? l = some { cls := .type "list",data := .seq its.toArray n }) (hf : f its.toArray = its'.toArray) (hv : Vals ys its') (hz : ys.length ≤ sizeLine) :
 Inv X pins σ (upd H l (.lst ys)) { s with heap := s.heap.update l (Obj.mapSeq f),toks := t' } := by
 have q := PySem.IsL.update e f
 rw [hf] at q
 refine I.write (x := l) (e := l) (by rw [hH]; exact trivial) (.inl rfl) (fun b' u hb hu => (Heap.get?_update_other s.heap (Obj.mapSeq f) (Ne.symm hb)).trans hu) ⟨_,q⟩ ?_
 exact ⟨hz,its',_,hv,q⟩
theorem Inv.lnew {its : List Value} {t' : Nat} (I : Inv X pins σ H s) (hv : Vals ys its) (hz : ys.length ≤ sizeLine) :
 Inv X pins σ (upd H s.heap.objs.size (.lst ys)) { s with heap := s.heap.push { cls := .type "list",data := .seq its.toArray },toks := t' } :=
 I.laid (fun _ _ q => Heap.get?_push_of_some _ q) (Nat.le_refl _) ⟨hz,its,0,hv,Heap.get?_push_size _ rfl⟩
theorem Inv.fresh (I : Inv X pins σ H s) : H s.heap.objs.size = none := I.hok.fresh (Nat.le_refl _)
theorem Inv.lstM (I : Inv X pins σ H s) (hH : H l = some (.lst xs)) : xs.length ≤ sizeLine ∧ ∃ (its : List Value) (n : Nat),Vals xs its ∧ xs.length = its.length ∧ s.heap.get? l = some { cls := .type "list",data := .seq its.toArray n } := by
 obtain ⟨z,its,n,r,e⟩ := I.hok l _ hH
 exact ⟨z,its,n,r,r.length,e⟩
theorem zht {n : Nat} (h : n ≤ sizeLine) : Builtin.List.listTooLong n = false := by
 unfold Builtin.List.listTooLong
 exact decide_eq_false (by lia)
end
section
variable {X : Cx}
noncomputable def zcI : V → List V → Hp → VK → Prop := fun x vs H Q => ∃ l xs y,x = .ref l ∧ vs = [y] ∧ H l = some (.lst xs) ∧ xs.length < sizeLine ∧ Q .non (upd H l (.lst (xs ++ [y])))
theorem u8 : MtM X "list.append" zcI := by
 intro pins s σ H x vs v us Q I rx rv h
 obtain ⟨l,xs,y,rfl,rfl,hH,hz,q⟩ := h
 cases rx
 obtain ⟨u,rfl,ru⟩ := rv.one
 obtain ⟨z,its,n,r,hl,e⟩ := I.lstM hH
 refine call_meets F.slot_list_append ⟨_,e,rfl⟩ F.entry_list_append (F.args_list_append_2 _ _) (PySem.list_append l its.toArray n u (by rw [List.size_toArray]; lia)) ⟨e,?_⟩
 refine ⟨.non,_,I.lset (its' := its ++ [u]) hH e (by simp) (r.append (.cons ru .nil)) ?_,rfl,q⟩
 rw [List.length_append,List.length_singleton]
 lia
noncomputable def zfv : V → List V → Hp → VK → Prop := fun x vs H Q => ∃ l b xs zs,x = .ref l ∧ vs = [.ref b] ∧ H l = some (.lst xs) ∧ H b = some (.lst zs) ∧ xs.length + zs.length ≤ sizeLine ∧ Q .non (upd H l (.lst (xs ++ zs)))
theorem zfP : MtM X "list.extend" zfv := by
 intro pins s σ H x vs v us Q I rx rv h
 obtain ⟨l,b,xs,zs,rfl,rfl,hH,hB,hz,q⟩ := h
 cases rx
 obtain ⟨u,rfl,ru⟩ := rv.one
 cases ru
 obtain ⟨z,its,n,r,hl,e⟩ := I.lstM hH
 obtain ⟨z2,its2,n2,r2,hl2,e2⟩ := I.lstM hB
 have hsz : its.toArray.size + its2.toArray.size ≤ sizeLine := by rw [List.size_toArray,List.size_toArray]; lia
 have hlong : ¬ (!its.toArray.isEmpty && Builtin.List.listTooLong (its.toArray.size + its2.toArray.size)) = true := by
  rw [zht hsz,Bool.and_false]
  exact Bool.false_ne_true
 refine call_meets F.slot_list_extend ⟨_,e,rfl⟩ F.entry_list_extend (F.args_list_extend_2 _ _)
  (AutoSeq1.list_extend_list_list_0 l its.toArray n b its2.toArray n2 hlong (by rw [List.size_toArray]; lia) (by lia)) ⟨e,e2,?_⟩
 refine ⟨.non,_,I.lset (its' := its ++ its2) hH e (by simp) (r.append r2) ?_,rfl,q⟩
 rw [List.length_append]
 lia
noncomputable def rPop : V → List V → Hp → VK → Prop := fun x vs H Q => ∃ l xs y,x = .ref l ∧ vs = [] ∧ H l = some (.lst xs) ∧ xs[xs.length - 1]? = some y ∧ Q y (upd H l (.lst xs.dropLast))
theorem zkj : MtM X "list.pop" rPop := by
 intro pins s σ H x vs v us Q I rx rv h
 obtain ⟨l,xs,y,rfl,rfl,hH,hy,q⟩ := h
 cases rx
 have hus := rv.zero
 subst hus
 obtain ⟨z,its,n,r,hl,e⟩ := I.lstM hH
 obtain ⟨u,hu,ru⟩ := r.get hy
 have hy' : its.toArray[its.toArray.size - 1]? = some u := by
  show its.toArray[its.length - 1]? = some u
  rw [← Array.getElem?_toList,← hl]
  exact hu
 refine call_meets F.slot_list_pop ⟨_,e,rfl⟩ F.entry_list_pop (F.args_list_pop_1 _) (MeetsSeq.list_pop_last l its.toArray n u hy' (by rw [List.size_toArray]; lia)) ⟨e,?_⟩
 refine ⟨y,_,I.lset (its' := its.dropLast) hH e ?_ r.dropLast ?_,ru,q⟩
 ·show its.toArray.eraseIdxIfInBounds (its.toArray.size - 1) = its.dropLast.toArray
  rw [List.size_toArray,List.eraseIdxIfInBounds_toArray,zeU]
 ·rw [List.length_dropLast]
  lia
noncomputable def zhh : V → List V → Hp → VK → Prop := fun x vs H Q => ∃ l xs,x = .ref l ∧ vs = [] ∧ H l = some (.lst xs) ∧ Q .non (upd H l (.lst xs.reverse))
theorem zeG : MtM X "list.reverse" zhh := by
 intro pins s σ H x vs v us Q I rx rv h
 obtain ⟨l,xs,rfl,rfl,hH,q⟩ := h
 cases rx
 have hus := rv.zero
 subst hus
 obtain ⟨z,its,n,r,hl,e⟩ := I.lstM hH
 refine call_meets F.slot_list_reverse ⟨_,e,rfl⟩ F.entry_list_reverse (F.args_list_reverse_1 _) (AutoSeq1.list_reverse_list_0 l its.toArray n (by rw [List.size_toArray]; lia)) ⟨e,?_⟩
 refine ⟨.non,_,I.lset (its' := its.reverse) hH e (by simp) r.reverse ?_,rfl,q⟩
 rw [List.length_reverse]
 lia
noncomputable def rCat : R2 := fun x y H Q => ∃ l b xs zs,x = .ref l ∧ y = .ref b ∧ H l = some (.lst xs) ∧ H b = some (.lst zs) ∧ xs.length + zs.length ≤ sizeLine ∧ ∀ p,H p = none → Q (.ref p) (upd H p (.lst (xs ++ zs)))
theorem zkb : OpR X (binaryOp .Add) rCat := by
 intro pins s σ H x y v u Q I rx ry h
 obtain ⟨l,b,xs,zs,rfl,rfl,hH,hB,hz,q⟩ := h
 cases rx
 cases ry
 obtain ⟨z,its,n,r,hl,e⟩ := I.lstM hH
 obtain ⟨z2,its2,n2,r2,hl2,e2⟩ := I.lstM hB
 refine PySem.P.add_list e e2 ?_ (by rw [List.size_toArray,List.size_toArray]; lia)
 have ea : its.toArray ++ its2.toArray = (its ++ its2).toArray := by simp
 rw [ea]
 exact ⟨.ref _,_,I.lnew (t' := s.toks) (r.append r2) (by rw [List.length_append]; lia),rfl,q _ I.fresh⟩
end
section
variable {prog : Program} {w : World} {A : Around} {E : Value → Shared → Prop} {s : Shared}
set_option maxRecDepth 100000 in
end
section
variable {X : Cx}
end
end L2
namespace Att
open PySem PySem.W PySem.Calls PyProof.Rows
theorem tq {P : Params} {h : Heap} : ∀ (ns : List Int) (vs : List Value),WellAll P h vs (ns.map WData.int) → IntsAre vs ns := by
 intro ns
 induction ns with
 | nil =>
   intro vs w
   rw [List.map_nil] at w
   cases w
   exact .nil
 | cons n ns ih =>
   intro vs w
   rw [List.map_cons] at w
   cases w with
   | cons a b =>
     cases a
     exact .cons _ _ (ih _ b)
theorem zfj {l : OpenLaw} {n : Nat} (hn : l.most = some n) {P : Params} {h : Heap} {args : List WData} {vals : List Value}
 (hpre : l.row.toRowW.claim.pre args = true) (hwl : WellAll P h vals args) :
 ∃ a vs ns,vals = [Value.ref a] ∧ args = [WData.list (ns.map WData.int)] ∧ h.get? a = some { cls := .type "list",data := .seq vs.toArray } ∧ IntsAre vs ns ∧ ns.length ≤ n := by
 have hsh : WShape.hasAll [] args [.list .int] = true := (pre_splitW hpre).1
 have hc : l.pre.holds [] { args := args } = true := (pre_splitW hpre).2
 obtain ⟨d,r,rfl,h1,h2⟩ := hasAllW_cons hsh
 obtain rfl := hasAllW_nil h2
 obtain ⟨xs,rfl,h3⟩ := hasW_list h1
 obtain ⟨ns,rfl⟩ := items_int h3
 have hlen : ns.length ≤ n := by
  unfold OpenLaw.pre at hc
  have h4 : (WTm.not (.lt (.lit (.int (n : Int))) (.len (.arg 0)))).holds [] { args := [.list (ns.map .int)] } = true := by
   have h4 := (holds_andW hc).1
   rw [hn] at h4
   exact h4
  have h5 := condW_of h4 (w_not (w_lt w_lit (w_len_list (w_arg rfl))))
  rw [List.length_map] at h5
  refine Nat.le_of_not_lt fun q => ?_
  have q' : (n : Int) < ((ns.length : Nat) : Int) := by lia
  first
   | (rw [decide_eq_true q'] at h5; exact absurd h5 (by decide))
   | (simp at h5; lia)
 cases hwl with
 | cons w1 w2 =>
   cases w2
   cases w1 with
   | list ho hall => exact ⟨_,_,ns,rfl,rfl,ho,tq ns _ hall,hlen⟩
theorem zfx (l : OpenLaw) (args : List WData) : l.row.toRowW.claim.post args (.bool true) args = true :=
 postW_of (r := l.row.toRowW) (X := (true == true))
  (show WShape.has [] (.bool true) .bool = true by first | rfl | decide | simp [WShape.has,WShape.arms,WShape.armsAll])
  (show (WTm.eq .res (.lit (.bool true))).value [] { args := args,res := some (.bool true),after := args } = some (.bool (true == true)) from w_eq_bool (w_res rfl) w_lit) rfl
theorem attach_call {l : OpenLaw} {n : Nat} {q : Program} {loose : List Str} {XP : (Str → Option Value) → Heap → Prop} {YP : World → Heap → Prop} {d : DefRec}
 (hn : l.most = some n) (hdf : d.params.defaults = [])
 (call : ∀ (w : World) (s₀ s₁ : Shared) (mg mb : Str → Option Value) (fa : Addr) (o : Obj) (pm cd doc : Value) (a : Addr) (vs : List Value) (ns : List Int),
  Ground q loose [] XP w s₀ mg mb s₁.heap → YP w s₁.heap →
  s₁.heap.get? fa = some o → o.data = .func (docDef d.name d.params d.body d.scope pm cd doc) → s₁.heap.CodeRec cd d.name → mg d.name = some (.ref fa) →
  s₁.heap.get? a = some { cls := .type "list",data := .seq vs.toArray } → IntsAre vs ns → ns.length ≤ n → s₁.gens = #[] →
  codeAny (model l.prog w) callerA (.call (.ref fa) ⟨[.ref a],[]⟩) (fun r s' => r = .ok (.ret (.bool true)) ∧ OldK s₁.heap s'.heap ∧ s'.os = s₁.os ∧ AllBare s'.gens) s₁) :
 WalkO q loose XP YP l.row.toRowW d [] (fun f vs => PySem.call f vs) := by
 intro w s₀ s₁ mg mb G Y fa o pm cd doc dV kV ho hd hcd hD hmg hg args vals as hpre hlay hrd hwl hlo
 obtain rfl : dV = .none := Dflts.none hD hdf
 obtain rfl : kV = .none := Dflts.noKw hD
 obtain ⟨a,vs,ns,rfl,rfl,hobj,hints,hlen⟩ := zfj hn hpre hwl
 refine enter_call (codeAny_mono (call w s₀ s₁ mg mb fa o pm cd doc a vs ns G Y ho (fd_plain hd) hcd hmg hobj hints hlen hg) fun r s' hq => ?_)
 obtain ⟨rfl,h2,h3,h4⟩ := hq
 exact ⟨.inl ⟨.bool true,.bool true,[],rfl,fun _ => rfl,.bool true,zfx l _,fun _ => ⟨List.Pairwise.nil,fun _ hm => (nomatch hm)⟩⟩,h2,h3,h4⟩
section
variable {prog : Program} {w : World} {A : Around} {E : Value → Shared → Prop} {s : Shared} {K : Frag}
end
end Att
namespace L2
open PySem PySem.Spec PyProof.Rows
theorem vA : ∀ {vs : List Value} {ns : List Int},IntsAre vs ns → Vals (ns.map V.int) vs
 | _,_,.nil => .nil
 | _,_,.cons n t h => .cons ⟨t,rfl⟩ (vA h)
noncomputable def Only (H : Hp) : Prop := ∀ b,H b = none ∨ ∃ o xs,H b = some (.frz o (.lst xs))
theorem zhA {P : Program} {w : World} {K : PySem.W.Frag} {mg mb : Str → Option Value} {CX : CXT} {k : Nat} {fa a : Addr} {fd : FuncData} {x : Str} {sp : Sp} {s₁ : Shared} {vs : List Value} {ns : List Int}
 (KX : K.In s₁.heap) (hns : s₁.heap.Ns mainGlobals mg) (hb : s₁.heap.Ns builtinsNs mb) (hbb : ∀ x : Str,x ≠ "__name__" → mb x = bootBuiltins x) (hlim : s₁.heap.NoLimit) (hg : s₁.gens = #[])
 (ha : s₁.heap.get? a = some { cls := .type "list",data := .seq vs.toArray }) (hi : IntsAre vs ns) (hl : ns.length ≤ sizeLine) (hr : Room k callerA)
 (F : ∀ base : Heap,K.In base → base.Ns mainGlobals mg → FnOk P w K mg base CX k fa fd [x] sp) (hbind : ∀ (s : Shared) (u : Value),BindsTo s fd ⟨[u],[]⟩ [(x,u)])
 (hsp : ∀ H : Hp,Only H → SqL K H a (ns.map V.int) → sp [.ref a] H (fun v _ => v = .bl true) fun _ _ _ => False)
 (hCX : ∀ H e s',CX [] H s₁ (fun _ _ _ => False) e s' → False) :
 codeAny (model P w) callerA (.call (.ref fa) ⟨[.ref a],[]⟩) (fun r s' => r = .ok (.ret (.bool true)) ∧ OldK s₁.heap s'.heap ∧ s'.os = s₁.os ∧ AllBare s'.gens) s₁ := by
 have rv := vA hi
 have lenV := hi.length
 have core : ∀ H : Hp,Only H → SqL K H a (ns.map V.int) → HOk P w H s₁.heap → (∀ b,H b ≠ none → b = a) → (H a ≠ none → K.lookup a = none) →
  codeAny (model P w) callerA (.call (.ref fa) ⟨[.ref a],[]⟩) (fun r s' => r = .ok (.ret (.bool true)) ∧ OldK s₁.heap s'.heap ∧ s'.os = s₁.os ∧ AllBare s'.gens) s₁ := by
  intro H hO hS hok hA hK
  have base_of : ∀ {b : Addr} {o : Obj},s₁.heap.get? b = some o → H b = none → (hidT s₁.heap H).get? b = some o := fun e n => zhH e n
  have noA : ∀ {b : Addr} {o : Obj} {es : Array DictEntry} {ep : Nat},s₁.heap.get? b = some o → o.data = .dict es ep → H b = none := fun {b o es ep} e d => by
   cases q : H b with
   | none => rfl
   | some u =>
     have e' : b = a := hA b (by rw [q]; simp)
     subst e'
     rw [ha] at e; cases e
     have d' : Data.seq vs.toArray _ = Data.dict es ep := d
     cases d'
  have nsK : ∀ {b : Addr} {m : Str → Option Value},s₁.heap.Ns b m → (hidT s₁.heap H).Ns b m := fun {b m} ⟨o,es,ep,e,d,r⟩ => ⟨o,es,ep,base_of e (noA e d),d,r⟩
  have hKb : K.In (hidT s₁.heap H) := fun b o e => base_of (KX b o e) (by
   cases q : H b with
   | none => rfl
   | some u =>
     have e' : b = a := hA b (by rw [q]; simp)
     subst e'
     rw [hK (by rw [q]; simp)] at e; cases e)
  have hM : Mod K mg (hidT s₁.heap H) := ⟨hKb,nsK hns,⟨mb,nsK hb,hbb⟩,let ⟨mc,h1,h2⟩ := hlim; ⟨mc,nsK h1,h2⟩⟩
  have e0 : Env0 P w K mg (hidT s₁.heap H) callerA [] s₁ H := ⟨rfl,hM,fun b o e => ziZ e,Nat.le_of_eq (zf5 _ _),trivial,fun b hb => absurd (show b ∈ ([] : List Addr) from hb) (by simp),hok,.of_eq hg⟩
  refine codeAny_mono ((F _ hKb (nsK hns)).run callerA [] s₁ H ⟨[.ref a],[]⟩ [.ref a] [.ref a] _ _ hr e0 (hbind s₁ (.ref a)) (.cons rfl .nil) (hsp H hO hS)) fun r s' h => ?_
  cases r with
  | error e => exact (hCX H e s' h).elim
  | ok fl =>
    cases fl with
    | next => exact False.elim h
    | brk => exact False.elim h
    | cont => exact False.elim h
    | ret u =>
      obtain ⟨v,H',os,bare,un,hok',r',q⟩ := h
      have q' : v = .bl true := q
      subst q'
      obtain rfl : u = Value.bool true := r'
      refine ⟨rfl,OldK.of_keep fun b o e => ?_,os,bare⟩
      cases q : H b with
      | none => exact un.keep b o e q (by intro z; exact absurd (show b ∈ ([] : List Addr) from z) (by simp)) (by simp)
      | some u =>
        rcases hO b with z | ⟨ob,xs,z⟩
        ·rw [q] at z; cases z
        ·have z2 := un.frzs b ob _ z
         obtain ⟨e1,_⟩ := hok b _ z
         obtain ⟨e2,_⟩ := hok' b _ z2
         rw [e] at e1; cases e1
         exact e2
 cases hk : K.lookup a with
 | some o =>
   have e := KX a o hk
   rw [ha] at e
   cases e
   refine core (fun _ => none) (fun _ => .inl rfl) (.inr ⟨_,vs.toArray,_,hk,rfl,rfl,rfl,by rw [List.size_toArray,lenV]; exact hl,by simpa using rv⟩) (fun b u z => by have z' : (none : Option HO) = some u := z; cases z') (fun b z => absurd rfl z) fun z => absurd rfl z
 | none =>
   refine core (fun b => if b = a then some (.frz { cls := .type "list",data := .seq vs.toArray } (.lst (ns.map V.int))) else none) (fun b => ?_) (.inl (.inr ⟨{ cls := .type "list",data := .seq vs.toArray },if_pos rfl⟩)) (fun b u z => ?_) (fun b z => ?_) fun _ => hk
   ·by_cases hb : b = a
    ·exact .inr ⟨_,_,if_pos hb⟩
    ·exact .inl (if_neg hb)
   ·by_cases hb : b = a
    ·have z' := (if_pos hb).symm.trans z
     cases z'
     subst hb
     exact ⟨ha,by rw [List.length_map]; exact hl,vs,_,rv,ha⟩
    ·have z' := (if_neg hb).symm.trans z
     cases z'
   ·by_cases hb : b = a
    ·exact hb
    ·exact absurd (if_neg hb) z
end L2
namespace L2
open PySem PySem.Spec PyProof.Rows
theorem ziz {l : PySem.W.OpenLaw} {n k : Nat} {q : Program} {loose : List Str} {XP : (Str → Option Value) → Heap → Prop} {YP : World → Heap → Prop} {d : DefRec} {K : Params → PySem.W.Frag} {CX : World → CXT} {sp : World → Sp} {x : Str}
 (hn : l.most = some n) (hn2 : n ≤ sizeLine) (hdf : d.params.defaults = []) (hr : Room k callerA)
 (hY : ∀ (w : World) (h : Heap),YP w h → (K w.params).In h)
 (F : ∀ (w : World) (mg : Str → Option Value) (fa : Addr) (h : Heap),(K w.params).In h → h.Ns mainGlobals mg → mg d.name = some (.ref fa) →
  ∃ fd : FuncData,(∀ (s : Shared) (u : Value),BindsTo s fd ⟨[u],[]⟩ [(x,u)]) ∧
    ∀ base : Heap,(K w.params).In base → base.Ns mainGlobals mg → FnOk l.prog w (K w.params) mg base (CX w) k fa fd [x] (sp w))
 (hsp : ∀ (w : World) (H : Hp) (a : Addr) (ns : List Int),ns.length ≤ n → Only H → SqL (K w.params) H a (ns.map V.int) → sp w [.ref a] H (fun v _ => v = .bl true) fun _ _ _ => False)
 (hCX : ∀ (w : World) (H : Hp) (s : Shared) (e : Value) (s' : Shared),CX w [] H s (fun _ _ _ => False) e s' → False) :
 PySem.W.WalkO q loose XP YP l.row.toRowW d [] (fun f vs => PySem.call f vs) := by
 refine Att.attach_call hn hdf fun w s₀ s₁ mg mb fa o pm cd doc a vs ns G Y ho hd hcd hmg hobj hints hlen hg => ?_
 have KX := hY w _ Y
 obtain ⟨fd,hb,hF⟩ := F w mg fa _ KX G.T.g hmg
 exact zhA KX G.T.g G.T.b G.T.builtins G.T.nolimit hg hobj hints (Nat.le_trans hlen hn2) hr hF hb (fun H hO hS => hsp w H a ns hlen hO hS) fun H e s' => hCX w H s₁ e s'
theorem zgZ {l : PySem.W.OpenLaw} {n k : Nat} {q : Program} {loose : List Str} {XP : (Str → Option Value) → Heap → Prop} {YP : World → Heap → Prop} {d : DefRec} {K : Params → PySem.W.Frag} {CX : CXT} {sp : PySem.W.Frag → Sp} {x : Str}
 (hn : l.most = some n) (hn2 : n ≤ sizeLine) (hdf : d.params.defaults = []) (hr : Room k callerA)
 (hY : ∀ (w : World) (h : Heap),YP w h → (K w.params).In h)
 (F : ∀ (w : World) (mg : Str → Option Value) (fa : Addr) (h : Heap),(K w.params).In h → h.Ns mainGlobals mg → mg d.name = some (.ref fa) →
  ∃ fd : FuncData,(∀ (s : Shared) (u : Value),BindsTo s fd ⟨[u],[]⟩ [(x,u)]) ∧
    ∀ base : Heap,(K w.params).In base → base.Ns mainGlobals mg → FnOk l.prog w (K w.params) mg base CX k fa fd [x] (sp (K w.params)))
 (hsp : ∀ (K : PySem.W.Frag) (H : Hp) (a : Addr) (ns : List Int),ns.length ≤ n → Only H → SqL K H a (ns.map V.int) → sp K [.ref a] H (fun v _ => v = .bl true) fun _ _ _ => False)
 (hCX : ∀ (H : Hp) (s : Shared) (e : Value) (s' : Shared),CX [] H s (fun _ _ _ => False) e s' → False) :
 PySem.W.WalkO q loose XP YP l.row.toRowW d [] (fun f vs => PySem.call f vs) :=
 ziz (K := K) (CX := fun _ => CX) (sp := fun w => sp (K w.params)) hn hn2 hdf hr hY F (fun w H a ns h1 h2 h3 => hsp (K w.params) H a ns h1 h2 h3) fun _ H s e s' => hCX H s e s'
end L2
namespace L2
open PySem PySem.Spec PyProof.Rows
noncomputable def defArgs (s : Stmt) : Arguments := match s with
 | .FunctionDef _ a _ _ _ _ _ _ _ _ => a
 | _ => { posonlyargs := [],args := [],vararg := none,kwonlyargs := [],kw_defaults := [],kwarg := none,defaults := [] }
noncomputable def defBody (s : Stmt) : List Stmt := match s with
 | .FunctionDef _ _ b _ _ _ _ _ _ _ => b
 | _ => []
noncomputable def defScope (s : Stmt) : Scope := match s with
 | .FunctionDef _ _ _ _ _ _ sc _ _ _ => sc
 | _ => { kind := .function,names := [],isGenerator := false,isCoroutine := false }
noncomputable abbrev CX0 : CXT := fun _ _ _ _ _ _ => False
noncomputable abbrev E0 : XK := fun _ _ _ => False
theorem pass0 {X : Cx} : zgM CX0 X E0 := fun _ _ _ _ _ _ _ h => h.elim
structure Fun (K : PySem.W.Frag) (x qual : Str) (st : Stmt) (f : Addr) (fd : FuncData) : Prop where
 ex : ∃ (oc : Value) (od : Option Addr) (kV doc pm : Value) (an : Option Addr) (cdv ct : Value) (osl : Array (Option Value)),
  fd = PySem.W.fnOf x qual (defArgs st) (defBody st) (defScope st) .none kV doc pm an cdv ct ∧ K.lookup f = some ⟨oc,od,.func fd,osl⟩ ∧ PySem.W.codeIn K cdv qual = true
 kp : PySem.W.keepIn K (.ref f) = true
section
variable {P : Program} {w : World} {K : PySem.W.Frag} {mg : Str → Option Value} {base : Heap}
theorem Fun.ok {x qual : Str} {st : Stmt} {f : Addr} {fd : FuncData} {N ps : List Str} {k : Nat} {sp : Sp} (F : Fun K x qual st f fd) (S : FnScope N ps (defScope st)) (len : ∀ vs H Q E,sp vs H Q E → vs.length = ps.length)
 (hbody : ∀ (cdv : Value) (A : Around) (outer : List Env) (s : Shared) (H : Hp) (vs : List V) (Q : VK) (E : XK),Room k (A.deeper (envOfC qual (defScope st) s.heap.objs.size f cdv)) → sp vs H Q E →
  ∃ t,PSs (cxOf CX0 P w K mg base N qual (defScope st) f cdv A outer s H E).nox (defBody st) t ∧ t { nx := fun _ H' => Q .non H',rt := Q } (zx N vs) H) : FnOk P w K mg base CX0 (k + 1) f fd ps sp := by
 obtain ⟨oc,od,kV,doc,pm,an,cdv,ct,osl,rfl,lk,hcd⟩ := F.ex
 refine fn_of lk hcd S len fun A outer s H vs Q E hr hsp => ?_
 obtain ⟨t,h,q⟩ := hbody cdv A outer s H vs Q E hr hsp
 exact ⟨t,h.nox,q⟩
theorem Fun.binds {x qual : Str} {st : Stmt} {f : Addr} {fd : FuncData} {ps : List Str} (F : Fun K x qual st f fd)
 (h : ∀ (kV doc pm : Value) (an : Option Addr) (cdv ct : Value) (us : List Value),us.length = ps.length → bindArgs (PySem.W.fnOf x qual (defArgs st) (defBody st) (defScope st) .none kV doc pm an cdv ct) ⟨us,[]⟩ = pure (ps.zip us)) : Binds K fd ps [] := by
 obtain ⟨oc,od,kV,doc,pm,an,cdv,ct,osl,rfl,lk,hcd⟩ := F.ex
 exact .all (h kV doc pm an cdv ct)
theorem zZ {x qual : Str} {st : Stmt} {f : Addr} {oc : Value} {od an : Option Addr} {osl : Array (Option Value)} {kV doc pm cdv ct : Value} (l : K.lookup f = some ⟨oc,od,.func (PySem.W.fnOf x qual (defArgs st) (defBody st) (defScope st) .none kV doc pm an cdv ct),osl⟩)
 (c : PySem.W.codeIn K cdv qual = true) (k : PySem.W.keepIn K (.ref f) = true) : Fun K x qual st f (PySem.W.fnOf x qual (defArgs st) (defBody st) (defScope st) .none kV doc pm an cdv ct) := ⟨⟨oc,od,kV,doc,pm,an,cdv,ct,osl,rfl,l,c⟩,k⟩
end
section
variable {X : Cx}
theorem pv (i : Nat) {x : Str} {pos : Pos} (hN : X.N[i]? = some x := by rfl) (hv : Vis X.env.scope x := by first | exact Or.inl rfl | exact Or.inr (Or.inl rfl) | exact Or.inr (Or.inr rfl)) (hd : (x == ("__debug__" : Str)) = false := by decide)
 (hcd : (x == ("__classdict__" : Str)) = false := by decide) : PE X (.Name x pos) (tVar i) := zjW hN hv hd hcd
end
theorem iteF {A B : Prop} (h : B) : if false = true then A else B := by
 rw [if_neg Bool.false_ne_true]
 exact h
theorem iteT {A B : Prop} (h : A) : if true = true then A else B := by
 rw [if_pos rfl]
 exact h
noncomputable def Same (H H' : Hp) : Prop := ∀ b o,H b = some o → H' b = some o
theorem Same.refl (H : Hp) : Same H H := fun _ _ h => h
theorem Same.trans {H H1 H2 : Hp} (a : Same H H1) (b : Same H1 H2) : Same H H2 := fun c o h => b c o (a c o h)
theorem Same.free {H H' : Hp} (e : Same H H') {l : Addr} (h : H' l = Option.none) : H l = Option.none := by
 cases q : H l with
 | none => rfl
 | some o =>
   rw [e l o q] at h
   cases h
theorem Same.seq {K : PySem.W.Frag} {H H' : Hp} {a : Addr} {xs : List V} (e : Same H H') (h : SqL K H a xs) : SqL K H' a xs := by
 rcases h with (h | ⟨o,h⟩) | h
 ·exact .inl (.inl (e _ _ h))
 ·exact .inl (.inr ⟨o,e _ _ h⟩)
 ·exact .inr h
end L2
set_option maxHeartbeats 4000000
namespace DL
open PySem PySem.Spec PyProof.Rows L2
noncomputable abbrev St := L2.St
inductive D where
 | non
 | bl (b : Bool)
 | int (i : Int)
 | tup (ds : List D)
 | lst (ds : List D)
 | scr (ns : List Int)
 | exc (c : Str) (p : Option Int)
inductive Out (α : Type) where
 | bad
 | ok (a : α)
 | exc (c : Str) (p : Option Int)
noncomputable def Out.bind {α β : Type} (x : Out α) (f : α → Out β) : Out β :=
 match x with
 | .bad => .bad
 | .ok a => f a
 | .exc c p => .exc c p
@[simp] theorem zj {α β : Type} (a : α) (f : α → Out β) : (Out.ok a).bind f = f a := rfl
@[simp] theorem bind_bad {α β : Type} (f : α → Out β) : (Out.bad : Out α).bind f = .bad := rfl
@[simp] theorem bind_exc {α β : Type} (c : Str) (p : Option Int) (f : α → Out β) : (Out.exc c p : Out α).bind f = .exc c p := rfl
theorem zk {α β : Type} {x : Out α} {f : α → Out β} {b : β} (h : x.bind f = .ok b) : ∃ a,x = .ok a ∧ f a = .ok b := by
 cases x with
 | bad => cases h
 | ok a => exact ⟨a,rfl,h⟩
 | exc c p => cases h
inductive Val where
 | pers (d : D)
 | fresh (ds : List D)
 | brw (i : Nat) (ds : List D)
@[simp] noncomputable def Val.d : Val → D
  | .pers d => d
  | .fresh ds => .lst ds
  | .brw _ ds => .lst ds
@[simp] noncomputable def Val.hold : Val → Out D
  | .pers d => .ok d
  | .fresh ds => .ok (.lst ds)
  | .brw _ _ => .bad
inductive Slot where
 | un
 | pers (d : D)
 | own (ds : List D)
noncomputable abbrev Ev := List Slot
noncomputable abbrev FE := Ev → Out Val
noncomputable abbrev FT := Ev → Out Bool
inductive Res where
 | next (env : Ev)
 | ret (v : Val)
noncomputable abbrev FS := Ev → Out Res
mutual
noncomputable def Rep (K : PySem.W.Frag) (G : Hp) : D → V → Prop
 | .non,v => v = .non
 | .bl b,v => v = .bl b
 | .int i,v => v = .int i
 | .tup ds,v => ∃ a vs,v = .ref a ∧ G a = some (.tup vs) ∧ RepL K G ds vs
 | .lst ds,v => ∃ a vs,v = .ref a ∧ G a = some (.lst vs) ∧ RepL K G ds vs
 | .scr ns,v => ∃ a,v = .ref a ∧ SqL K G a (ns.map V.int)
 | .exc _ _,_ => False
noncomputable def RepL (K : PySem.W.Frag) (G : Hp) : List D → List V → Prop
 | [],vs => vs = []
 | d :: ds,vs => ∃ v r,vs = v :: r ∧ Rep K G d v ∧ RepL K G ds r
end
section
variable {K : PySem.W.Frag} {G G' : Hp}
mutual
theorem Rep.mono (s : Same G G') : ∀ {d : D} {v : V},Rep K G d v → Rep K G' d v
 | .non,_,h => h
 | .bl _,_,h => h
 | .int _,_,h => h
 | .tup ds,v,h => by
   obtain ⟨a,vs,e,g,r⟩ := h
   exact ⟨a,vs,e,s _ _ g,RepL.mono s r⟩
 | .lst ds,v,h => by
   obtain ⟨a,vs,e,g,r⟩ := h
   exact ⟨a,vs,e,s _ _ g,RepL.mono s r⟩
 | .scr ns,v,h => by
   obtain ⟨a,e,g⟩ := h
   exact ⟨a,e,s.seq g⟩
 | .exc _ _,_,h => h
theorem RepL.mono (s : Same G G') : ∀ {ds : List D} {vs : List V},RepL K G ds vs → RepL K G' ds vs
 | [],_,h => h
 | d :: ds,vs,h => by
   obtain ⟨v,r,e,h1,h2⟩ := h
   exact ⟨v,r,e,Rep.mono s h1,RepL.mono s h2⟩
end
theorem RepL.nil : RepL K G [] [] := rfl
theorem RepL.cons {d : D} {v : V} {ds : List D} {vs : List V} (h : Rep K G d v) (r : RepL K G ds vs) : RepL K G (d :: ds) (v :: vs) := ⟨v,vs,rfl,h,r⟩
theorem RepL.length : ∀ {ds : List D} {vs : List V},RepL K G ds vs → ds.length = vs.length
 | [],_,h => by cases (show _ = [] from h); rfl
 | d :: ds,vs,h => by
   obtain ⟨v,r,rfl,_,h2⟩ := h
   simp [RepL.length h2]
theorem RepL.get : ∀ {ds : List D} {vs : List V} {i : Nat} {d : D},RepL K G ds vs → ds[i]? = some d → ∃ v,vs[i]? = some v ∧ Rep K G d v
 | [],_,i,d,h,e => by simp at e
 | d' :: ds,vs,0,d,h,e => by
   obtain ⟨v,r,rfl,h1,h2⟩ := h
   simp at e
   subst e
   exact ⟨v,rfl,h1⟩
 | d' :: ds,vs,i + 1,d,h,e => by
   obtain ⟨v,r,rfl,h1,h2⟩ := h
   obtain ⟨u,h3,h4⟩ := RepL.get (i := i) h2 (by simpa using e)
   exact ⟨u,by simpa using h3,h4⟩
theorem RepL.get' : ∀ {ds : List D} {vs : List V} {i : Nat} {v : V},RepL K G ds vs → vs[i]? = some v → ∃ d,ds[i]? = some d ∧ Rep K G d v
 | [],_,i,d,h,e => by cases (show _ = [] from h); simp at e
 | d' :: ds,vs,0,d,h,e => by
   obtain ⟨v,r,rfl,h1,h2⟩ := h
   simp at e
   subst e
   exact ⟨d',rfl,h1⟩
 | d' :: ds,vs,i + 1,d,h,e => by
   obtain ⟨v,r,rfl,h1,h2⟩ := h
   obtain ⟨u,h3,h4⟩ := RepL.get' (i := i) h2 (by simpa using e)
   exact ⟨u,by simpa using h3,h4⟩
theorem RepL.append : ∀ {ds es : List D} {vs us : List V},RepL K G ds vs → RepL K G es us → RepL K G (ds ++ es) (vs ++ us)
 | [],es,vs,us,h,h' => by cases (show _ = [] from h); exact h'
 | d :: ds,es,vs,us,h,h' => by
   obtain ⟨v,r,rfl,h1,h2⟩ := h
   exact ⟨v,r ++ us,rfl,h1,RepL.append h2 h'⟩
theorem RepL.take : ∀ {ds : List D} {vs : List V} (n : Nat),RepL K G ds vs → RepL K G (ds.take n) (vs.take n)
 | ds,vs,0,h => by simp only [List.take_zero]; exact rfl
 | [],vs,n + 1,h => by cases (show _ = [] from h); exact rfl
 | d :: ds,vs,n + 1,h => by
   obtain ⟨v,r,rfl,h1,h2⟩ := h
   exact ⟨v,r.take n,rfl,h1,RepL.take n h2⟩
theorem RepL.drop : ∀ {ds : List D} {vs : List V} (n : Nat),RepL K G ds vs → RepL K G (ds.drop n) (vs.drop n)
 | ds,vs,0,h => by simpa using h
 | [],vs,n + 1,h => by cases (show _ = [] from h); exact rfl
 | d :: ds,vs,n + 1,h => by
   obtain ⟨v,r,rfl,h1,h2⟩ := h
   exact RepL.drop n h2
theorem RepL.reverse {ds : List D} : ∀ {vs : List V},RepL K G ds vs → RepL K G ds.reverse vs.reverse := by
 induction ds with
 | nil => intro vs h; cases (show _ = [] from h); exact rfl
 | cons d ds ih =>
   intro vs h
   obtain ⟨v,r,rfl,h1,h2⟩ := h
   rw [List.reverse_cons,List.reverse_cons]
   exact RepL.append (ih h2) (RepL.cons h1 RepL.nil)
theorem RepL.dropLast {ds : List D} {vs : List V} (h : RepL K G ds vs) : RepL K G ds.dropLast vs.dropLast := by
 rw [List.dropLast_eq_take,List.dropLast_eq_take,← h.length]
 exact h.take _
theorem RepL.ints : ∀ (ns : List Int),RepL K G (ns.map D.int) (ns.map V.int)
 | [] => rfl
 | n :: ns => ⟨.int n,ns.map V.int,rfl,rfl,RepL.ints ns⟩
theorem RepL.ints_of : ∀ {ns : List Int} {vs : List V},RepL K G (ns.map D.int) vs → vs = ns.map V.int
 | [],_,h => h
 | n :: ns,vs,h => by
   obtain ⟨v,r,rfl,h1,h2⟩ := h
   rw [RepL.ints_of h2]
   cases (show v = .int n from h1)
   rfl
end
structure Grow (G H G' H' : Hp) : Prop where
 g : Same G G'
 h : Same H H'
 n : ∀ b,H b ≠ none → G b = none → G' b = none
theorem Grow.refl (G H : Hp) : Grow G H G H := ⟨Same.refl _,Same.refl _,fun _ _ h => h⟩
theorem Same.some_of {H H' : Hp} (s : Same H H') {b : Addr} (h : H b ≠ none) : H' b ≠ none := by
 cases q : H b with
 | none => exact absurd q h
 | some o => rw [s b o q]; simp
theorem Grow.trans {G H G1 H1 G2 H2 : Hp} (a : Grow G H G1 H1) (b : Grow G1 H1 G2 H2) : Grow G H G2 H2 :=
 ⟨a.g.trans b.g,a.h.trans b.h,fun c h1 h2 => b.n c (Same.some_of a.h h1) (a.n c h1 h2)⟩
theorem ut {H H' : Hp} (s : Same H H') {b : Addr} (h : H' b = none) : H b = none := s.free h
structure SlotOwn (K : PySem.W.Frag) (H₀ : Hp) (σ : St) (G H : Hp) (i : Nat) (ds : List D) (a : Addr) (vs : List V) : Prop where
 at_ : σ[i]? = some (some (.ref a))
 hp : H a = some (.lst vs)
 gn : G a = none
 new : H₀ a = none
 rep : RepL K G ds vs
noncomputable def SlotOk (K : PySem.W.Frag) (H₀ : Hp) (σ : St) (G H : Hp) (i : Nat) : Slot → Prop
 | .un => True
 | .pers d => ∃ v,σ[i]? = some (some v) ∧ Rep K G d v
 | .own ds => ∃ a vs,SlotOwn K H₀ σ G H i ds a vs
structure DI (K : PySem.W.Frag) (G₀ H₀ : Hp) (env : Ev) (σ : St) (G H : Hp) : Prop where
 le : Same G H
 gr : Grow G₀ H₀ G H
 len : env.length = σ.length
 slot : ∀ (i : Nat) (s : Slot),env[i]? = some s → SlotOk K H₀ σ G H i s
 apart : ∀ (i j : Nat) (ds es : List D) (a : Addr),i ≠ j → env[i]? = some (.own ds) → env[j]? = some (.own es) → σ[i]? = some (some (.ref a)) → σ[j]? ≠ some (some (.ref a))
section
variable {K : PySem.W.Frag} {G₀ H₀ G H G' H' : Hp} {env : Ev} {σ : St}
theorem DI.grow (I : DI K G₀ H₀ env σ G H) (g : Grow G H G' H') (l : Same G' H') : DI K G₀ H₀ env σ G' H' where
 le := l
 gr := I.gr.trans g
 len := I.len
 slot := fun i s e => by
  have q := I.slot i s e
  cases s with
  | un => trivial
  | pers d => obtain ⟨v,h1,h2⟩ := q; exact ⟨v,h1,h2.mono g.g⟩
  | own ds =>
    obtain ⟨a,vs,o⟩ := q
    exact ⟨a,vs,o.at_,g.h _ _ o.hp,g.n a (by rw [o.hp]; simp) o.gn,o.new,o.rep.mono g.g⟩
 apart := I.apart
theorem DI.own (I : DI K G₀ H₀ env σ G H) {i : Nat} {ds : List D} (e : env[i]? = some (.own ds)) : ∃ a vs,SlotOwn K H₀ σ G H i ds a vs := I.slot i _ e
theorem DI.pers (I : DI K G₀ H₀ env σ G H) {i : Nat} {d : D} (e : env[i]? = some (.pers d)) : ∃ v,σ[i]? = some (some v) ∧ Rep K G d v := I.slot i _ e
end
noncomputable def vx (K : PySem.W.Frag) (H : Hp) (env : Ev) (σ : St) (G' H' : Hp) (v : V) : Val → Prop
 | .pers d => Rep K G' d v
 | .fresh ds => ∃ a vs,v = .ref a ∧ H a = none ∧ H' a = some (.lst vs) ∧ G' a = none ∧ RepL K G' ds vs
 | .brw i ds => ∃ a,v = .ref a ∧ env[i]? = some (.own ds) ∧ σ[i]? = some (some (.ref a))
theorem vx.base {K : PySem.W.Frag} {H H1 : Hp} {env : Ev} {σ : St} {G' H' : Hp} {v : V} {val : Val} (s : Same H H1) (h : vx K H1 env σ G' H' v val) : vx K H env σ G' H' v val := by
 cases val with
 | pers d => exact h
 | fresh ds =>
   obtain ⟨a,vs,e,h1,h2,h3,h4⟩ := h
   exact ⟨a,vs,e,s.free h1,h2,h3,h4⟩
 | brw i ds => exact h
noncomputable def Opd (K : PySem.W.Frag) (env : Ev) (σ : St) (G : Hp) (v : V) (d : D) : Prop :=
 Rep K G d v ∨ ∃ (i : Nat) (ds : List D) (a : Addr),d = .lst ds ∧ v = .ref a ∧ env[i]? = some (.own ds) ∧ σ[i]? = some (some (.ref a))
theorem Opd.mono {K : PySem.W.Frag} {env : Ev} {σ : St} {G G' : Hp} {v : V} {d : D} (h : Opd K env σ G v d) (s : Same G G') : Opd K env σ G' v d :=
 h.elim (fun x => .inl (x.mono s)) .inr
section
variable {K : PySem.W.Frag} {G₀ H₀ G H G' H' : Hp} {env : Ev} {σ : St} {v : V}
theorem Opd.lst {ds : List D} (I : DI K G₀ H₀ env σ G H) (h : Opd K env σ G v (.lst ds)) : ∃ a vs,v = .ref a ∧ H a = some (.lst vs) ∧ RepL K G ds vs := by
 rcases h with h | ⟨i,es,a,e1,e2,e3,e4⟩
 ·obtain ⟨a,vs,e,g,r⟩ := h
  exact ⟨a,vs,e,I.le _ _ g,r⟩
 ·cases e1
  obtain ⟨b,vs,o⟩ := I.own e3
  have q := o.at_
  rw [e4] at q
  cases q
  exact ⟨a,vs,e2,o.hp,o.rep⟩
theorem Opd.tup {ds : List D} (I : DI K G₀ H₀ env σ G H) (h : Opd K env σ G v (.tup ds)) : ∃ a vs,v = .ref a ∧ H a = some (.tup vs) ∧ RepL K G ds vs := by
 rcases h with h | ⟨i,es,a,e1,e2,e3,e4⟩
 ·obtain ⟨a,vs,e,g,r⟩ := h
  exact ⟨a,vs,e,I.le _ _ g,r⟩
 ·cases e1
theorem Opd.int {i : Int} (h : Opd K env σ G v (.int i)) : v = .int i := by
 rcases h with h | ⟨_,_,_,e,_⟩
 ·exact h
 ·cases e
theorem Opd.bl {b : Bool} (h : Opd K env σ G v (.bl b)) : v = .bl b := by
 rcases h with h | ⟨_,_,_,e,_⟩
 ·exact h
 ·cases e
theorem Opd.non (h : Opd K env σ G v .non) : v = .non := by
 rcases h with h | ⟨_,_,_,e,_⟩
 ·exact h
 ·cases e
theorem Opd.scr {ns : List Int} (I : DI K G₀ H₀ env σ G H) (h : Opd K env σ G v (.scr ns)) : ∃ a,v = .ref a ∧ SqL K H a (ns.map V.int) := by
 rcases h with h | ⟨_,_,_,e,_⟩
 ·obtain ⟨a,e,q⟩ := h
  exact ⟨a,e,I.le.seq q⟩
 ·cases e
theorem opd {val : Val} (g : Grow G H G' H') (l : Same G' H') (h : vx K H env σ G' H' v val) : ∃ G'',Grow G H G'' H' ∧ Same G'' H' ∧ Opd K env σ G'' v val.d := by
 cases val with
 | pers d => exact ⟨G',g,l,.inl h⟩
 | brw i ds =>
   obtain ⟨a,e1,e2,e3⟩ := h
   exact ⟨G',g,l,.inr ⟨i,ds,a,rfl,e1,e2,e3⟩⟩
 | fresh ds =>
   obtain ⟨a,vs,e,h1,h2,h3,h4⟩ := h
   have s' : Same G' (upd G' a (.lst vs)) := fun b o q => by rw [zu (zo q h3)]; exact q
   refine ⟨upd G' a (.lst vs),⟨g.g.trans s',g.h,fun b q1 q2 => ?_⟩,fun b o q => ?_,.inl ⟨a,vs,e,zC,h4.mono s'⟩⟩
   ·have hb : b ≠ a := fun z => q1 (z ▸ h1)
    rw [zu hb]
    exact g.n b q1 q2
   ·by_cases hb : b = a
    ·subst hb; rw [zC] at q; cases q; exact h2
    ·rw [zu hb] at q; exact l b o q
theorem held {val : Val} {d : D} (g : Grow G H G' H') (l : Same G' H') (h : vx K H env σ G' H' v val) (e : val.hold = .ok d) : ∃ G'',Grow G H G'' H' ∧ Same G'' H' ∧ Rep K G'' d v := by
 obtain ⟨G2,g2,l2,o⟩ := opd g l h
 cases val with
 | pers d' => cases e; exact ⟨G',g,l,h⟩
 | brw i ds => cases e
 | fresh ds =>
   cases e
   rcases o with o | ⟨i,es,a,e1,e2,e3,e4⟩
   ·exact ⟨G2,g2,l2,o⟩
   ·obtain ⟨a',vs,e,h1,h2,h3,h4⟩ := h
    have s' : Same G' (upd G' a' (.lst vs)) := fun b o q => by rw [zu (zo q h3)]; exact q
    refine ⟨upd G' a' (.lst vs),⟨g.g.trans s',g.h,fun b q1 q2 => ?_⟩,fun b o q => ?_,⟨a',vs,e,zC,h4.mono s'⟩⟩
    ·have hb : b ≠ a' := fun z => q1 (z ▸ h1)
     rw [zu hb]
     exact g.n b q1 q2
    ·by_cases hb : b = a'
     ·subst hb; rw [zC] at q; cases q; exact h2
     ·rw [zu hb] at q; exact l b o q
theorem Grow.laidT {p : Addr} {o : HO} (l : Same G H) (hp : H p = none) : Grow G H (upd G p o) (upd H p o) ∧ Same (upd G p o) (upd H p o) := by
 have gp := l.free hp
 refine ⟨⟨fun b u q => by rw [zu (zo q gp)]; exact q,fun b u q => by rw [zu (zo q hp)]; exact q,fun b h1 h2 => ?_⟩,fun b u q => ?_⟩
 ·have hb : b ≠ p := fun z => h1 (z ▸ hp)
  rw [zu hb]; exact h2
 ·by_cases hb : b = p
  ·subst hb; rw [zC] at q ⊢; exact q
  ·rw [zu hb] at q ⊢; exact l b u q
theorem Grow.laidL {p : Addr} {o : HO} (l : Same G H) (hp : H p = none) : Grow G H G (upd H p o) ∧ Same G (upd H p o) :=
 ⟨⟨Same.refl _,fun b u q => by rw [zu (zo q hp)]; exact q,fun _ _ h => h⟩,fun b u q => by rw [zu (zo q (l.free hp))]; exact l b u q⟩
theorem xP {p : Addr} {ds : List D} {vs : List V} {G1 H1 : Hp} (l : Same G1 H1) (hp : H1 p = none) (r : RepL K G1 ds vs) : vx K H1 env σ G1 (upd H1 p (.lst vs)) (.ref p) (.fresh ds) :=
 ⟨p,vs,rfl,hp,zC,l.free hp,r⟩
theorem zhZ {p : Addr} {ds : List D} {vs : List V} {G1 H1 : Hp} (l : Same G1 H1) (hp : H1 p = none) (r : RepL K G1 ds vs) : vx K H1 env σ (upd G1 p (.tup vs)) (upd H1 p (.tup vs)) (.ref p) (.pers (.tup ds)) := by
 have gp := l.free hp
 exact ⟨p,vs,rfl,zC,r.mono fun b u q => by rw [zu (zo q gp)]; exact q⟩
end
section
variable (K : PySem.W.Frag) (G₀ H₀ : Hp)
noncomputable def tE (f : FE) : TE := fun σ H Q => ∃ env G val,DI K G₀ H₀ env σ G H ∧ f env = .ok val ∧
 ∀ v G' H',Grow G H G' H' → Same G' H' → vx K H env σ G' H' v val → Q v H'
noncomputable def tT (f : FT) : TT := fun σ H Q => ∃ env G b,DI K G₀ H₀ env σ G H ∧ f env = .ok b ∧ ∀ G' H',Grow G H G' H' → Same G' H' → Q b H'
noncomputable def zdx (env : Ev) (σ : St) (G : Hp) (v : V) : Val → Prop
 | .pers d => Rep K G d v
 | .fresh _ => False
 | .brw i ds => ∃ a,v = .ref a ∧ env[i]? = some (.own ds) ∧ σ[i]? = some (some (.ref a))
noncomputable def zab (env : Ev) (σ : St) (G : Hp) : List V → List Val → Prop
 | [],vals => vals = []
 | v :: vs,vals => ∃ x r,vals = x :: r ∧ zdx K env σ G v x ∧ zab env σ G vs r
noncomputable def tA (f : Ev → Out (List Val)) : TA := fun σ H Q => ∃ env G vals,DI K G₀ H₀ env σ G H ∧ f env = .ok vals ∧
 ∀ vs G' H',Grow G H G' H' → Same G' H' → zab K env σ G' vs vals → Q vs H'
noncomputable def tH (f : Ev → Out (List D)) : TA := fun σ H Q => ∃ env G ds,DI K G₀ H₀ env σ G H ∧ f env = .ok ds ∧
 ∀ vs G' H',Grow G H G' H' → Same G' H' → RepL K G' ds vs → Q vs H'
noncomputable def zhX (G : Hp) (D : Ends) : Res → Prop
 | .next env' => ∀ σ' G' H',Same G G' → DI K G₀ H₀ env' σ' G' H' → D.nx σ' H'
 | .ret val => ∀ v G' H',Grow G₀ H₀ G' H' → Same G' H' → vx K H₀ [] [] G' H' v val → D.rt v H'
noncomputable def tS (f : FS) : TS := fun D σ H => ∃ env G r,DI K G₀ H₀ env σ G H ∧ f env = .ok r ∧ zhX K G₀ H₀ G D r
end
noncomputable def DE (X : Cx) (G₀ H₀ : Hp) (e : Expr) (f : FE) : Prop := PE X e (tE X.K G₀ H₀ f)
noncomputable def DT (X : Cx) (G₀ H₀ : Hp) (e : Expr) (f : FT) : Prop := PT X e (tT X.K G₀ H₀ f)
noncomputable def DW (X : Cx) (G₀ H₀ : Hp) (e : Expr) (f : FT) : Prop := PW X e (tT X.K G₀ H₀ f)
noncomputable def DA (X : Cx) (G₀ H₀ : Hp) (es : List Expr) (f : Ev → Out (List Val)) : Prop := PA X es (tA X.K G₀ H₀ f)
noncomputable def DH (X : Cx) (G₀ H₀ : Hp) (es : List Expr) (f : Ev → Out (List D)) : Prop := PA X es (tH X.K G₀ H₀ f)
noncomputable def DS (X : Cx) (G₀ H₀ : Hp) (st : Stmt) (f : FS) : Prop := PS X st (tS X.K G₀ H₀ f)
noncomputable def DSs (X : Cx) (G₀ H₀ : Hp) (st : List Stmt) (f : FS) : Prop := PSs X st (tS X.K G₀ H₀ f)
theorem _root_.L2.PE.imp {X : Cx} {e : Expr} {t t' : TE} (h : PE X e t) (i : ∀ σ H Q,t' σ H Q → t σ H Q) : PE X e t' := fun pins s σ H Q I q => h pins s σ H Q I (i σ H Q q)
theorem _root_.L2.PT.imp {X : Cx} {e : Expr} {t t' : TT} (h : PT X e t) (i : ∀ σ H Q,t' σ H Q → t σ H Q) : PT X e t' := fun pins s σ H Q I q => h pins s σ H Q I (i σ H Q q)
theorem _root_.L2.PW.imp {X : Cx} {e : Expr} {t t' : TT} (h : PW X e t) (i : ∀ σ H Q,t' σ H Q → t σ H Q) : PW X e t' := fun wh pins s σ H Q I q => h wh pins s σ H Q I (i σ H Q q)
theorem _root_.L2.PA.imp {X : Cx} {e : List Expr} {t t' : TA} (h : PA X e t) (i : ∀ σ H Q,t' σ H Q → t σ H Q) : PA X e t' := fun pos pins s σ H Q I q => h pos pins s σ H Q I (i σ H Q q)
theorem _root_.L2.PS.imp {X : Cx} {e : Stmt} {t t' : TS} (h : PS X e t) (i : ∀ D σ H,t' D σ H → t D σ H) : PS X e t' := fun pins s σ H D I q => h pins s σ H D I (i D σ H q)
theorem _root_.L2.PSs.imp {X : Cx} {e : List Stmt} {t t' : TS} (h : PSs X e t) (i : ∀ D σ H,t' D σ H → t D σ H) : PSs X e t' := fun pins s σ H D I q => h pins s σ H D I (i D σ H q)
section
variable {K : PySem.W.Frag} {G₀ H₀ G H : Hp} {env : Ev} {σ : St}
theorem xn {f : FE} {x : Val} {P : V → Hp → Prop} (I : DI K G₀ H₀ env σ G H) (e : f env = .ok x)
 (k : ∀ v G' H',Grow G H G' H' → Same G' H' → DI K G₀ H₀ env σ G' H' → Opd K env σ G' v x.d → P v H') : tE K G₀ H₀ f σ H P :=
 ⟨env,G,x,I,e,fun v G' H' g l h => by
  obtain ⟨G2,g2,l2,o⟩ := opd g l h
  exact k v G2 H' g2 l2 (I.grow g2 l2) o⟩
theorem zfe {f g : FE} {x y : Val} {P : V → V → Hp → Prop} (I : DI K G₀ H₀ env σ G H) (e : f env = .ok x) (e' : g env = .ok y)
 (k : ∀ v u G' H',Grow G H G' H' → Same G' H' → DI K G₀ H₀ env σ G' H' → Opd K env σ G' v x.d → Opd K env σ G' u y.d → P v u H') :
 tE K G₀ H₀ f σ H fun v H1 => tE K G₀ H₀ g σ H1 fun u H2 => P v u H2 :=
 xn I e fun v G1 H1 g1 l1 I1 o1 => xn I1 e' fun u G2 H2 g2 l2 I2 o2 => k v u G2 H2 (g1.trans g2) l2 I2 (o1.mono g2.g) o2
end
@[simp] noncomputable def fVar (i : Nat) : FE := fun env => match env[i]? with
  | some (.pers d) => .ok (.pers d)
  | some (.own ds) => .ok (.brw i ds)
  | _ => .bad
@[simp] noncomputable def fC (d : D) : FE := fun _ => .ok (.pers d)
section
variable {X : Cx} {G₀ H₀ : Hp} {pos : Pos}
theorem zc {i : Nat} {x : Str} (h : PE X (.Name x pos) (tVar i)) : DE X G₀ H₀ (.Name x pos) (fVar i) := h.imp fun σ H Q q => by
 obtain ⟨env,G,val,I,e,k⟩ := q
 unfold fVar at e
 cases q : env[i]? with
 | none => rw [q] at e; cases e
 | some s =>
   rw [q] at e
   cases s with
   | un => cases e
   | pers d =>
     cases e
     obtain ⟨v,h1,h2⟩ := I.pers q
     exact ⟨v,h1,k v G H (Grow.refl _ _) I.le h2⟩
   | own ds =>
     cases e
     obtain ⟨a,vs,o⟩ := I.own q
     exact ⟨.ref a,o.at_,k _ G H (Grow.refl _ _) I.le ⟨a,rfl,q,o.at_⟩⟩
theorem de_c {e : Expr} {v : V} {d : D} (h : PE X e (tC v)) (r : ∀ G,Rep X.K G d v) : DE X G₀ H₀ e (fC d) := h.imp fun σ H Q q => by
 obtain ⟨env,G,val,I,e,k⟩ := q
 cases e
 exact k v G H (Grow.refl _ _) I.le (r G)
theorem zg {i j} : DE X G₀ H₀ (.Constant (.int i) j pos) (fC (.int i)) := de_c zj0 fun _ => rfl
theorem zcd {b j} : DE X G₀ H₀ (.Constant (.bool b) j pos) (fC (.bl b)) := de_c pe_bl fun _ => rfl
theorem zgk {j} : DE X G₀ H₀ (.Constant .none j pos) (fC .non) := de_c zjZ fun _ => rfl
end
@[simp] noncomputable def f2 (g : D → D → Out Val) (fa fb : FE) : FE := fun env => (fa env).bind fun x => (fb env).bind fun y => g x.d y.d
@[simp] noncomputable def f1 (g : D → Out Val) (fa : FE) : FE := fun env => (fa env).bind fun x => g x.d
noncomputable def OpD (K : PySem.W.Frag) (r : R2) (g : D → D → Out Val) : Prop :=
 ∀ (G₀ H₀ : Hp) (env : Ev) (σ : St) (G H : Hp) (v u : V) (d1 d2 : D) (val : Val) (Q : VK),DI K G₀ H₀ env σ G H → Opd K env σ G v d1 → Opd K env σ G u d2 → g d1 d2 = .ok val →
   (∀ w G' H',Grow G H G' H' → Same G' H' → vx K H env σ G' H' w val → Q w H') → r v u H Q
noncomputable def UnD (K : PySem.W.Frag) (r : V → Hp → VK → Prop) (g : D → Out Val) : Prop :=
 ∀ (G₀ H₀ : Hp) (env : Ev) (σ : St) (G H : Hp) (v : V) (d1 : D) (val : Val) (Q : VK),DI K G₀ H₀ env σ G H → Opd K env σ G v d1 → g d1 = .ok val →
   (∀ w G' H',Grow G H G' H' → Same G' H' → vx K H env σ G' H' w val → Q w H') → r v H Q
section
variable {X : Cx} {G₀ H₀ : Hp} {pos : Pos} {a b : Expr} {fa fb : FE}
theorem imp2 {r : R2} {g : D → D → Out Val} (hd : OpD X.K r g) (σ : St) (H : Hp) (Q : VK) (q : tE X.K G₀ H₀ (f2 g fa fb) σ H Q) : tOp r (tE X.K G₀ H₀ fa) (tE X.K G₀ H₀ fb) σ H Q := by
 obtain ⟨env,G,val,I,e,k⟩ := q
 obtain ⟨x,e1,e⟩ := zk e
 obtain ⟨y,e2,e⟩ := zk e
 exact zfe I e1 e2 fun v u G' H' g1 l1 I1 o1 o2 => hd G₀ H₀ env σ G' H' v u _ _ val Q I1 o1 o2 e fun w G2 H2 g2 l2 h2 => k w G2 H2 (g1.trans g2) l2 (h2.base g1.h)
theorem imp1 {r : V → Hp → VK → Prop} {g : D → Out Val} (hd : UnD X.K r g) (σ : St) (H : Hp) (Q : VK) (q : tE X.K G₀ H₀ (f1 g fa) σ H Q) : tUn r (tE X.K G₀ H₀ fa) σ H Q := by
 obtain ⟨env,G,val,I,e,k⟩ := q
 obtain ⟨x,e1,e⟩ := zk e
 exact xn I e1 fun v G' H' g1 l1 I1 o1 => hd G₀ H₀ env σ G' H' v _ val Q I1 o1 e fun w G2 H2 g2 l2 h2 => k w G2 H2 (g1.trans g2) l2 (h2.base g1.h)
theorem zeW {op : Operator} {r : R2} {g : D → D → Out Val} (ho : OpR X (binaryOp op) r) (hd : OpD X.K r g) (ha : DE X G₀ H₀ a fa) (hb : DE X G₀ H₀ b fb) : DE X G₀ H₀ (.BinOp a op b pos) (f2 g fa fb) :=
 (pe_op ho ha hb).imp (imp2 hd)
theorem de_un {op : UnaryOp} {r : V → Hp → VK → Prop} {g : D → Out Val} (ho : UnR X (unaryOp op) r) (hd : UnD X.K r g) (ha : DE X G₀ H₀ a fa) : DE X G₀ H₀ (.UnaryOp op a pos) (f1 g fa) :=
 (pe_un ho ha).imp (imp1 hd)
theorem zgm {op : CmpOp} {r : R2} {g : D → D → Out Val} (ho : OpR X (compareOp op) r) (hd : OpD X.K r g) (ha : DE X G₀ H₀ a fa) (hb : DE X G₀ H₀ b fb) (hm : behindInMarks op b = false) : DE X G₀ H₀ (.Compare a [op] [b] pos) (f2 g fa fb) :=
 (ziT ho ha hb hm).imp (imp2 hd)
theorem de_ix {r : R2} {g : D → D → Out Val} (hr : IxR X r) (hd : OpD X.K r g) (ha : DE X G₀ H₀ a fa) (hb : DE X G₀ H₀ b fb) (hs : zdr b) : DE X G₀ H₀ (.Subscript a b pos) (f2 g fa fb) :=
 (pe_ix hr ha hb hs).imp (imp2 hd)
end
@[simp] noncomputable def gI (C : Int → Int → Bool) (g : Int → Int → Int) : D → D → Out Val
  | .int i,.int j => if C i j then .ok (.pers (.int (g i j))) else .bad
  | _,_ => .bad
@[simp] noncomputable def gIB (g : Int → Int → Bool) : D → D → Out Val
  | .int i,.int j => .ok (.pers (.bl (g i j)))
  | _,_ => .bad
section
variable {K : PySem.W.Frag}
theorem zdR {C : Int → Int → Bool} {C' : Int → Int → Prop} {g : Int → Int → Int} (hC : ∀ i j,C i j = true → C' i j) : OpD K (rI C' fun i j => .int (g i j)) (gI C g) := by
 intro G₀ H₀ env σ G H v u d1 d2 val Q I o1 o2 e k
 unfold gI at e
 split at e
 ·rename_i i j
  split at e
  ·rename_i hc
   cases e
   exact ⟨i,j,o1.int,o2.int,hC i j hc,k _ G H (Grow.refl _ _) I.le rfl⟩
  ·cases e
 ·cases e
theorem zi0 {g : Int → Int → Int} : OpD K (rI0 fun i j => .int (g i j)) (gI (fun _ _ => true) g) := by
 intro G₀ H₀ env σ G H v u d1 d2 val Q I o1 o2 e k
 unfold gI at e
 split at e
 ·rename_i i j
  rw [if_pos rfl] at e
  cases e
  exact ⟨i,j,o1.int,o2.int,k _ G H (Grow.refl _ _) I.le rfl⟩
 ·cases e
theorem u4 {g : Int → Int → Bool} : OpD K (rI0 fun i j => .bl (g i j)) (gIB g) := by
 intro G₀ H₀ env σ G H v u d1 d2 val Q I o1 o2 e k
 unfold gIB at e
 split at e
 ·rename_i i j
  cases e
  exact ⟨i,j,o1.int,o2.int,k _ G H (Grow.refl _ _) I.le rfl⟩
 ·cases e
end
noncomputable def uU (i : Int) : Bool := decide (-(2 ^ 64) < i) && decide (i < 2 ^ 64)
noncomputable def cMul (i j : Int) : Bool := uU i || uU j
noncomputable def cPow (i j : Int) : Bool := decide (0 ≤ j) && decide (j ≤ 1000000) && decide (i.natAbs < 2 ^ 64)
@[simp] noncomputable def gSub := gI (fun _ _ => true) (· - ·)
@[simp] noncomputable def gMul := gI cMul (· * ·)
@[simp] noncomputable def gMod := gI (fun _ j => decide (0 < j)) (· % ·)
@[simp] noncomputable def gPow := gI cPow (fun i j => i ^ j.toNat)
@[simp] noncomputable def gLt := gIB fun i j => decide (i < j)
@[simp] noncomputable def gGt := gIB fun i j => decide (j < i)
@[simp] noncomputable def gNeg : D → Out Val
  | .int i => .ok (.pers (.int (-i)))
  | _ => .bad
section
variable {X : Cx} {G₀ H₀ : Hp} {pos : Pos} {a b : Expr} {fa fb : FE}
theorem yw (ha : DE X G₀ H₀ a fa) (hb : DE X G₀ H₀ b fb) : DE X G₀ H₀ (.BinOp a .Sub b pos) (f2 gSub fa fb) := zeW zj4 zi0 ha hb
theorem xb (ha : DE X G₀ H₀ a fa) (hb : DE X G₀ H₀ b fb) : DE X G₀ H₀ (.BinOp a .Mult b pos) (f2 gMul fa fb) :=
 zeW zj6 (zdR fun i j h => by
  simp only [cMul,uU,Bool.or_eq_true,Bool.and_eq_true,decide_eq_true_eq] at h
  exact h) ha hb
theorem zT (ha : DE X G₀ H₀ a fa) (hb : DE X G₀ H₀ b fb) : DE X G₀ H₀ (.BinOp a .Mod b pos) (f2 gMod fa fb) := zeW zj7 (zdR fun i j h => of_decide_eq_true h) ha hb
theorem zaA (ha : DE X G₀ H₀ a fa) (hb : DE X G₀ H₀ b fb) : DE X G₀ H₀ (.BinOp a .Pow b pos) (f2 gPow fa fb) :=
 zeW zj5 (zdR fun i j h => by
  simp only [cPow,Bool.and_eq_true,decide_eq_true_eq] at h
  exact ⟨h.1.1,h.1.2,h.2⟩) ha hb
theorem de_gt (ha : DE X G₀ H₀ a fa) (hb : DE X G₀ H₀ b fb) : DE X G₀ H₀ (.Compare a [.Gt] [b] pos) (f2 gGt fa fb) := zgm zka u4 ha hb (uu _)
theorem xB (ha : DE X G₀ H₀ a fa) : DE X G₀ H₀ (.UnaryOp .USub a pos) (f1 gNeg fa) := de_un zjG (by
 intro G₀ H₀ env σ G H v d1 val Q I o1 e k
 unfold gNeg at e
 split at e
 ·rename_i i
  cases e
  exact ⟨i,o1.int,k _ G H (Grow.refl _ _) I.le rfl⟩
 ·cases e) ha
end
end DL
namespace DL
open PySem PySem.Spec PyProof.Rows L2
noncomputable def cDiv (_ j : Int) : Bool := decide (0 < j) && decide (j < 2 ^ 250)
theorem zhr {X : Cx} : OpR X (binaryOp .FloorDiv) (rI (fun _ j => 0 < j ∧ j < 2 ^ 250) fun i j => .int (i / j)) := opI fun i j t u s Q E hc q => by
 have hne : j ≠ 0 := by lia
 refine floordiv_int hne ?_ (.inl (PyProof.noPylong_of_log2 ?_))
 ·rw [Int.fdiv_eq_ediv_of_nonneg _ (by lia)]
  exact q
 ·have h1 : j.natAbs < 2 ^ 9000 := Nat.lt_of_lt_of_le (m := 2 ^ 250) (by have := hc.2; lia) (Nat.pow_le_pow_right (by decide) (by decide))
  exact (Nat.log2_lt (by lia)).mpr h1
@[simp] noncomputable def gDiv := gI cDiv (· / ·)
theorem wd {X : Cx} {G₀ H₀ : Hp} {pos : Pos} {a b : Expr} {fa fb : FE} (ha : DE X G₀ H₀ a fa) (hb : DE X G₀ H₀ b fb) : DE X G₀ H₀ (.BinOp a .FloorDiv b pos) (f2 gDiv fa fb) :=
 zeW zhr (zdR fun i j h => by
  simp only [cDiv,Bool.and_eq_true,decide_eq_true_eq] at h
  exact h) ha hb
mutual
noncomputable def toPy : D → PyData
 | .non => .none
 | .bl b => .bool b
 | .int i => .int i
 | .tup ds => .tuple (xm ds)
 | .lst ds => .list (xm ds)
 | .scr ns => .list (ns.map .int)
 | .exc _ _ => .none
noncomputable def xm : List D → List PyData
 | [] => []
 | d :: ds => toPy d :: xm ds
end
noncomputable def eqD (x y : D) : Bool := PyData.eqv (toPy x) (toPy y)
noncomputable def eqDL (xs ys : List D) : Bool := PyData.eqvAll (xm xs) (xm ys)
noncomputable def shal : Nat → D → Bool
 | 0,.tup _ => false
 | 0,.lst _ => false
 | 0,_ => true
 | n + 1,.tup ds => ds.all (shal n)
 | n + 1,.lst ds => ds.all (shal n)
 | _ + 1,_ => true
theorem zdZ : ∀ ns : List Int,PyData.canLayAll0 (ns.map .int) = true
 | [] => by simp [PyData.canLayAll0]
 | n :: ns => by simp only [List.map_cons,PyData.canLayAll0,PyData.canLay0,zdZ ns,Bool.and_self]
mutual
theorem u9 : ∀ d : D,(toPy d).canLay0 = true
 | .non => by simp only [toPy,PyData.canLay0]
 | .bl _ => by simp only [toPy,PyData.canLay0]
 | .int _ => by simp only [toPy,PyData.canLay0]
 | .tup ds => by simp only [toPy,PyData.canLay0,tf ds]
 | .lst ds => by simp only [toPy,PyData.canLay0,tf ds]
 | .scr ns => by simp only [toPy,PyData.canLay0,zdZ ns]
 | .exc _ _ => by simp only [toPy,PyData.canLay0]
theorem tf : ∀ ds : List D,PyData.canLayAll0 (xm ds) = true
 | [] => by simp only [xm,PyData.canLayAll0]
 | d :: ds => by simp only [xm,PyData.canLayAll0,u9 d,tf ds,Bool.and_self]
end
theorem zaz : ∀ ns : List Int,PyData.depthAll (ns.map .int) = 0
 | [] => by simp [PyData.depthAll]
 | n :: ns => by simp [PyData.depthAll,PyData.depth,zaz ns]
theorem tM {n : Nat} : ∀ ds : List D,(∀ d ∈ ds,(toPy d).depth ≤ n) → PyData.depthAll (xm ds) ≤ n
 | [],_ => by simp [xm,PyData.depthAll]
 | d :: ds,h => by
   simp only [xm,PyData.depthAll]
   exact Nat.max_le.mpr ⟨h d (by simp),tM ds fun x hx => h x (by simp [hx])⟩
theorem wS : ∀ (n : Nat) (d : D),shal n d = true → (toPy d).depth ≤ n + 1
 | n,.non,_ => by simp [toPy,PyData.depth]
 | n,.bl _,_ => by simp [toPy,PyData.depth]
 | n,.int _,_ => by simp [toPy,PyData.depth]
 | n,.scr ns,_ => by simp [toPy,PyData.depth,zaz ns]
 | n,.exc _ _,_ => by simp [toPy,PyData.depth]
 | 0,.tup ds,h => by simp [shal] at h
 | 0,.lst ds,h => by simp [shal] at h
 | n + 1,.tup ds,h => by
   simp only [toPy,PyData.depth]
   have := tM (n := n + 1) ds fun d hd => wS n d (List.all_eq_true.mp (by simpa [shal] using h) d hd)
   lia
 | n + 1,.lst ds,h => by
   simp only [toPy,PyData.depth]
   have := tM (n := n + 1) ds fun d hd => wS n d (List.all_eq_true.mp (by simpa [shal] using h) d hd)
   lia
section
variable {X : Cx} {pins : List (Addr × Obj)} {σ : St} {G H : Hp} {s : Shared}
theorem zaq {h : Heap} : ∀ {ns : List Int} {us : List Value},Vals (ns.map V.int) us → ∃ as,ReadsAll h us (ns.map .int) as
 | [],us,r => by cases r; exact ⟨[],.nil⟩
 | n :: ns,us,r => by
   cases r with
   | cons r1 r2 =>
     obtain ⟨t,rfl⟩ := r1
     obtain ⟨as,q⟩ := zaq r2
     exact ⟨_,.cons (.int n t) q⟩
mutual
theorem zdP (I : Inv X pins σ H s) (l : Same G H) : ∀ {d : D} {v : V} {u : Value},Rep X.K G d v → RelV v u → ∃ as,Reads s.heap u (toPy d) as
 | .non,v,u,h,r => by cases (show v = .non from h); cases (show u = .none from r); exact ⟨[],by simp only [toPy]; exact .none⟩
 | .bl b,v,u,h,r => by cases (show v = .bl b from h); cases (show u = .bool b from r); exact ⟨[],by simp only [toPy]; exact .bool b⟩
 | .int i,v,u,h,r => by
   cases (show v = .int i from h)
   obtain ⟨t,rfl⟩ := (show ∃ t,u = .int i t from r)
   exact ⟨[],by simp only [toPy]; exact .int i t⟩
 | .tup ds,v,u,h,r => by
   obtain ⟨a,vs,rfl,g,q⟩ := h
   cases (show u = .ref a from r)
   obtain ⟨_,its,rv,ob,e,c,n,dd⟩ := I.hok a _ (l _ _ g)
   obtain ⟨as,z⟩ := vI I l q rv
   exact ⟨as,by simp only [toPy]; exact .tuple e c dd (by simpa using z)⟩
 | .lst ds,v,u,h,r => by
   obtain ⟨a,vs,rfl,g,q⟩ := h
   cases (show u = .ref a from r)
   obtain ⟨_,its,n,rv,e⟩ := I.hok a _ (l _ _ g)
   obtain ⟨as,z⟩ := vI I l q rv
   exact ⟨a :: as,by simp only [toPy]; exact .list e rfl rfl (by simpa using z)⟩
 | .scr ns,v,u,h,r => by
   obtain ⟨a,rfl,q⟩ := h
   cases (show u = .ref a from r)
   obtain ⟨its,rv,⟨o,n,e,c,_,dd⟩,_⟩ := I.list (l.seq q)
   obtain ⟨as,z⟩ := zaq (h := s.heap) rv
   exact ⟨a :: as,by simp only [toPy]; exact .list e c dd (by simpa using z)⟩
 | .exc _ _,_,_,h,_ => h.elim
theorem vI (I : Inv X pins σ H s) (l : Same G H) : ∀ {ds : List D} {vs : List V} {us : List Value},RepL X.K G ds vs → Vals vs us → ∃ as,ReadsAll s.heap us (xm ds) as
 | [],vs,us,h,r => by
   cases (show vs = [] from h)
   cases r
   exact ⟨[],by simp only [xm]; exact .nil⟩
 | d :: ds,vs,us,h,r => by
   obtain ⟨v,vr,rfl,h1,h2⟩ := h
   cases r with
   | cons r1 r2 =>
     obtain ⟨as,q1⟩ := zdP I l h1 r1
     obtain ⟨bs,q2⟩ := vI I l h2 r2
     exact ⟨as ++ bs,by simp only [xm]; exact .cons q1 q2⟩
end
end
noncomputable def RdV (K : PySem.W.Frag) (H : Hp) (v : V) (d : D) : Prop := (∃ G,Same G H ∧ Rep K G d v) ∨ ∃ a vs G ds,d = .lst ds ∧ v = .ref a ∧ H a = some (.lst vs) ∧ Same G H ∧ RepL K G ds vs
theorem Opd.rdv {K : PySem.W.Frag} {G₀ H₀ G H : Hp} {env : Ev} {σ : St} {v : V} {d : D} (I : DI K G₀ H₀ env σ G H) (h : Opd K env σ G v d) : RdV K H v d := by
 rcases h with h | ⟨i,ds,a,e1,e2,e3,e4⟩
 ·exact .inl ⟨G,I.le,h⟩
 ·subst e1
  obtain ⟨a',vs,e,h1,h2⟩ := Opd.lst I (.inr ⟨i,ds,a,rfl,e2,e3,e4⟩)
  exact .inr ⟨a',vs,G,ds,rfl,e,h1,I.le,h2⟩
theorem yY {X : Cx} {pins : List (Addr × Obj)} {σ : St} {H : Hp} {s : Shared} {v : V} {u : Value} {d : D} (I : Inv X pins σ H s) (h : RdV X.K H v d) (r : RelV v u) : ∃ as,Reads s.heap u (toPy d) as := by
 rcases h with ⟨G,l,h⟩ | ⟨a,vs,G,ds,rfl,rfl,g,l,q⟩
 ·exact zdP I l h r
 ·cases (show u = .ref a from r)
  obtain ⟨_,its,n,rv,e⟩ := I.hok a _ g
  obtain ⟨as,z⟩ := vI I l q rv
  exact ⟨a :: as,by simp only [toPy]; exact .list e rfl rfl (by simpa using z)⟩
noncomputable def rEqD (K : PySem.W.Frag) (neg : Bool) : R2 := fun x y H Q => ∃ d1 d2,RdV K H x d1 ∧ RdV K H y d2 ∧ (shal 4 d1 || shal 4 d2) = true ∧ Q (.bl (if neg then !eqD d1 d2 else eqD d1 d2)) H
theorem zfr {u : Nat} {d1 d2 : D} (hu : u + 20 < cLine) (hs : (shal 4 d1 || shal 4 d2) = true) : u + min (toPy d1).depth (toPy d2).depth < cLine := by
 rw [Bool.or_eq_true] at hs
 rcases hs with h | h
 ·have := wS 4 d1 h
  have := Nat.min_le_left (toPy d1).depth (toPy d2).depth
  lia
 ·have := wS 4 d2 h
  have := Nat.min_le_right (toPy d1).depth (toPy d2).depth
  lia
theorem zih {X : Cx} (hu : X.A.units + 20 < cLine) : OpR X (compareOp .Eq) (rEqD X.K false) := by
 intro pins s σ H x y v u Q I rx ry h
 obtain ⟨d1,d2,h1,h2,hs,q⟩ := h
 obtain ⟨as,ra⟩ := yY I h1 rx
 obtain ⟨bs,rb⟩ := yY I h2 ry
 exact SeqAt.compareEq_reads ra rb (u9 d1) (u9 d2) (zfr hu hs) ⟨.bl _,H,I,rfl,q⟩
theorem zig {X : Cx} (hu : X.A.units + 20 < cLine) : OpR X (compareOp .NotEq) (rEqD X.K true) := by
 intro pins s σ H x y v u Q I rx ry h
 obtain ⟨d1,d2,h1,h2,hs,q⟩ := h
 obtain ⟨as,ra⟩ := yY I h1 rx
 obtain ⟨bs,rb⟩ := yY I h2 ry
 exact SeqAt.compareNe_reads ra rb (u9 d1) (u9 d2) (zfr hu hs) ⟨.bl _,H,I,rfl,q⟩
@[simp] noncomputable def gEq : D → D → Out Val := fun x y => if (shal 4 x || shal 4 y) = true then .ok (.pers (.bl (eqD x y))) else .bad
@[simp] noncomputable def gNe : D → D → Out Val := fun x y => if (shal 4 x || shal 4 y) = true then .ok (.pers (.bl (!eqD x y))) else .bad
theorem zkh {K : PySem.W.Frag} : OpD K (rEqD K false) gEq := by
 intro G₀ H₀ env σ G H v u d1 d2 val Q I o1 o2 e k
 unfold gEq at e
 split at e
 ·rename_i hs
  cases e
  exact ⟨d1,d2,o1.rdv I,o2.rdv I,hs,k _ G H (Grow.refl _ _) I.le rfl⟩
 ·cases e
theorem zkf {K : PySem.W.Frag} : OpD K (rEqD K true) gNe := by
 intro G₀ H₀ env σ G H v u d1 d2 val Q I o1 o2 e k
 unfold gNe at e
 split at e
 ·rename_i hs
  cases e
  exact ⟨d1,d2,o1.rdv I,o2.rdv I,hs,k _ G H (Grow.refl _ _) I.le rfl⟩
 ·cases e
noncomputable def rInD (K : PySem.W.Frag) (neg : Bool) : R2 := fun x y H Q => ∃ d ds,RdV K H x d ∧ RdV K H y (.lst ds) ∧ shal 4 d = true ∧ Q (.bl (if neg then !ds.any (fun z => eqD z d) else ds.any (fun z => eqD z d))) H
theorem t7 (d : D) : ∀ ds : List D,(xm ds).any (fun y => PyData.eqv y (toPy d)) = ds.any (fun z => eqD z d)
 | [] => by simp [xm]
 | x :: ds => by simp only [xm,List.any_cons,t7 d ds]; rfl
theorem zj9 {X : Cx} (hu : X.A.units + 20 < cLine) : OpR X (compareOp .In) (rInD X.K false) := by
 intro pins s σ H x y v u Q I rx ry h
 obtain ⟨d,ds,h1,h2,hs,q⟩ := h
 obtain ⟨as,ra⟩ := yY I h1 rx
 obtain ⟨bs,rb⟩ := yY I h2 ry
 simp only [toPy] at rb
 refine SeqAt.in_list_reads rb ra (tf ds) (u9 d) ?_ ⟨.bl _,H,I,rfl,?_⟩
 ·have := wS 4 d hs
  have := Nat.min_le_right (PyData.depthAll (xm ds)) (toPy d).depth
  lia
 ·rw [t7]; exact q
theorem ziW {X : Cx} (hu : X.A.units + 20 < cLine) : OpR X (compareOp .NotIn) (rInD X.K true) := by
 intro pins s σ H x y v u Q I rx ry h
 obtain ⟨d,ds,h1,h2,hs,q⟩ := h
 obtain ⟨as,ra⟩ := yY I h1 rx
 obtain ⟨bs,rb⟩ := yY I h2 ry
 simp only [toPy] at rb
 refine SeqAt.notIn_list_reads rb ra (tf ds) (u9 d) ?_ ⟨.bl _,H,I,rfl,?_⟩
 ·have := wS 4 d hs
  have := Nat.min_le_right (PyData.depthAll (xm ds)) (toPy d).depth
  lia
 ·rw [t7]; exact q
@[simp] noncomputable def gIn : D → D → Out Val
  | x,.lst ds => if shal 4 x = true then .ok (.pers (.bl (ds.any fun z => eqD z x))) else .bad
  | _,_ => .bad
@[simp] noncomputable def gNin : D → D → Out Val
  | x,.lst ds => if shal 4 x = true then .ok (.pers (.bl (!ds.any fun z => eqD z x))) else .bad
  | _,_ => .bad
theorem od_in {K : PySem.W.Frag} : OpD K (rInD K false) gIn := by
 intro G₀ H₀ env σ G H v u d1 d2 val Q I o1 o2 e k
 unfold gIn at e
 split at e
 ·split at e
  ·rename_i hs
   cases e
   exact ⟨_,_,o1.rdv I,o2.rdv I,hs,k _ G H (Grow.refl _ _) I.le rfl⟩
  ·cases e
 ·cases e
theorem zke {K : PySem.W.Frag} : OpD K (rInD K true) gNin := by
 intro G₀ H₀ env σ G H v u d1 d2 val Q I o1 o2 e k
 unfold gNin at e
 split at e
 ·split at e
  ·rename_i hs
   cases e
   exact ⟨_,_,o1.rdv I,o2.rdv I,hs,k _ G H (Grow.refl _ _) I.le rfl⟩
  ·cases e
 ·cases e
@[simp] noncomputable def gIsN : D → D → Out Val
  | .non,.non => .ok (.pers (.bl true))
  | .int _,.non => .ok (.pers (.bl false))
  | .bl _,.non => .ok (.pers (.bl false))
  | .tup _,.non => .ok (.pers (.bl false))
  | .lst _,.non => .ok (.pers (.bl false))
  | _,_ => .bad
theorem zkg {K : PySem.W.Frag} : OpD K (fun x y H Q => y = .non ∧ Q (.bl (decide (x = .non))) H) gIsN := by
 intro G₀ H₀ env σ G H v u d1 d2 val Q I o1 o2 e k
 unfold gIsN at e
 split at e
 ·cases e; refine ⟨o2.non,?_⟩; rw [o1.non]; exact k _ G H (Grow.refl _ _) I.le rfl
 ·cases e; refine ⟨o2.non,?_⟩; rw [o1.int]; exact k _ G H (Grow.refl _ _) I.le rfl
 ·cases e; refine ⟨o2.non,?_⟩; rw [o1.bl]; exact k _ G H (Grow.refl _ _) I.le rfl
 ·cases e; refine ⟨o2.non,?_⟩; obtain ⟨a,_,rfl,_⟩ := Opd.tup I o1; exact k _ G H (Grow.refl _ _) I.le rfl
 ·cases e; refine ⟨o2.non,?_⟩; obtain ⟨a,_,rfl,_⟩ := Opd.lst I o1; exact k _ G H (Grow.refl _ _) I.le rfl
 ·cases e
section
variable {X : Cx} {G₀ H₀ : Hp} {pos : Pos} {a b : Expr} {fa fb : FE}
theorem zgl (hu : X.A.units + 20 < cLine) (ha : DE X G₀ H₀ a fa) (hb : DE X G₀ H₀ b fb) : DE X G₀ H₀ (.Compare a [.Eq] [b] pos) (f2 gEq fa fb) := zgm (zih hu) zkh ha hb (uu _)
theorem de_ne (hu : X.A.units + 20 < cLine) (ha : DE X G₀ H₀ a fa) (hb : DE X G₀ H₀ b fb) : DE X G₀ H₀ (.Compare a [.NotEq] [b] pos) (f2 gNe fa fb) := zgm (zig hu) zkf ha hb (uu _)
end
@[simp] noncomputable def gAdd : D → D → Out Val
  | .int i,.int j => .ok (.pers (.int (i + j)))
  | .lst xs,.lst ys => if xs.length + ys.length ≤ 100000 then .ok (.fresh (xs ++ ys)) else .bad
  | _,_ => .bad
theorem za3 {n : Nat} (h : n ≤ 100000) : n ≤ sizeLine := by rw [sizeLine_eq]; lia
theorem zki {K : PySem.W.Frag} : OpD K (fun x y H Q => rI0 (fun i j => .int (i + j)) x y H Q ∨ rCat x y H Q) gAdd := by
 intro G₀ H₀ env σ G H v u d1 d2 val Q I o1 o2 e k
 unfold gAdd at e
 split at e
 ·rename_i i j
  cases e
  exact .inl ⟨i,j,o1.int,o2.int,k _ G H (Grow.refl _ _) I.le rfl⟩
 ·rename_i xs ys
  split at e
  ·rename_i hz
   cases e
   obtain ⟨a,vs,e1,h1,r1⟩ := Opd.lst I o1
   obtain ⟨b,us,e2,h2,r2⟩ := Opd.lst I o2
   refine .inr ⟨a,b,vs,us,e1,e2,h1,h2,za3 (by rw [← r1.length,← r2.length]; exact hz),fun p hp => ?_⟩
   have g := Grow.laidL (o := .lst (vs ++ us)) I.le hp
   exact k _ G _ g.1 g.2 (xP I.le hp (r1.append r2))
  ·cases e
 ·cases e
theorem yk {X : Cx} {G₀ H₀ : Hp} {pos : Pos} {a b : Expr} {fa fb : FE} (ha : DE X G₀ H₀ a fa) (hb : DE X G₀ H₀ b fb) : DE X G₀ H₀ (.BinOp a .Add b pos) (f2 gAdd fa fb) := zeW (zkc.or zkb) zki ha hb
@[simp] noncomputable def gIx : D → D → Out Val
  | .tup ds,.int i => match atI ds i with | some d => .ok (.pers d) | none => .bad
  | .lst ds,.int i => match atI ds i with | some d => .ok (.pers d) | none => .bad
  | .scr ns,.int i => match atI ns i with | some n => .ok (.pers (.int n)) | none => .bad
  | _,_ => .bad
theorem zgG {K : PySem.W.Frag} {G : Hp} {ds : List D} {vs : List V} {i : Int} {d : D} (r : RepL K G ds vs) (h : atI ds i = some d) : ∃ v,atI vs i = some v ∧ Rep K G d v := by
 unfold atI at h ⊢
 rw [← r.length]
 cases q : ixN ds.length i with
 | none => rw [q] at h; cases h
 | some j =>
   rw [q] at h
   obtain ⟨v,h1,h2⟩ := r.get (i := j) (d := d) h
   exact ⟨v,h1,h2⟩
theorem zjz {α β : Type} (f : α → β) (xs : List α) (i : Int) : atI (xs.map f) i = (atI xs i).map f := by
 unfold atI
 rw [List.length_map]
 cases ixN xs.length i with
 | none => rfl
 | some j => simp
theorem od_ix {K : PySem.W.Frag} : OpD K (fun x y H Q => rIxL K x y H Q ∨ rIxT K x y H Q ∨ rIxS x y H Q) gIx := by
 intro G₀ H₀ env σ G H v u d1 d2 val Q I o1 o2 e k
 unfold gIx at e
 split at e
 ·rename_i ds i
  split at e
  ·rename_i d hd
   cases e
   obtain ⟨a,vs,e1,h1,r1⟩ := Opd.tup I o1
   obtain ⟨w,hw,rw'⟩ := zgG r1 hd
   exact .inr (.inl ⟨a,vs,i,w,e1,o2.int,SqT.of h1,hw,k w G H (Grow.refl _ _) I.le rw'⟩)
  ·cases e
 ·rename_i ds i
  split at e
  ·rename_i d hd
   cases e
   obtain ⟨a,vs,e1,h1,r1⟩ := Opd.lst I o1
   obtain ⟨w,hw,rw'⟩ := zgG r1 hd
   exact .inl ⟨a,vs,i,w,e1,o2.int,SqL.of h1,hw,k w G H (Grow.refl _ _) I.le rw'⟩
  ·cases e
 ·rename_i ns i
  split at e
  ·rename_i n hn
   cases e
   obtain ⟨a,e1,h1⟩ := Opd.scr I o1
   exact .inl ⟨a,ns.map V.int,i,.int n,e1,o2.int,h1,by rw [zjz,hn]; rfl,k (.int n) G H (Grow.refl _ _) I.le rfl⟩
  ·cases e
 ·cases e
theorem zD {X : Cx} {G₀ H₀ : Hp} {pos : Pos} {a b : Expr} {fa fb : FE} (ha : DE X G₀ H₀ a fa) (hb : DE X G₀ H₀ b fb) (hs : zdr b := by intro _ _; rfl) : DE X G₀ H₀ (.Subscript a b pos) (f2 gIx fa fb) := de_ix zkr od_ix ha hb hs
noncomputable def cutD (xs : List D) (lo hi : Option Int) : List D := (xs.drop (HT.sIx xs.length 0 lo)).take (HT.sIx xs.length xs.length hi - HT.sIx xs.length 0 lo)
theorem zgo {K : PySem.W.Frag} {G : Hp} {ds : List D} {vs : List V} (lo hi : Option Int) (r : RepL K G ds vs) : RepL K G (cutD ds lo hi) (cutV vs lo hi) := by
 unfold cutD cutV
 rw [r.length]
 exact (r.drop _).take _
noncomputable abbrev FO := Ev → Out (Option Int)
@[simp] noncomputable def fNo : FO := fun _ => .ok none
@[simp] noncomputable def fSo (f : FE) : FO := fun env => (f env).bind fun v => match v.d with
  | .int i => .ok (some i)
  | _ => .bad
noncomputable def tO (K : PySem.W.Frag) (G₀ H₀ : Hp) (f : FO) : TO := fun σ H Q => ∃ env G o,DI K G₀ H₀ env σ G H ∧ f env = .ok o ∧ ∀ G' H',Grow G H G' H' → Same G' H' → Q o H'
noncomputable def DO (X : Cx) (G₀ H₀ : Hp) (e : Option Expr) (f : FO) : Prop := PO X e (tO X.K G₀ H₀ f)
section
variable {X : Cx} {G₀ H₀ : Hp} {pos p2 : Pos} {a e : Expr} {lo hi : Option Expr} {fa f : FE} {fl fh : FO}
theorem zdc : DO X G₀ H₀ none fNo := fun pins s σ H Q I q => ziO pins s σ H Q I (by
 obtain ⟨env,G,o,J,h,k⟩ := q
 cases h
 exact k G H (Grow.refl _ _) J.le)
theorem yD (h : DE X G₀ H₀ e f) : DO X G₀ H₀ (some e) (fSo f) := fun pins s σ H Q I q => ziN h pins s σ H Q I (by
 obtain ⟨env,G,o,J,h,k⟩ := q
 obtain ⟨x,e1,h⟩ := zk h
 refine xn J e1 fun v G' H' g l J' ov => ?_
 split at h
 ·rename_i i hi
  cases h
  rw [hi] at ov
  exact ⟨i,ov.int,k G' H' g l⟩
 ·cases h)
@[simp] noncomputable def gSl : D → Option Int → Option Int → Out Val
  | .lst ds,lo,hi => .ok (.fresh (cutD ds lo hi))
  | .tup ds,lo,hi => if HT.sIx ds.length 0 lo = 0 ∧ HT.sIx ds.length ds.length hi = ds.length then .bad else .ok (.pers (.tup (cutD ds lo hi)))
  | _,_,_ => .bad
@[simp] noncomputable def fSl (fa : FE) (fl fh : FO) : FE := fun env => (fa env).bind fun x => (fl env).bind fun l => (fh env).bind fun h => gSl x.d l h
theorem zbe (ha : DE X G₀ H₀ a fa) (hl : DO X G₀ H₀ lo fl) (hh : DO X G₀ H₀ hi fh) : DE X G₀ H₀ (.Subscript a (.Slice lo hi none p2) pos) (fSl fa fl fh) :=
 (zhm (ziB.or zjL) ha hl hh).imp fun σ H Q q => by
  obtain ⟨env,G,val,I,e,k⟩ := q
  obtain ⟨x,e1,e⟩ := zk e
  obtain ⟨l,e2,e⟩ := zk e
  obtain ⟨h,e3,e⟩ := zk e
  refine xn I e1 fun v G1 H1 g1 l1 I1 o1 => ⟨env,G1,l,I1,e2,fun G2 H2 g2 l2 => ⟨env,G2,h,I1.grow g2 l2,e3,fun G3 H3 g3 l3 => ?_⟩⟩
  have I3 := (I1.grow g2 l2).grow g3 l3
  have o3 := (o1.mono g2.g).mono g3.g
  have g03 := (g1.trans g2).trans g3
  generalize x.d = dx at e o3
  cases dx with
  | lst ds =>
    cases e
    obtain ⟨a',vs,ev,h1,r1⟩ := Opd.lst I3 o3
    refine .inl ⟨a',vs,ev,SqL.of h1,fun p hp => ?_⟩
    have g := Grow.laidL (o := .lst (cutV vs l h)) l3 hp
    exact k _ G3 _ (g03.trans g.1) g.2 ((xP l3 hp (zgo l h r1)).base g03.h)
  | tup ds =>
    have e' : (if HT.sIx ds.length 0 l = 0 ∧ HT.sIx ds.length ds.length h = ds.length then Out.bad else Out.ok (.pers (.tup (cutD ds l h)))) = Out.ok val := e
    split at e'
    ·cases e'
    ·rename_i hw
     cases e'
     obtain ⟨a',vs,ev,h1,r1⟩ := Opd.tup I3 o3
     refine .inr ⟨a',vs,ev,SqT.of h1,by rw [← r1.length]; exact hw,fun p hp => ?_⟩
     have g := Grow.laidT (o := .tup (cutV vs l h)) l3 hp
     exact k _ _ _ (g03.trans g.1) g.2 ((zhZ l3 hp (zgo l h r1)).base g03.h)
  | non => cases e
  | bl b => cases e
  | int i => cases e
  | scr ns => cases e
  | exc c p => cases e
end
@[simp] noncomputable def fNil : Ev → Out (List Val) := fun _ => .ok []
@[simp] noncomputable def frz : Val → Val
  | .fresh ds => .pers (.lst ds)
  | v => v
@[simp] noncomputable def zh (f : FE) (r : Ev → Out (List Val)) : Ev → Out (List Val) := fun env => (f env).bind fun x => (r env).bind fun xs => .ok (frz x :: xs)
@[simp] noncomputable def hNil : Ev → Out (List D) := fun _ => .ok []
@[simp] noncomputable def zy (f : FE) (r : Ev → Out (List D)) : Ev → Out (List D) := fun env => (f env).bind fun x => x.hold.bind fun d => (r env).bind fun xs => .ok (d :: xs)
section
variable {K : PySem.W.Frag} {env : Ev} {σ : St} {G G' : Hp}
theorem zdx.mono {v : V} {x : Val} (h : zdx K env σ G v x) (s : Same G G') : zdx K env σ G' v x := by
 cases x with
 | pers d => exact Rep.mono s h
 | fresh ds => exact h
 | brw i ds => exact h
theorem zhV {val : Val} {v : V} {H H' : Hp} (g : Grow G H G' H') (l : Same G' H') (h : vx K H env σ G' H' v val) : ∃ G'',Grow G H G'' H' ∧ Same G'' H' ∧ zdx K env σ G'' v (frz val) := by
 cases val with
 | pers d => exact ⟨G',g,l,h⟩
 | brw i ds => exact ⟨G',g,l,h⟩
 | fresh ds => exact held g l h rfl
theorem zdx.opd {v : V} {x : Val} (h : zdx K env σ G v x) : Opd K env σ G v x.d := by
 cases x with
 | pers d => exact .inl h
 | fresh ds => exact h.elim
 | brw i ds => obtain ⟨a,e1,e2,e3⟩ := h; exact .inr ⟨i,ds,a,rfl,e1,e2,e3⟩
end
section
variable {X : Cx} {G₀ H₀ : Hp} {pos : Pos} {e : Expr} {es : List Expr} {f : FE} {r : Ev → Out (List Val)} {rh : Ev → Out (List D)}
theorem zp : DA X G₀ H₀ [] fNil := yF.imp fun σ H Q q => by
 obtain ⟨env,G,vals,I,h,k⟩ := q
 cases h
 exact k [] G H (Grow.refl _ _) I.le rfl
theorem zf (he : DE X G₀ H₀ e f) (hr : DA X G₀ H₀ es r) (hs : starEach (e :: es) X.env = (false,eval e X.env) :: starEach es X.env := by rfl) : DA X G₀ H₀ (e :: es) (zh f r) :=
 (zU he hr hs).imp fun σ H Q q => by
  obtain ⟨env,G,vals,I,h,k⟩ := q
  obtain ⟨x,e1,h⟩ := zk h
  obtain ⟨xs,e2,h⟩ := zk h
  cases h
  refine ⟨env,G,x,I,e1,fun v G1 H1 g1 l1 o1 => ?_⟩
  obtain ⟨G2,g2,l2,a2⟩ := zhV g1 l1 o1
  exact ⟨env,G2,xs,I.grow g2 l2,e2,fun vs G3 H3 g3 l3 a3 => k (v :: vs) G3 H3 (g2.trans g3) l3 ⟨_,_,rfl,a2.mono g3.g,a3⟩⟩
theorem zQ : DH X G₀ H₀ [] hNil := yF.imp fun σ H Q q => by
 obtain ⟨env,G,vals,I,h,k⟩ := q
 cases h
 exact k [] G H (Grow.refl _ _) I.le rfl
theorem zv (he : DE X G₀ H₀ e f) (hr : DH X G₀ H₀ es rh) (hs : starEach (e :: es) X.env = (false,eval e X.env) :: starEach es X.env := by rfl) : DH X G₀ H₀ (e :: es) (zy f rh) :=
 (zU he hr hs).imp fun σ H Q q => by
  obtain ⟨env,G,vals,I,h,k⟩ := q
  obtain ⟨x,e1,h⟩ := zk h
  obtain ⟨d,ed,h⟩ := zk h
  obtain ⟨xs,e2,h⟩ := zk h
  cases h
  refine ⟨env,G,x,I,e1,fun v G1 H1 g1 l1 o1 => ?_⟩
  obtain ⟨G2,g2,l2,a2⟩ := held g1 l1 o1 ed
  exact ⟨env,G2,xs,I.grow g2 l2,e2,fun vs G3 H3 g3 l3 a3 => k (v :: vs) G3 H3 (g2.trans g3) l3 (RepL.cons (a2.mono g3.g) a3)⟩
@[simp] noncomputable def fTup (r : Ev → Out (List D)) : FE := fun env => (r env).bind fun ds => if ds.length ≤ 1000 then .ok (.pers (.tup ds)) else .bad
@[simp] noncomputable def fLst (r : Ev → Out (List D)) : FE := fun env => (r env).bind fun ds => if ds.length ≤ 1000 then .ok (.fresh ds) else .bad
theorem xt {x1} (h : DH X G₀ H₀ es rh) : DE X G₀ H₀ (.Tuple es x1 pos) (fTup rh) := (zjX h).imp fun σ H Q q => by
 obtain ⟨env,G,val,I,e,k⟩ := q
 obtain ⟨ds,e1,e⟩ := zk e
 split at e
 ·rename_i hz
  cases e
  refine ⟨env,G,ds,I,e1,fun vs G1 H1 g1 l1 r1 => ⟨za3 (by rw [← r1.length]; lia),fun p hp => ?_⟩⟩
  have g := Grow.laidT (o := .tup vs) l1 hp
  exact k _ _ _ (g1.trans g.1) g.2 ((zhZ l1 hp r1).base g1.h)
 ·cases e
theorem y8 (h : DH X G₀ H₀ es rh) : DE X G₀ H₀ (.List es pos) (fLst rh) := (zif h).imp fun σ H Q q => by
 obtain ⟨env,G,val,I,e,k⟩ := q
 obtain ⟨ds,e1,e⟩ := zk e
 split at e
 ·rename_i hz
  cases e
  refine ⟨env,G,ds,I,e1,fun vs G1 H1 g1 l1 r1 => ⟨za3 (by rw [← r1.length]; lia),fun p hp => ?_⟩⟩
  have g := Grow.laidL (o := .lst vs) l1 hp
  exact k _ _ _ (g1.trans g.1) g.2 ((xP l1 hp r1).base g1.h)
 ·cases e
end
noncomputable def zai (K : PySem.W.Frag) (r : List V → Hp → VK → Prop) (g : List D → Out Val) : Prop :=
 ∀ (G₀ H₀ : Hp) (env : Ev) (σ : St) (G H : Hp) (vs : List V) (xs : List Val) (val : Val) (Q : VK),DI K G₀ H₀ env σ G H → zab K env σ G vs xs → g (xs.map Val.d) = .ok val →
   (∀ w G' H',Grow G H G' H' → Same G' H' → vx K H env σ G' H' w val → Q w H') → r vs H Q
@[simp] noncomputable def fB (g : List D → Out Val) (r : Ev → Out (List Val)) : FE := fun env => (r env).bind fun xs => g (xs.map Val.d)
section
variable {X : Cx} {G₀ H₀ : Hp} {x : Str} {p pos : Pos} {e : Expr} {es : List Expr} {f : Ev → Out (List Val)} {id T : String} {r : List V → Hp → VK → Prop} {g : List D → Out Val}
theorem impB (hd : zai X.K r g) (σ : St) (H : Hp) (Q : VK) (q : tE X.K G₀ H₀ (fB g f) σ H Q) : tCB r (tA X.K G₀ H₀ f) σ H Q := by
 obtain ⟨env,G,val,I,e,k⟩ := q
 obtain ⟨xs,e1,e⟩ := zk e
 exact ⟨env,G,xs,I,e1,fun vs G1 H1 g1 l1 a1 => hd G₀ H₀ env σ G1 H1 vs xs val Q (I.grow g1 l1) a1 e fun w G2 H2 g2 l2 h2 => k w G2 H2 (g1.trans g2) l2 (h2.base g1.h)⟩
theorem ya (hc : wj X (.builtin id) r) (hd : zai X.K r g) (hm : X.mg x = none) (hv : bootBuiltins x = some (.builtin id)) (ha : DA X G₀ H₀ (e :: es) f) (hg : Gl X x := by rfl) (hn : x ≠ "__name__" := by decide) (hdb : (x == ("__debug__" : Str)) = false := by decide)
 (he : starEach (e :: es) X.env = (false,eval e X.env) :: starEach es X.env := by rfl) (hpl : (backTo pos (starEach es X.env)).any (·.1) = false := by rfl) : DE X G₀ H₀ (.Call (.Name x p) (e :: es) [] pos) (fB g f) :=
 (vK hc hg hm hv ha hn hdb he hpl).imp (impB hd)
theorem wT (hc : wj X (.type T) r) (hd : zai X.K r g) (hm : X.mg x = none) (hv : bootBuiltins x = some (.type T)) (ha : DA X G₀ H₀ (e :: es) f) (hg : Gl X x := by rfl) (hn : x ≠ "__name__" := by decide) (hdb : (x == ("__debug__" : Str)) = false := by decide)
 (he : starEach (e :: es) X.env = (false,eval e X.env) :: starEach es X.env := by rfl) (hpl : (backTo pos (starEach es X.env)).any (·.1) = false := by rfl) : DE X G₀ H₀ (.Call (.Name x p) (e :: es) [] pos) (fB g f) :=
 (vJ hc hg hm hv ha hn hdb he hpl).imp (impB hd)
end
theorem t6 {K : PySem.W.Frag} {env : Ev} {σ : St} {G : Hp} {vs : List V} {xs : List Val} {d : D} (h : zab K env σ G vs xs) (e : xs.map Val.d = [d]) : ∃ v,vs = [v] ∧ Opd K env σ G v d := by
 cases vs with
 | nil => cases (show xs = [] from h); cases e
 | cons v vs =>
   obtain ⟨x,r,rfl,h1,h2⟩ := h
   simp only [List.map_cons,List.cons.injEq,List.map_eq_nil_iff] at e
   obtain ⟨rfl,rfl⟩ := e
   cases vs with
   | nil => exact ⟨v,rfl,h1.opd⟩
   | cons v' vs => obtain ⟨_,_,e,_⟩ := h2; cases e
theorem zkL {K : PySem.W.Frag} {env : Ev} {σ : St} {G : Hp} {vs : List V} {xs : List Val} {d d' : D} (h : zab K env σ G vs xs) (e : xs.map Val.d = [d,d']) : ∃ v v',vs = [v,v'] ∧ Opd K env σ G v d ∧ Opd K env σ G v' d' := by
 cases vs with
 | nil => cases (show xs = [] from h); cases e
 | cons v vs =>
   obtain ⟨x,r,rfl,h1,h2⟩ := h
   simp only [List.map_cons,List.cons.injEq] at e
   obtain ⟨rfl,e⟩ := e
   obtain ⟨v',rfl,o⟩ := t6 h2 e
   exact ⟨v,v',rfl,h1.opd,o⟩
@[simp] noncomputable def gLen : List D → Out Val
  | [.lst ds] => .ok (.pers (.int ds.length))
  | [.tup ds] => .ok (.pers (.int ds.length))
  | [.scr ns] => .ok (.pers (.int ns.length))
  | _ => .bad
theorem vd {K : PySem.W.Frag} : zai K (fun xs H Q => ∃ p ys,xs = [.ref p] ∧ (SqL K H p ys ∨ SqT K H p ys) ∧ Q (.int ys.length) H) gLen := by
 intro G₀ H₀ env σ G H vs xs val Q I a e k
 unfold gLen at e
 split at e
 ·rename_i ds hx
  cases e
  obtain ⟨v,rfl,o⟩ := t6 a hx
  obtain ⟨p,us,rfl,h1,r1⟩ := Opd.lst I o
  refine ⟨p,us,rfl,.inl (SqL.of h1),?_⟩
  rw [← r1.length]
  exact k _ G H (Grow.refl _ _) I.le rfl
 ·rename_i ds hx
  cases e
  obtain ⟨v,rfl,o⟩ := t6 a hx
  obtain ⟨p,us,rfl,h1,r1⟩ := Opd.tup I o
  refine ⟨p,us,rfl,.inr (SqT.of h1),?_⟩
  rw [← r1.length]
  exact k _ G H (Grow.refl _ _) I.le rfl
 ·rename_i ns hx
  cases e
  obtain ⟨v,rfl,o⟩ := t6 a hx
  obtain ⟨p,rfl,h1⟩ := Opd.scr I o
  refine ⟨p,_,rfl,.inl h1,?_⟩
  rw [List.length_map]
  exact k _ G H (Grow.refl _ _) I.le rfl
 ·cases e
@[simp] noncomputable def zcX : List D → Out Val
  | [.int i,.int j] => .ok (.pers (.int (if j < i then j else i)))
  | _ => .bad
@[simp] noncomputable def zcY : List D → Out Val
  | [.int i,.int j] => .ok (.pers (.int (if j > i then j else i)))
  | _ => .bad
theorem zgr {K : PySem.W.Frag} : zai K (fun xs H Q => ∃ i j,xs = [.int i,.int j] ∧ Q (.int (if j < i then j else i)) H) zcX := by
 intro G₀ H₀ env σ G H vs xs val Q I a e k
 unfold zcX at e
 split at e
 ·rename_i i j hx
  cases e
  obtain ⟨v,v',rfl,o,o'⟩ := zkL a hx
  exact ⟨i,j,by rw [o.int,o'.int],k _ G H (Grow.refl _ _) I.le rfl⟩
 ·cases e
theorem zgs {K : PySem.W.Frag} : zai K (fun xs H Q => ∃ i j,xs = [.int i,.int j] ∧ Q (.int (if j > i then j else i)) H) zcY := by
 intro G₀ H₀ env σ G H vs xs val Q I a e k
 unfold zcY at e
 split at e
 ·rename_i i j hx
  cases e
  obtain ⟨v,v',rfl,o,o'⟩ := zkL a hx
  exact ⟨i,j,by rw [o.int,o'.int],k _ G H (Grow.refl _ _) I.le rfl⟩
 ·cases e
@[simp] noncomputable def gInt : List D → Out Val
  | [.int i] => .ok (.pers (.int i))
  | [.bl b] => .ok (.pers (.int (if b then 1 else 0)))
  | _ => .bad
theorem zkH {K : PySem.W.Frag} : zai K (fun xs H Q => (∃ i,xs = [.int i] ∧ Q (.int i) H) ∨ ∃ k,xs = [.bl k] ∧ Q (.int (if k then 1 else 0)) H) gInt := by
 intro G₀ H₀ env σ G H vs xs val Q I a e k
 unfold gInt at e
 split at e
 ·rename_i i hx
  cases e
  obtain ⟨v,rfl,o⟩ := t6 a hx
  exact .inl ⟨i,by rw [o.int],k _ G H (Grow.refl _ _) I.le rfl⟩
 ·rename_i b hx
  cases e
  obtain ⟨v,rfl,o⟩ := t6 a hx
  exact .inr ⟨b,by rw [o.bl],k _ G H (Grow.refl _ _) I.le rfl⟩
 ·cases e
@[simp] noncomputable def zbY : List D → Out Val
  | [.lst ds] => .ok (.fresh ds)
  | [.tup ds] => .ok (.fresh ds)
  | _ => .bad
theorem tU {K : PySem.W.Frag} : zai K (fun xs H Q => ∃ p ys,xs = [.ref p] ∧ (SqL K H p ys ∨ SqT K H p ys) ∧ ∀ l,H l = none → Q (.ref l) (upd H l (.lst ys))) zbY := by
 intro G₀ H₀ env σ G H vs xs val Q I a e k
 unfold zbY at e
 split at e
 ·rename_i ds hx
  cases e
  obtain ⟨v,rfl,o⟩ := t6 a hx
  obtain ⟨p,us,rfl,h1,r1⟩ := Opd.lst I o
  refine ⟨p,us,rfl,.inl (SqL.of h1),fun l hl => ?_⟩
  have g := Grow.laidL (o := .lst us) I.le hl
  exact k _ G _ g.1 g.2 (xP I.le hl r1)
 ·rename_i ds hx
  cases e
  obtain ⟨v,rfl,o⟩ := t6 a hx
  obtain ⟨p,us,rfl,h1,r1⟩ := Opd.tup I o
  refine ⟨p,us,rfl,.inr (SqT.of h1),fun l hl => ?_⟩
  have g := Grow.laidL (o := .lst us) I.le hl
  exact k _ G _ g.1 g.2 (xP I.le hl r1)
 ·cases e
end DL
namespace DL
open PySem PySem.Spec PyProof.Rows L2
@[simp] noncomputable def trD : D → Out Bool
  | .non => .ok false
  | .bl b => .ok b
  | .int i => .ok (i != 0)
  | .lst ds => .ok (!ds.isEmpty)
  | .tup ds => .ok (!ds.isEmpty)
  | _ => .bad
@[simp] noncomputable def fTr (f : FE) : FT := fun env => (f env).bind fun x => trD x.d
@[simp] noncomputable def fTrB (f : FE) : FT := fun env => (f env).bind fun x => match x.d with
  | .bl b => .ok b
  | _ => .bad
@[simp] noncomputable def fAnd (f g : FT) : FT := fun env => (f env).bind fun c => if c = true then g env else .ok false
@[simp] noncomputable def fOr (f g : FT) : FT := fun env => (f env).bind fun c => if c = true then .ok true else g env
@[simp] noncomputable def fNot (f : FT) : FT := fun env => (f env).bind fun c => .ok (!c)
theorem tp {K : PySem.W.Frag} {G : Hp} {ds : List D} {vs : List V} (r : RepL K G ds vs) : ds.isEmpty = vs.isEmpty := by
 have := r.length
 cases ds <;> cases vs <;> simp_all
section
variable {X : Cx} {G₀ H₀ : Hp} {pos : Pos} {a b : Expr} {fa fb : FE} {ft fu : FT} {rest : List Expr}
theorem uA (ha : DE X G₀ H₀ a fa) (he : ∀ whole,isTrue a X.env whole = (do let v ← whole; standAt a.pos; holding [v] (truthy v)) := by intro _; rfl) : DT X G₀ H₀ a (fTr fa) :=
 (zhi ha he).imp fun σ H Q q => by
  obtain ⟨env,G,c,I,e,k⟩ := q
  obtain ⟨x,e1,e⟩ := zk e
  refine xn I e1 fun v G' H' g l I' o => ⟨c,?_,k G' H' g l⟩
  unfold trD at e
  split at e
  ·rename_i hd; rw [hd] at o; cases e; rw [o.non]; exact rfl
  ·rename_i b hd; rw [hd] at o; cases e; rw [o.bl]; exact rfl
  ·rename_i i hd; rw [hd] at o; cases e; rw [o.int]; exact rfl
  ·rename_i ds hd; rw [hd] at o; cases e
   obtain ⟨p,vs,rfl,h1,r1⟩ := Opd.lst I' o
   exact .inl ⟨vs,SqL.of h1,by rw [tp r1]⟩
  ·rename_i ds hd; rw [hd] at o; cases e
   obtain ⟨p,vs,rfl,h1,r1⟩ := Opd.tup I' o
   exact .inr (.inl ⟨vs,SqT.of h1,by rw [tp r1]⟩)
  ·cases e
theorem zff {f : FE} {K : PySem.W.Frag} {σ : St} {H : Hp} {Q : Bool → Hp → Prop} (q : tT K G₀ H₀ (fTrB f) σ H Q) : tE K G₀ H₀ f σ H fun x H' => ∃ k,x = .bl k ∧ Q k H' := by
 obtain ⟨env,G,c,I,e,k⟩ := q
 obtain ⟨x,e1,e⟩ := zk e
 refine xn I e1 fun v G' H' g l I' o => ?_
 split at e
 ·rename_i b hd
  cases e
  rw [hd] at o
  exact ⟨c,o.bl,k G' H' g l⟩
 ·cases e
theorem tL {op : CmpOp} {r : R2} {g : D → D → Out Val} (ho : OpR X (compareOp op) r) (hd : OpD X.K r g) (ha : DE X G₀ H₀ a fa) (hb : DE X G₀ H₀ b fb) (hm : behindInMarks op b = false) : DT X G₀ H₀ (.Compare a [op] [b] pos) (fTrB (f2 g fa fb)) :=
 (ziL ho ha hb hm).imp fun σ H Q q => imp2 hd σ H _ (zff q)
theorem vo (ha : DE X G₀ H₀ a fa) (hb : DE X G₀ H₀ b fb) : DT X G₀ H₀ (.Compare a [.Lt] [b] pos) (fTrB (f2 gLt fa fb)) := tL ziX u4 ha hb (uu _)
theorem zcb (ha : DE X G₀ H₀ a fa) (hb : DE X G₀ H₀ b fb) : DT X G₀ H₀ (.Compare a [.Gt] [b] pos) (fTrB (f2 gGt fa fb)) := tL zka u4 ha hb (uu _)
theorem zbd (hu : X.A.units + 20 < cLine) (ha : DE X G₀ H₀ a fa) (hb : DE X G₀ H₀ b fb) : DT X G₀ H₀ (.Compare a [.Eq] [b] pos) (fTrB (f2 gEq fa fb)) := tL (zih hu) zkh ha hb (uu _)
theorem zge (hu : X.A.units + 20 < cLine) (ha : DE X G₀ H₀ a fa) (hb : DE X G₀ H₀ b fb) : DT X G₀ H₀ (.Compare a [.NotEq] [b] pos) (fTrB (f2 gNe fa fb)) := tL (zig hu) zkf ha hb (uu _)
theorem dt_in (hu : X.A.units + 20 < cLine) (ha : DE X G₀ H₀ a fa) (hb : DE X G₀ H₀ b fb) (hm : behindInMarks .In b = false := by with_unfolding_all rfl) : DT X G₀ H₀ (.Compare a [.In] [b] pos) (fTrB (f2 gIn fa fb)) := tL (zj9 hu) od_in ha hb hm
theorem zkA (hu : X.A.units + 20 < cLine) (ha : DE X G₀ H₀ a fa) (hb : DE X G₀ H₀ b fb) (hm : behindInMarks .NotIn b = false := by with_unfolding_all rfl) : DT X G₀ H₀ (.Compare a [.NotIn] [b] pos) (fTrB (f2 gNin fa fb)) := tL (ziW hu) zke ha hb hm
theorem zkB (ha : DE X G₀ H₀ a fa) (hb : DE X G₀ H₀ b fb) : DT X G₀ H₀ (.Compare a [.Is] [b] pos) (fTrB (f2 gIsN fa fb)) := tL zj8 zkg ha hb (uu _)
theorem wB (ha : DT X G₀ H₀ a ft) : DW X G₀ H₀ (.BoolOp .And [a] pos) ft := ziI ha
theorem zgd (ha : DT X G₀ H₀ a ft) : DW X G₀ H₀ (.BoolOp .Or [a] pos) ft := zjR ha
theorem uz (ha : DT X G₀ H₀ a ft) (hb : DW X G₀ H₀ (.BoolOp .And (b :: rest) pos) fu) : DW X G₀ H₀ (.BoolOp .And (a :: b :: rest) pos) (fAnd ft fu) :=
 (zjS ha hb).imp fun σ H Q q => by
  obtain ⟨env,G,c,I,e,k⟩ := q
  obtain ⟨x,e1,e⟩ := zk e
  refine ⟨env,G,x,I,e1,fun G' H' g l => ?_⟩
  cases x with
  | true => exact ⟨env,G',c,I.grow g l,e,fun G2 H2 g2 l2 => k G2 H2 (g.trans g2) l2⟩
  | false => cases e; exact k G' H' g l
theorem zjq (ha : DT X G₀ H₀ a ft) (hb : DW X G₀ H₀ (.BoolOp .Or (b :: rest) pos) fu) : DW X G₀ H₀ (.BoolOp .Or (a :: b :: rest) pos) (fOr ft fu) :=
 (pw_or ha hb).imp fun σ H Q q => by
  obtain ⟨env,G,c,I,e,k⟩ := q
  obtain ⟨x,e1,e⟩ := zk e
  refine ⟨env,G,x,I,e1,fun G' H' g l => ?_⟩
  cases x with
  | true => cases e; exact k G' H' g l
  | false => exact ⟨env,G',c,I.grow g l,e,fun G2 H2 g2 l2 => k G2 H2 (g.trans g2) l2⟩
theorem dt_w (h : DW X G₀ H₀ a ft) : DT X G₀ H₀ a ft := PW.pt h
theorem zit (ha : DT X G₀ H₀ a ft) : DT X G₀ H₀ (.UnaryOp .Not a pos) (fNot ft) := (zjT ha).imp fun σ H Q q => by
 obtain ⟨env,G,c,I,e,k⟩ := q
 obtain ⟨x,e1,e⟩ := zk e
 cases e
 exact ⟨env,G,x,I,e1,fun G' H' g l => k G' H' g l⟩
@[simp] noncomputable def zgc (f g : FE) : FE := fun env => (f env).bind fun x => match x.d with
  | .bl true => g env
  | .bl false => .ok (.pers (.bl false))
  | _ => .bad
theorem zgj {op} (h : DE X G₀ H₀ a fa) : DE X G₀ H₀ (.BoolOp op [a] pos) fa := zjY h
theorem zgn (ha : DE X G₀ H₀ a fa) (hb : DE X G₀ H₀ (.BoolOp .And (b :: rest) pos) fb) : DE X G₀ H₀ (.BoolOp .And (a :: b :: rest) pos) (zgc fa fb) :=
 (zj1 ha hb).imp fun σ H Q q => by
  obtain ⟨env,G,val,I,e,k⟩ := q
  obtain ⟨x,e1,e⟩ := zk e
  refine xn I e1 fun v G' H' g l I' o => ?_
  split at e
  ·rename_i hd; rw [hd] at o
   exact ⟨true,o.bl,iteT ⟨env,G',val,I',e,fun w G2 H2 g2 l2 h2 => k w G2 H2 (g.trans g2) l2 (h2.base g.h)⟩⟩
  ·rename_i hd; rw [hd] at o; cases e
   exact ⟨false,o.bl,iteF (k _ G' H' g l rfl)⟩
  ·cases e
@[simp] noncomputable def fIf (ft : FT) (fa fb : FE) : FE := fun env => (ft env).bind fun c => if c = true then fa env else fb env
theorem zkE {c : Expr} (hc : DT X G₀ H₀ c ft) (ha : DE X G₀ H₀ a fa) (hb : DE X G₀ H₀ b fb) : DE X G₀ H₀ (.IfExp c a b pos) (fIf ft fa fb) :=
 (zhn hc ha hb).imp fun σ H Q q => by
  obtain ⟨env,G,val,I,e,k⟩ := q
  obtain ⟨x,e1,e⟩ := zk e
  refine ⟨env,G,x,I,e1,fun G' H' g l => ?_⟩
  cases x with
  | true => exact iteT ⟨env,G',val,I.grow g l,e,fun w G2 H2 g2 l2 h2 => k w G2 H2 (g.trans g2) l2 (h2.base g.h)⟩
  | false => exact iteF ⟨env,G',val,I.grow g l,e,fun w G2 H2 g2 l2 h2 => k w G2 H2 (g.trans g2) l2 (h2.base g.h)⟩
@[simp] noncomputable def fCh (g g' : D → D → Out Val) (fa fb fc : FE) : FE := fun env => (fa env).bind fun x => (fb env).bind fun y => (g x.d y.d).bind fun z => match z.d with
  | .bl true => (fc env).bind fun w => g' y.d w.d
  | .bl false => .ok (.pers (.bl false))
  | _ => .bad
theorem zks {c : Expr} {fc : FE} {r r' : R2} {g g' : D → D → Out Val} (hd : OpD X.K r g) (hd' : OpD X.K r' g') (σ : St) (H : Hp) (Q : VK) (q : tE X.K G₀ H₀ (fCh g g' fa fb fc) σ H Q) :
 zh2 r r' (tE X.K G₀ H₀ fa) (tE X.K G₀ H₀ fb) (tE X.K G₀ H₀ fc) σ H Q := by
 obtain ⟨env,G,val,I,e,k⟩ := q
 obtain ⟨x,e1,e⟩ := zk e
 obtain ⟨y,e2,e⟩ := zk e
 obtain ⟨z,e3,e⟩ := zk e
 refine zfe I e1 e2 fun v u G1 H1 g1 l1 I1 o1 o2 => hd G₀ H₀ env σ G1 H1 v u _ _ z _ I1 o1 o2 e3 fun w G2 H2 g2 l2 h2 => ?_
 obtain ⟨G3,g3,l3,o3⟩ := opd g2 l2 h2
 split at e
 ·rename_i hz
  rw [hz] at o3
  obtain ⟨w',e4,e⟩ := zk e
  refine ⟨true,o3.bl,iteT (xn (I1.grow g3 l3) e4 fun t G4 H4 g4 l4 I4 o4 => hd' G₀ H₀ env σ G4 H4 u t _ _ val Q I4 ((o2.mono g3.g).mono g4.g) o4 e fun s G5 H5 g5 l5 h5 => ?_)⟩
  have g04 := (g1.trans g3).trans g4
  exact k s G5 H5 (g04.trans g5) l5 (h5.base g04.h)
 ·rename_i hz
  rw [hz] at o3
  cases e
  exact ⟨false,o3.bl,iteF (k _ G3 H2 (g1.trans g3) l3 rfl)⟩
 ·cases e
theorem zgf {c : Expr} {fc : FE} (ha : DE X G₀ H₀ a fa) (hb : DE X G₀ H₀ b fb) (hc : DE X G₀ H₀ c fc) (hm : lastMarks [.Lt,.Lt] [b,c] = false := by with_unfolding_all rfl) : DT X G₀ H₀ (.Compare a [.Lt,.Lt] [b,c] pos) (fTrB (fCh gLt gLt fa fb fc)) :=
 (zhj ziX ziX ha hb hc hm).imp fun σ H Q q => zks (c := c) u4 u4 σ H _ (zff q)
end
theorem yZ {α : Type} {l : List α} {i : Nat} {x s : α} (h : (l.set i x)[i]? = some s) : s = x ∧ i < l.length := by
 rw [List.getElem?_set] at h
 simp at h
 exact ⟨h.2.symm,h.1⟩
section
variable {K : PySem.W.Frag} {G₀ H₀ G H : Hp} {env : Ev} {σ : St}
theorem DI.setP (I : DI K G₀ H₀ env σ G H) {d : D} {v : V} (i : Nat) (r : Rep K G d v) : DI K G₀ H₀ (env.set i (.pers d)) (σ.set i (some v)) G H where
 le := I.le
 gr := I.gr
 len := by simp [I.len]
 slot := fun j s e => by
  by_cases hj : i = j
  ·subst hj
   obtain ⟨rfl,hl⟩ := yZ e
   exact ⟨v,by rw [List.getElem?_set]; simp [I.len ▸ hl],r⟩
  ·rw [List.getElem?_set_ne hj] at e
   have q := I.slot j s e
   cases s with
   | un => trivial
   | pers d' => obtain ⟨u,h1,h2⟩ := q; exact ⟨u,by rw [List.getElem?_set_ne hj]; exact h1,h2⟩
   | own ds => obtain ⟨a,vs,o⟩ := q; exact ⟨a,vs,by rw [List.getElem?_set_ne hj]; exact o.at_,o.hp,o.gn,o.new,o.rep⟩
 apart := fun j k ds es a hjk e1 e2 s1 s2 => by
  have nj : i ≠ j := fun z => by subst z; cases (yZ e1).1
  have nk : i ≠ k := fun z => by subst z; cases (yZ e2).1
  rw [List.getElem?_set_ne nj] at e1 s1
  rw [List.getElem?_set_ne nk] at e2 s2
  exact I.apart j k ds es a hjk e1 e2 s1 s2
theorem DI.setO (I : DI K G₀ H₀ env σ G H) {ds : List D} {vs : List V} {a : Addr} (i : Nat) (ha : H a = some (.lst vs)) (hg : G a = none) (h0 : H₀ a = none) (r : RepL K G ds vs)
 (ne : ∀ (j : Nat) (es : List D),env[j]? = some (.own es) → σ[j]? ≠ some (some (.ref a))) : DI K G₀ H₀ (env.set i (.own ds)) (σ.set i (some (.ref a))) G H where
 le := I.le
 gr := I.gr
 len := by simp [I.len]
 slot := fun j s e => by
  by_cases hj : i = j
  ·subst hj
   obtain ⟨rfl,hl⟩ := yZ e
   exact ⟨a,vs,by rw [List.getElem?_set]; simp [I.len ▸ hl],ha,hg,h0,r⟩
  ·rw [List.getElem?_set_ne hj] at e
   have q := I.slot j s e
   cases s with
   | un => trivial
   | pers d' => obtain ⟨u,h1,h2⟩ := q; exact ⟨u,by rw [List.getElem?_set_ne hj]; exact h1,h2⟩
   | own ds => obtain ⟨a,vs,o⟩ := q; exact ⟨a,vs,by rw [List.getElem?_set_ne hj]; exact o.at_,o.hp,o.gn,o.new,o.rep⟩
 apart := fun j k ds' es b hjk e1 e2 s1 s2 => by
  by_cases hj : i = j
  ·subst hj
   have hl := (yZ e1).2
   rw [List.getElem?_set] at s1
   simp [I.len ▸ hl] at s1
   subst s1
   rw [List.getElem?_set_ne hjk] at e2 s2
   exact ne k es e2 s2
  ·by_cases hk : i = k
   ·subst hk
    have hl := (yZ e2).2
    rw [List.getElem?_set] at s2
    simp [I.len ▸ hl] at s2
    subst s2
    rw [List.getElem?_set_ne hj] at e1 s1
    exact ne j ds' e1 s1
   ·rw [List.getElem?_set_ne hj] at e1 s1
    rw [List.getElem?_set_ne hk] at e2 s2
    exact I.apart j k ds' es b hjk e1 e2 s1 s2
theorem DI.mut (I : DI K G₀ H₀ env σ G H) {i : Nat} {ds ds' : List D} {a : Addr} {vs vs' : List V} (e : env[i]? = some (.own ds)) (o : SlotOwn K H₀ σ G H i ds a vs) (r : RepL K G ds' vs') :
 DI K G₀ H₀ (env.set i (.own ds')) σ G (upd H a (.lst vs')) where
 le := fun b u q => by rw [zu (zo q o.gn)]; exact I.le b u q
 gr := ⟨I.gr.g,fun b u q => by rw [zu (zo q o.new)]; exact I.gr.h b u q,I.gr.n⟩
 len := by simp [I.len]
 slot := fun j s e' => by
  by_cases hj : i = j
  ·subst hj
   obtain ⟨rfl,hl⟩ := yZ e'
   exact ⟨a,vs',o.at_,zC,o.gn,o.new,r⟩
  ·rw [List.getElem?_set_ne hj] at e'
   have q := I.slot j s e'
   cases s with
   | un => trivial
   | pers d' => exact q
   | own es =>
     obtain ⟨b,us,p⟩ := q
     have hb : b ≠ a := fun z => by subst z; exact I.apart i j ds es b hj e e' o.at_ p.at_
     exact ⟨b,us,p.at_,by rw [zu hb]; exact p.hp,p.gn,p.new,p.rep⟩
 apart := fun j k ds' es b hjk e1 e2 s1 s2 => by
  have h1 : ∃ ds1,env[j]? = some (.own ds1) := by
   by_cases hj : i = j
   ·subst hj; exact ⟨_,e⟩
   ·rw [List.getElem?_set_ne hj] at e1; exact ⟨_,e1⟩
  have h2 : ∃ ds1,env[k]? = some (.own ds1) := by
   by_cases hk : i = k
   ·subst hk; exact ⟨_,e⟩
   ·rw [List.getElem?_set_ne hk] at e2; exact ⟨_,e2⟩
  obtain ⟨x1,h1⟩ := h1
  obtain ⟨x2,h2⟩ := h2
  exact I.apart j k x1 x2 b hjk h1 h2 s1 s2
end
theorem zhX.mono {K : PySem.W.Frag} {G₀ H₀ G G' : Hp} {D : Ends} {r : Res} (h : zhX K G₀ H₀ G D r) (s : Same G G') : zhX K G₀ H₀ G' D r := by
 cases r with
 | next env => exact fun σ' G2 H2 s2 I2 => h σ' G2 H2 (s.trans s2) I2
 | ret v => exact h
@[simp] noncomputable def setS (i : Nat) (fz : Bool) (f : FE) : FS := fun env => (f env).bind fun x => match x with
  | .pers d => .ok (.next (env.set i (.pers d)))
  | .fresh ds => .ok (.next (env.set i (if fz then .pers (.lst ds) else .own ds)))
  | .brw _ _ => .bad
section
variable {K : PySem.W.Frag} {G₀ H₀ : Hp}
theorem zbu {i : Nat} {fz : Bool} {f : FE} {D : Ends} {σ : St} {H : Hp} (q : tS K G₀ H₀ (setS i fz f) D σ H) : tE K G₀ H₀ f σ H fun x H1 => D.nx (σ.set i (some x)) H1 := by
 obtain ⟨env,G,r,I,e,k⟩ := q
 obtain ⟨x,e1,e⟩ := zk e
 refine ⟨env,G,x,I,e1,fun v G' H' g l h => ?_⟩
 have I' := I.grow g l
 cases x with
 | pers d =>
   cases e
   exact k _ G' H' g.g (I'.setP i h)
 | brw j ds => cases e
 | fresh ds =>
   cases e
   cases fz with
   | true =>
     obtain ⟨G2,g2,l2,h2⟩ := held g l h rfl
     exact k _ G2 H' g2.g ((I.grow g2 l2).setP i h2)
   | false =>
     obtain ⟨a,vs,rfl,h1,h2,h3,h4⟩ := h
     refine k _ G' H' g.g (I'.setO i h2 h3 (I.gr.h.free h1) h4 fun j es e2 s2 => ?_)
     obtain ⟨b,us,o⟩ := I.own e2
     have z := o.at_
     rw [s2] at z
     cases z
     have z := o.hp
     rw [h1] at z
     cases z
end
section
variable {X : Cx} {G₀ H₀ : Hp} {pos : Pos}
theorem zw {i : Nat} {x : Str} {e : Expr} {f : FE} {pos' : Pos} (fz : Bool) (hN : X.N.Nodup) (he : DE X G₀ H₀ e f) (hi : X.N[i]? = some x := by rfl) (hx : Loc X.env.scope x := by first | exact Or.inl rfl | exact Or.inr rfl)
 (hs : swapsWith e (some (.Name x pos')) pos.line X.env = pure false := by rfl) (hf : X.fn x = true ∨ X.env.scope.names.lookup x = some .local := by first | exact .inl rfl | exact .inr rfl) :
 DS X G₀ H₀ (.Assign [.Name x pos'] e pos) (setS i fz f) := (zib hN hi hx he hs hf).imp fun D σ H q => zbu q
end
noncomputable def tG (K : PySem.W.Frag) (G₀ H₀ : Hp) (g : D → Ev → Out Ev) : TG := fun v σ H Q => ∃ env G d env',DI K G₀ H₀ env σ G H ∧ Rep K G d v ∧ g d env = .ok env' ∧ ∀ σ',DI K G₀ H₀ env' σ' G H → Q σ' H
@[simp] noncomputable def setAll : List Nat → List D → Ev → Ev
  | i :: is,d :: ds,env => setAll is ds (env.set i (.pers d))
  | _,_,env => env
noncomputable def tGs (K : PySem.W.Frag) (G₀ H₀ : Hp) (is : List Nat) : TGs := fun vs σ H Q => ∃ env G ds,DI K G₀ H₀ env σ G H ∧ RepL K G ds vs ∧ ds.length = is.length ∧ ∀ σ',DI K G₀ H₀ (setAll is ds env) σ' G H → Q σ' H
noncomputable def DG (X : Cx) (G₀ H₀ : Hp) (tg : Expr) (g : D → Ev → Out Ev) : Prop := PG X tg (tG X.K G₀ H₀ g)
noncomputable def DGs (X : Cx) (G₀ H₀ : Hp) (ts : List Expr) (is : List Nat) : Prop := PGs X ts (tGs X.K G₀ H₀ is)
@[simp] noncomputable def gN (i : Nat) : D → Ev → Out Ev := fun d env => .ok (env.set i (.pers d))
@[simp] noncomputable def gT (is : List Nat) : D → Ev → Out Ev := fun d env => match d with
  | .tup ds => if ds.length = is.length then .ok (setAll is ds env) else .bad
  | _ => .bad
section
variable {X : Cx} {G₀ H₀ : Hp} {pos : Pos}
theorem yg {i : Nat} {x : Str} (hN : X.N.Nodup) (hi : X.N[i]? = some x := by rfl) (hx : Loc X.env.scope x := by first | exact Or.inl rfl | exact Or.inr rfl) (hf : X.fn x = true ∨ X.env.scope.names.lookup x = some .local := by first | exact .inl rfl | exact .inr rfl) :
 DG X G₀ H₀ (.Name x pos) (gN i) := fun pins s σ H v u Q I r q => zaV hN hi hx hf pins s σ H v u Q I r (by
 obtain ⟨env,G,d,env',J,h,e,k⟩ := q
 cases e
 exact k _ (J.setP i h))
theorem xE : DGs X G₀ H₀ [] [] := fun pins s σ H vs us Q I r q => zfC pins s σ H vs us Q I r (by
 obtain ⟨env,G,ds,J,h,e,k⟩ := q
 cases ds with
 | nil => cases (show vs = [] from h); exact ⟨rfl,k σ J⟩
 | cons d ds => cases e)
theorem zF {i : Nat} {x : Str} {es : List Expr} {is : List Nat} (hN : X.N.Nodup) (hr : DGs X G₀ H₀ es is) (hi : X.N[i]? = some x := by rfl) (hx : Loc X.env.scope x := by first | exact Or.inl rfl | exact Or.inr rfl) (hf : X.fn x = true ∨ X.env.scope.names.lookup x = some .local := by first | exact .inl rfl | exact .inr rfl)
 (hs : (assignEach (.Name x pos :: es) X.env).map (·.2) = assign (.Name x pos) X.env :: (assignEach es X.env).map (·.2) := by rfl) :
 DGs X G₀ H₀ (.Name x pos :: es) (i :: is) := fun pins s σ H vs us Q I r q => zaU (zaV hN hi hx hf) hr hs pins s σ H vs us Q I r (by
 obtain ⟨env,G,ds,J,h,e,k⟩ := q
 cases ds with
 | nil => cases e
 | cons d ds =>
   obtain ⟨v,vr,rfl,h1,h2⟩ := h
   exact ⟨v,vr,rfl,env.set i (.pers d),G,ds,J.setP i h1,h2,by simpa using e,k⟩)
theorem vc {es : List Expr} {k : Nat} {is : List Nat} (hc : X.calm = true) (h : DGs X G₀ H₀ es is) (hn : (assignEach es X.env).length = is.length := by rfl) (hst : (assignEach es X.env).findIdx? (·.1) = none := by rfl) :
 DG X G₀ H₀ (.Tuple es k pos) (gT is) := fun pins s σ H v u Q I r q => zie hc h hn hst pins s σ H v u Q I r (by
 obtain ⟨env,G,d,env',J,h,e,k⟩ := q
 unfold gT at e
 split at e
 ·rename_i ds
  split at e
  ·rename_i hl
   cases e
   obtain ⟨a,vs,e1,h1,r1⟩ := h
   exact ⟨a,vs,e1,SqT.of (J.le _ _ h1),by rw [← r1.length]; exact hl,env,G,ds,J,r1,hl,k⟩
  ·cases e
 ·cases e)
@[simp] noncomputable def asgS (g : D → Ev → Out Ev) (f : FE) : FS := fun env => (f env).bind fun x => x.hold.bind fun d => (g d env).bind fun env' => .ok (.next env')
theorem ziv {tg e : Expr} {f : FE} {g : D → Ev → Out Ev} (he : DE X G₀ H₀ e f) (hg : DG X G₀ H₀ tg g) (hs : swapsWithSole [tg] e pos.line X.env = pure false := by rfl) (hw : swappedStores [tg] e X.env = pure none := by rfl)
 (h1 : (assignEach [tg] X.env).map (·.2) = [assign tg X.env] := by rfl) : DS X G₀ H₀ (.Assign [tg] e pos) (asgS g f) := (zjU he hg hs hw h1).imp fun D σ H q => by
 obtain ⟨env,G,r,I,e,k⟩ := q
 obtain ⟨x,e1,e⟩ := zk e
 obtain ⟨d,e2,e⟩ := zk e
 obtain ⟨env',e3,e⟩ := zk e
 cases e
 refine ⟨env,G,x,I,e1,fun v G' H' g l h => ?_⟩
 obtain ⟨G2,g2,l2,h2⟩ := held g l h e2
 exact ⟨env,G2,d,env',I.grow g2 l2,h2,e3,fun σ' I' => k σ' G2 H' g2.g I'⟩
end
@[simp] noncomputable def drpS (f : FE) : FS := fun env => (f env).bind fun _ => .ok (.next env)
@[simp] noncomputable def retS (f : FE) : FS := fun env => (f env).bind fun x => match x with
  | .brw _ ds => .ok (.ret (.fresh ds))
  | x => .ok (.ret x)
@[simp] noncomputable def nxtS : FS := fun env => .ok (.next env)
@[simp] noncomputable def ifS (ft : FT) (f g : FS) : FS := fun env => (ft env).bind fun c => if c = true then f env else g env
@[simp] noncomputable def seqS (f g : FS) : FS := fun env => (f env).bind fun r => match r with
  | .next env' => g env'
  | .ret v => .ok (.ret v)
section
variable {X : Cx} {G₀ H₀ : Hp} {pos : Pos}
theorem zdb {e : Expr} {f : FE} (he : DE X G₀ H₀ e f) (hs : swapsWith e none pos.line X.env = pure false := by rfl) : DS X G₀ H₀ (.Expr e pos) (drpS f) := (v7 he hs).imp fun D σ H q => by
 obtain ⟨env,G,r,I,e,k⟩ := q
 obtain ⟨x,e1,e⟩ := zk e
 cases e
 exact ⟨env,G,x,I,e1,fun v G' H' g l h => k σ G' H' g.g (I.grow g l)⟩
theorem zP {e : Expr} {f : FE} (he : DE X G₀ H₀ e f) : DS X G₀ H₀ (.Return (some e) pos) (retS f) := (zic he).imp fun D σ H q => by
 obtain ⟨env,G,r,I,e,k⟩ := q
 obtain ⟨x,e1,e⟩ := zk e
 refine ⟨env,G,x,I,e1,fun v G' H' g l h => ?_⟩
 cases x with
 | pers d => cases e; exact k v G' H' (I.gr.trans g) l h
 | fresh ds =>
   cases e
   obtain ⟨a,vs,rfl,h1,h2⟩ := h
   exact k _ G' H' (I.gr.trans g) l ⟨a,vs,rfl,I.gr.h.free h1,h2⟩
 | brw i ds =>
   cases e
   obtain ⟨a,rfl,e2,e3⟩ := h
   obtain ⟨b,vs,o⟩ := (I.grow g l).own e2
   have z := o.at_
   rw [e3] at z
   cases z
   exact k _ G' H' (I.gr.trans g) l ⟨a,vs,rfl,o.new,o.hp,o.gn,o.rep⟩
theorem yK {c : Expr} {a b : List Stmt} {ft : FT} {f g : FS} (hc : DT X G₀ H₀ c ft) (ha : DSs X G₀ H₀ a f) (hb : DSs X G₀ H₀ b g) : DS X G₀ H₀ (.If c a b pos) (ifS ft f g) := (ps_if hc ha hb).imp fun D σ H q => by
 obtain ⟨env,G,r,I,e,k⟩ := q
 obtain ⟨x,e1,e⟩ := zk e
 refine ⟨env,G,x,I,e1,fun G' H' g l => ?_⟩
 cases x with
 | true => exact iteT ⟨env,G',r,I.grow g l,e,k.mono g.g⟩
 | false => exact iteF ⟨env,G',r,I.grow g l,e,k.mono g.g⟩
theorem zW : DSs X G₀ H₀ [] nxtS := ziM.imp fun D σ H q => by
 obtain ⟨env,G,r,I,e,k⟩ := q
 cases e
 exact k σ G H (Same.refl _) I
theorem zi {st : Stmt} {rest : List Stmt} {f g : FS} (h1 : DS X G₀ H₀ st f) (h2 : DSs X G₀ H₀ rest g) : DSs X G₀ H₀ (st :: rest) (seqS f g) := (zaT h1 h2).imp fun D σ H q => by
 obtain ⟨env,G,r,I,e,k⟩ := q
 obtain ⟨x,e1,e⟩ := zk e
 refine ⟨env,G,x,I,e1,?_⟩
 cases x with
 | next env' => exact fun σ' G' H' s I' => ⟨env',G',r,I',e,k.mono s⟩
 | ret v => cases e; exact k
theorem zl {st : Stmt} {f : FS} (h1 : DS X G₀ H₀ st f) : DSs X G₀ H₀ [st] f := zcJ h1
theorem vW {st : Stmt} : DS X G₀ H₀ st (fun _ => .bad) := fun pins s σ H D I q => by
 obtain ⟨env,G,r,I,e,k⟩ := q
 cases e
end
@[simp] noncomputable def appS (i : Nat) (f : FE) : FS := fun env => match env[i]? with
  | some (.own ds) => if ds.length < 100000 then (f env).bind fun x => x.hold.bind fun d => .ok (.next (env.set i (.own (ds ++ [d])))) else .bad
  | _ => .bad
@[simp] noncomputable def popS (i : Nat) : FS := fun env => match env[i]? with
  | some (.own ds) => if ds.length = 0 then .bad else .ok (.next (env.set i (.own ds.dropLast)))
  | _ => .bad
@[simp] noncomputable def revS (i : Nat) : FS := fun env => match env[i]? with
  | some (.own ds) => .ok (.next (env.set i (.own ds.reverse)))
  | _ => .bad
@[simp] noncomputable def extS (i : Nat) (f : FE) : FS := fun env => match env[i]? with
  | some (.own ds) => (f env).bind fun x => match x with
    | .pers (.lst es) => if ds.length + es.length ≤ 100000 then .ok (.next (env.set i (.own (ds ++ es)))) else .bad
    | .fresh es => if ds.length + es.length ≤ 100000 then .ok (.next (env.set i (.own (ds ++ es)))) else .bad
    | _ => .bad
  | _ => .bad
@[simp] noncomputable def putS (i : Nat) (fk f : FE) : FS := fun env => match env[i]? with
  | some (.own ds) => (f env).bind fun x => x.hold.bind fun d => (fk env).bind fun y => match y.d with
    | .int k => match ixN ds.length k with
      | some j => .ok (.next (env.set i (.own (ds.set j d))))
      | none => .bad
    | _ => .bad
  | _ => .bad
section
variable {X : Cx} {G₀ H₀ : Hp} {pos p1 apos cpos : Pos} {i : Nat} {x : Str} {e : Expr} {f : FE}
theorem wC (hv : PE X (.Name x p1) (tVar i)) (he : DE X G₀ H₀ e f) (hfew : ((backTo cpos (starEach [e] X.env)).all (fun x => !x.1) && (backToKw cpos (keywordEach [] X.env)).all (fun x => x.1.isSome)
 && decide ([e].length + ([] : List Keyword).length + (if ([] : List Keyword).isEmpty then 0 else 1) < 30)) = true := by rfl)
 (hline : (apos.endLine == cpos.line) = true := by rfl) (hs : starEach [e] X.env = [(false,eval e X.env)] := by rfl) :
 DS X G₀ H₀ (.Expr (.Call (.Attribute (.Name x p1) "append" apos) [e] [] cpos) pos) (appS i f) :=
 (v7 (zhp PySem.F.plainAttrs_list PySem.F.slot_list_append PySem.F.type_list_append u8 hv (zU he yF hs) rfl hfew hline hs rfl) rfl).imp fun D σ H q => by
  obtain ⟨env,G,r,I,e,k⟩ := q
  unfold appS at e
  split at e
  ·rename_i ds hd
   split at e
   ·rename_i hz
    obtain ⟨y,e1,e⟩ := zk e
    obtain ⟨d,e2,e⟩ := zk e
    cases e
    obtain ⟨a,vs,o⟩ := I.own hd
    refine ⟨.ref a,o.at_,.inl ⟨rfl,vs,SqL.of o.hp⟩,env,G,y,I,e1,fun v G' H' g l h => ?_⟩
    obtain ⟨G2,g2,l2,h2⟩ := held g l h e2
    have I2 := I.grow g2 l2
    obtain ⟨b,us,o2⟩ := I2.own hd
    have z := o2.at_
    rw [o.at_] at z
    cases z
    exact ⟨a,us,v,rfl,rfl,o2.hp,by rw [← o2.rep.length,sizeLine_eq]; lia,k σ G2 _ g2.g (I2.mut hd o2 (o2.rep.append (RepL.cons h2 RepL.nil)))⟩
   ·cases e
  ·cases e
theorem ziu (hv : PE X (.Name x p1) (tVar i)) (hline : (apos.endLine == cpos.line) = true := by rfl) :
 DS X G₀ H₀ (.Expr (.Call (.Attribute (.Name x p1) "pop" apos) [] [] cpos) pos) (popS i) :=
 (v7 (zfD PySem.F.plainAttrs_list PySem.F.slot_list_pop PySem.F.type_list_pop zkj hv rfl hline) rfl).imp fun D σ H q => by
  obtain ⟨env,G,r,I,e,k⟩ := q
  unfold popS at e
  split at e
  ·rename_i ds hd
   split at e
   ·cases e
   ·rename_i hz
    cases e
    obtain ⟨a,vs,o⟩ := I.own hd
    have hl := o.rep.length
    have hv2 : vs[vs.length - 1]? = some (vs[vs.length - 1]'(by lia)) := List.getElem?_eq_getElem (by lia)
    exact ⟨.ref a,o.at_,.inl ⟨rfl,vs,SqL.of o.hp⟩,a,vs,_,rfl,rfl,o.hp,hv2,k σ G _ (Same.refl _) (I.mut hd o o.rep.dropLast)⟩
  ·cases e
theorem zeV (hv : PE X (.Name x p1) (tVar i)) (hline : (apos.endLine == cpos.line) = true := by rfl) :
 DS X G₀ H₀ (.Expr (.Call (.Attribute (.Name x p1) "reverse" apos) [] [] cpos) pos) (revS i) :=
 (v7 (zfD PySem.F.plainAttrs_list PySem.F.slot_list_reverse PySem.F.type_list_reverse zeG hv rfl hline) rfl).imp fun D σ H q => by
  obtain ⟨env,G,r,I,e,k⟩ := q
  unfold revS at e
  split at e
  ·rename_i ds hd
   cases e
   obtain ⟨a,vs,o⟩ := I.own hd
   exact ⟨.ref a,o.at_,.inl ⟨rfl,vs,SqL.of o.hp⟩,a,vs,rfl,rfl,o.hp,k σ G _ (Same.refl _) (I.mut hd o o.rep.reverse)⟩
  ·cases e
theorem zgh (hv : PE X (.Name x p1) (tVar i)) (he : DE X G₀ H₀ e f) (hfew : ((backTo cpos (starEach [e] X.env)).all (fun x => !x.1) && (backToKw cpos (keywordEach [] X.env)).all (fun x => x.1.isSome)
 && decide ([e].length + ([] : List Keyword).length + (if ([] : List Keyword).isEmpty then 0 else 1) < 30)) = true := by rfl)
 (hline : (apos.endLine == cpos.line) = true := by rfl) (hs : starEach [e] X.env = [(false,eval e X.env)] := by rfl) :
 DS X G₀ H₀ (.Expr (.Call (.Attribute (.Name x p1) "extend" apos) [e] [] cpos) pos) (extS i f) :=
 (v7 (zhp PySem.F.plainAttrs_list PySem.F.slot_list_extend PySem.F.type_list_extend zfP hv (zU he yF hs) rfl hfew hline hs rfl) rfl).imp fun D σ H q => by
  obtain ⟨env,G,r,I,e,k⟩ := q
  have main : ∀ ds es y,env[i]? = some (.own ds) → f env = .ok y → y.hold = .ok (.lst es) → ds.length + es.length ≤ 100000 → r = .next (env.set i (.own (ds ++ es))) →
   zg4 (tBM X.K "list" zfv (tVar i) (zac (tE X.K G₀ H₀ f) tNil)) D σ H := by
   intro ds es y hd e1 e2 hz hr
   subst hr
   obtain ⟨a,vs,o⟩ := I.own hd
   refine ⟨.ref a,o.at_,.inl ⟨rfl,vs,SqL.of o.hp⟩,env,G,y,I,e1,fun v G' H' g l h => ?_⟩
   obtain ⟨G2,g2,l2,h2⟩ := held g l h e2
   have I2 := I.grow g2 l2
   obtain ⟨b,us,o2⟩ := I2.own hd
   have z := o2.at_
   rw [o.at_] at z
   cases z
   obtain ⟨c,ws,rfl,h3,r3⟩ := h2
   exact ⟨a,c,us,ws,rfl,rfl,o2.hp,l2 _ _ h3,by rw [← o2.rep.length,← r3.length]; exact za3 hz,k σ G2 _ g2.g (I2.mut hd o2 (o2.rep.append r3))⟩
  unfold extS at e
  split at e
  ·rename_i ds hd
   obtain ⟨y,e1,e⟩ := zk e
   split at e
   ·rename_i es
    split at e
    ·rename_i hz
     exact main ds es _ hd e1 rfl hz (by cases e; rfl)
    ·cases e
   ·rename_i es
    split at e
    ·rename_i hz
     exact main ds es _ hd e1 rfl hz (by cases e; rfl)
    ·cases e
   ·cases e
  ·cases e
end
structure JOk (K : PySem.W.Frag) (J : It) (G : Hp) (ds : List D) : Prop where
 go : ∀ i G' H',Same G G' → Same G' H' → i < ds.length → J.go i H'
 stop : ∀ i G' H',Same G G' → Same G' H' → ds.length ≤ i → J.stop i H'
 yld : ∀ i G' H' x H1,Same G G' → Same G' H' → i < ds.length → J.yld i H' x H1 → ∃ d G1,ds[i]? = some d ∧ Grow G' H' G1 H1 ∧ Same G1 H1 ∧ Rep K G1 d x
noncomputable abbrev FI := Ev → Out (List D)
noncomputable def tI (K : PySem.W.Frag) (G₀ H₀ : Hp) (f : FI) : TI := fun σ H R => ∃ env G ds,DI K G₀ H₀ env σ G H ∧ f env = .ok ds ∧ ∀ J G' H',Grow G H G' H' → Same G' H' → JOk K J G' ds → R J H'
noncomputable def DIt (X : Cx) (G₀ H₀ : Hp) (tg iter : Expr) (f : FI) : Prop := PI X tg iter (tI X.K G₀ H₀ f)
theorem _root_.L2.PI.imp {X : Cx} {tg e : Expr} {t t' : TI} (h : PI X tg e t) (i : ∀ σ H Q,t' σ H Q → t σ H Q) : PI X tg e t' := fun pins s σ H Q I q => h pins s σ H Q I (i σ H Q q)
@[simp] noncomputable def fItL (f : FE) : FI := fun env => (f env).bind fun x => x.hold.bind fun d => match d with
  | .lst ds => .ok ds
  | .scr ns => .ok (ns.map .int)
  | _ => .bad
noncomputable def rngD (lo : Int) (n : Nat) : List D := (List.range n).map fun (i : Nat) => .int (lo + i)
@[simp] noncomputable def tB (f : Ev → Out (List Val)) : FI := fun env => (f env).bind fun xs => match xs.map Val.d with
  | [.int j] => if -1000000 ≤ j ∧ j ≤ 1000000 then .ok (rngD 0 j.toNat) else .bad
  | _ => .bad
theorem zd1 {K : PySem.W.Frag} {G : Hp} {a : Addr} {ds : List D} {vs : List V} (h : SqL K G a vs) (r : RepL K G ds vs) : JOk K (Itl K a) G ds where
 go := fun i G' H' s l hi => ⟨vs,vs[i]'(by rw [← r.length]; exact hi),l.seq (s.seq h),List.getElem?_eq_getElem _⟩
 stop := fun i G' H' s l hi => ⟨vs,l.seq (s.seq h),by rw [← r.length]; exact hi⟩
 yld := fun i G' H' x H1 s l hi y => by
  obtain ⟨e,y⟩ := y
  subst e
  have hx := y vs (l.seq (s.seq h))
  obtain ⟨d,h1,h2⟩ := r.get' hx
  exact ⟨d,G',h1,Grow.refl _ _,l,h2.mono s⟩
theorem zf1 {K : PySem.W.Frag} {G : Hp} (lo : Int) (n : Nat) : JOk K (Itr lo n) G (rngD lo n) where
 go := fun i G' H' s l hi => by have h : i < n := by simpa [rngD] using hi
                                exact h
 stop := fun i G' H' s l hi => by have h : n ≤ i := by simpa [rngD] using hi
                                  exact h
 yld := fun i G' H' x H1 s l hi y => by
  obtain ⟨e,y⟩ := y
  subst e
  have hi' : i < n := by simpa [rngD] using hi
  exact ⟨.int (lo + i),G',by simp [rngD,hi'],Grow.refl _ _,l,y⟩
section
variable {X : Cx} {G₀ H₀ : Hp} {tg : Expr}
theorem yf {l : Expr} {f : FE} (h : DE X G₀ H₀ l f) : DIt X G₀ H₀ tg l (fItL f) := (zfB h).imp fun σ H R q => by
 obtain ⟨env,G,ds,I,e,k⟩ := q
 obtain ⟨x,e1,e⟩ := zk e
 obtain ⟨d,e2,e⟩ := zk e
 refine ⟨env,G,x,I,e1,fun v G' H' g l h => ?_⟩
 obtain ⟨G2,g2,l2,h2⟩ := held g l h e2
 split at e
 ·cases e
  obtain ⟨a,vs,rfl,h3,r3⟩ := h2
  exact ⟨a,rfl,⟨vs,SqL.of (l2 _ _ h3)⟩,k _ G2 H' g2 l2 (zd1 (SqL.of h3) r3)⟩
 ·rename_i ns
  cases e
  obtain ⟨a,rfl,h3⟩ := h2
  exact ⟨a,rfl,⟨_,l2.seq h3⟩,k _ G2 H' g2 l2 (zd1 h3 (RepL.ints ns))⟩
 ·cases e
theorem wD {a : Expr} {f : Ev → Out (List Val)} {p pos : Pos} (hm : X.mg "range" = none) (ha : DA X G₀ H₀ [a] f) (hg : Gl X "range" := by rfl) (hs : starEach [a] X.env = [(false,eval a X.env)] := by rfl) :
 DIt X G₀ H₀ tg (.Call (.Name "range" p) [a] [] pos) (tB f) := (zfA hg hm ha hs).imp fun σ H R q => by
 obtain ⟨env,G,ds,I,e,k⟩ := q
 obtain ⟨xs,e1,e⟩ := zk e
 refine ⟨env,G,xs,I,e1,fun vs G' H' g l h => ?_⟩
 split at e
 ·rename_i j hj
  split at e
  ·rename_i hb
   cases e
   obtain ⟨v,rfl,o⟩ := t6 h hj
   exact ⟨j,by rw [o.int],by lia,by lia,k _ G' H' g l (zf1 0 _)⟩
  ·cases e
 ·cases e
end
noncomputable def forD (g : D → Ev → Out Ev) (fb : FS) : List D → Ev → Out Res
 | [],env => .ok (.next env)
 | d :: ds,env => (g d env).bind fun env1 => (fb env1).bind fun r => match r with
   | .next env2 => forD g fb ds env2
   | .ret v => .ok (.ret v)
@[simp] noncomputable def forS (fi : FI) (g : D → Ev → Out Ev) (fb : FS) : FS := fun env => (fi env).bind fun ds => forD g fb ds env
noncomputable def whlD (ft : FT) (fb : FS) : Nat → Ev → Out Res
 | 0,_ => .bad
 | n + 1,env => (ft env).bind fun c => if c = true then (fb env).bind fun r => match r with
   | .next env2 => whlD ft fb n env2
   | .ret v => .ok (.ret v)
   else .ok (.next env)
section
variable {X : Cx} {G₀ H₀ : Hp} {tg : Expr} {pos : Pos}
theorem xA {iter : Expr} {body : List Stmt} {fi : FI} {g : D → Ev → Out Ev} {fb : FS} (hp : PassesOwn (model X.prog X.w) X.A X.env X.xe) (hi : DIt X G₀ H₀ tg iter fi) (hg : DG X G₀ H₀ tg g) (hb : DSs X G₀ H₀ body fb) (hc : X.calm = true := by rfl)
 (hs : ∀ x,foldedSetIterable iter X.env x = pure x := by intro _; rfl) : DS X G₀ H₀ (.For tg iter body [] pos) (forS fi g fb) := (zid hp hc hi hg hb hs).imp fun D σ H q => by
 obtain ⟨env,G,r,I,e,k⟩ := q
 obtain ⟨ds,e1,e⟩ := zk e
 refine ⟨env,G,ds,I,e1,fun J G1 H1 g1 l1 jok => ?_⟩
 refine ⟨fun i m σ H => m = ds.length - i ∧ i ≤ ds.length ∧ ∃ env' G',Same G1 G' ∧ DI X.K G₀ H₀ env' σ G' H ∧ forD g fb (ds.drop i) env' = .ok r,⟨ds.length,by simp,Nat.zero_le _,env,G1,Same.refl _,I.grow g1 l1,by simpa using e⟩,?_⟩
 rintro i m σ' H' ⟨rfl,hi',env',G',s',I',e'⟩
 by_cases hlt : i < ds.length
 ·have hd : ds.drop i = ds[i] :: ds.drop (i + 1) := List.drop_eq_getElem_cons hlt
  rw [hd] at e'
  obtain ⟨env1,e2,e'⟩ := zk e'
  obtain ⟨r1,e3,e'⟩ := zk e'
  refine .inr ⟨jok.go i G' H' s' I'.le hlt,fun σ2 H2 => ∃ env2 G2,Same G1 G2 ∧ DI X.K G₀ H₀ env2 σ2 G2 H2 ∧ forD g fb (ds.drop (i + 1)) env2 = .ok r,fun σ2 H2 ⟨env2,G2,s2,I2,e2⟩ => ⟨ds.length - (i + 1),by lia,rfl,hlt,env2,G2,s2,I2,e2⟩,fun x H2 y => ?_⟩
  obtain ⟨d,G2,hd2,g2,l2,r2⟩ := jok.yld i G' H' x H2 s' I'.le hlt y
  have hde : d = ds[i] := by rw [List.getElem?_eq_getElem hlt] at hd2; exact (Option.some.inj hd2).symm
  subst hde
  refine ⟨env',G2,_,env1,I'.grow g2 l2,r2,e2,fun σ2 I2 => ⟨env1,G2,r1,I2,e3,?_⟩⟩
  cases r1 with
  | next env2 => exact fun σ3 G3 H3 s3 I3 => ⟨env2,G3,(s'.trans g2.g).trans s3,I3,e'⟩
  | ret v => cases e'; exact k
 ·have hi2 : i = ds.length := by lia
  subst hi2
  rw [List.drop_length] at e'
  cases e'
  exact .inl ⟨jok.stop _ G' H' s' I'.le (Nat.le_refl _),k σ' G' H' (g1.g.trans s') I'⟩
theorem zhJ {c : Expr} {body : List Stmt} {ft : FT} {fb : FS} (n : Nat) (hp : PassesOwn (model X.prog X.w) X.A X.env X.xe) (hc : DT X G₀ H₀ c ft) (hb : DSs X G₀ H₀ body fb) : DS X G₀ H₀ (.While c body [] pos) (whlD ft fb n) :=
 (zhk hp hc hb).imp fun D σ H q => by
  obtain ⟨env,G,r,I,e,k⟩ := q
  refine ⟨fun m σ H => ∃ env' G',Same G G' ∧ DI X.K G₀ H₀ env' σ G' H ∧ whlD ft fb m env' = .ok r,⟨n,env,G,Same.refl _,I,e⟩,?_⟩
  rintro m σ' H' ⟨env',G',s',I',e'⟩
  cases m with
  | zero => cases e'
  | succ m =>
    obtain ⟨c',e1,e'⟩ := zk e'
    refine ⟨env',G',c',I',e1,fun G2 H2 g2 l2 => ?_⟩
    cases c' with
    | true =>
      rw [if_pos rfl] at e' ⊢
      obtain ⟨r1,e2,e'⟩ := zk e'
      refine ⟨fun σ2 H2 => ∃ env' G',Same G G' ∧ DI X.K G₀ H₀ env' σ2 G' H2 ∧ whlD ft fb m env' = .ok r,fun σ3 H3 h3 => ⟨m,Nat.lt_succ_self _,h3⟩,env',G2,r1,I'.grow g2 l2,e2,?_⟩
      cases r1 with
      | next env2 => exact fun σ3 G3 H3 s3 I3 => ⟨env2,G3,(s'.trans g2.g).trans s3,I3,e'⟩
      | ret v => cases e'; exact k
    | false =>
      rw [if_neg Bool.false_ne_true] at e' ⊢
      cases e'
      exact k σ' G2 H2 (s'.trans g2.g) (I'.grow g2 l2)
end
noncomputable def spD (K : PySem.W.Frag) (m : List D → Out Val) (n : Nat) : Sp := fun vs H Q _ => ∃ G ds val,ds.length = n ∧ Same G H ∧ RepL K G ds vs ∧ m ds = .ok val ∧
 ∀ v G' H',Grow G H G' H' → Same G' H' → vx K H [] [] G' H' v val → Q v H'
@[simp] noncomputable def runD (n : Nat) (f : FS) (ds : List D) : Out Val := (f (ds.map Slot.pers ++ List.replicate (n - ds.length) .un)).bind fun r => match r with
  | .ret v => .ok v
  | .next _ => .ok (.pers .non)
theorem zg5 {K : PySem.W.Frag} {G H : Hp} {ds : List D} {vs : List V} {N : List Str} (l : Same G H) (r : RepL K G ds vs) (hl : ds.length ≤ N.length) :
 DI K G H (ds.map Slot.pers ++ List.replicate (N.length - ds.length) .un) (L2.zx N vs) G H where
 le := l
 gr := Grow.refl _ _
 len := by unfold L2.zx; simp [r.length]
 slot := fun i s e => by
  by_cases hi : i < ds.length
  ·rw [List.getElem?_append_left (by simpa using hi),List.getElem?_map,List.getElem?_eq_getElem hi] at e
   cases e
   obtain ⟨v,h1,h2⟩ := r.get (List.getElem?_eq_getElem hi)
   refine ⟨v,?_,h2⟩
   unfold L2.zx
   rw [List.getElem?_append_left (by simp [← r.length,hi]),List.getElem?_map,h1]
   rfl
  ·rw [List.getElem?_append_right (by simpa using hi),List.getElem?_replicate] at e
   split at e
   ·cases e; trivial
   ·cases e
 apart := fun i j es fs a _ e _ _ _ => by
  by_cases hi : i < ds.length
  ·rw [List.getElem?_append_left (by simpa using hi),List.getElem?_map,List.getElem?_eq_getElem hi] at e
   cases e
  ·rw [List.getElem?_append_right (by simpa using hi),List.getElem?_replicate] at e
   split at e <;> cases e
theorem yJ {P : Program} {w : World} {K : PySem.W.Frag} {mg : Str → Option Value} {base : Heap} {x qual : Str} {st : Stmt} {f : Addr} {fd : FuncData} {N ps : List Str} {k : Nat} {fb : FS} (F : Fun K x qual st f fd) (S : FnScope N ps (defScope st))
 (hb : ∀ (cdv : Value) (A : Around) (outer : List Env) (s : Shared) (G H : Hp) (E : XK),Room k (A.deeper (envOfC qual (defScope st) s.heap.objs.size f cdv)) →
  DSs (cxOf CX0 P w K mg base N qual (defScope st) f cdv A outer s H E).nox G H (defBody st) fb) : FnOk P w K mg base CX0 (k + 1) f fd ps (spD K (runD N.length fb) ps.length) := by
 have hpl : ps.length ≤ N.length := by have := congrArg List.length S.pre; rw [List.length_take] at this; lia
 refine F.ok S (fun vs H Q E h => ?_) fun cdv A outer s H vs Q E hr h => ?_
 ·obtain ⟨G,ds,val,hl,_,r,_⟩ := h
  rw [← r.length]; exact hl
 ·obtain ⟨G,ds,val,hl,l,r,hm,k'⟩ := h
  refine ⟨_,hb cdv A outer s G H E hr,?_⟩
  obtain ⟨r',e1,e2⟩ := zk hm
  refine ⟨_,G,r',zg5 l r (by lia),e1,?_⟩
  cases r' with
  | next env => cases e2; exact fun σ' G' H' s' I' => k' _ G' H' I'.gr I'.le rfl
  | ret v => cases e2; exact fun v' G' H' g' l' h' => k' v' G' H' g' l' h'
mutual
noncomputable def zcO : D → Bool
 | .tup ds => zbK ds
 | .lst _ => false
 | .scr _ => false
 | .exc _ _ => false
 | _ => true
noncomputable def zbK : List D → Bool
 | [] => true
 | d :: ds => zcO d && zbK ds
end
@[simp] noncomputable def Val.calm : Val → Bool
  | .pers d => zcO d
  | .fresh ds => zbK ds
  | .brw _ _ => false
@[simp] noncomputable def Val.isPers : Val → Bool
  | .pers _ => true
  | _ => false
@[simp] noncomputable def zjt (m : List D → Out Val) (xs : List Val) : Out Val := (m (xs.map Val.d)).bind fun v => if (xs.all Val.isPers || v.calm) = true then .ok v else .bad
@[simp] noncomputable def zz (m : List D → Out Val) (r : Ev → Out (List Val)) : FE := fun env => (r env).bind fun xs => zjt m xs
theorem zgL {K : PySem.W.Frag} {env : Ev} {σ : St} {G : Hp} : ∀ {vs : List V} {xs : List Val},zab K env σ G vs xs → xs.all Val.isPers = true → RepL K G (xs.map Val.d) vs
 | [],xs,h,_ => by cases (show xs = [] from h); rfl
 | v :: vs,xs,h,hp => by
   obtain ⟨x,r,rfl,h1,h2⟩ := h
   rw [List.all_cons,Bool.and_eq_true] at hp
   cases x with
   | pers d => exact RepL.cons h1 (zgL h2 hp.2)
   | fresh ds => cases hp.1
   | brw i ds => cases hp.1
noncomputable def w9 (env : Ev) (σ : St) (b : Addr) : Prop := ∃ (i : Nat) (ds : List D),env[i]? = some (.own ds) ∧ σ[i]? = some (some (.ref b))
open Classical in
noncomputable def lend (env : Ev) (σ : St) (G H : Hp) : Hp := fun b => if w9 env σ b then H b else G b
open Classical in
noncomputable def wY (env : Ev) (σ : St) (G : Hp) : Hp := fun b => if w9 env σ b then none else G b
section
variable {K : PySem.W.Frag} {G₀ H₀ G H : Hp} {env : Ev} {σ : St}
theorem DI.lent (I : DI K G₀ H₀ env σ G H) {b : Addr} (h : w9 env σ b) : G b = none ∧ ∃ vs,H b = some (.lst vs) := by
 obtain ⟨i,ds,e1,e2⟩ := h
 obtain ⟨a,vs,o⟩ := I.own e1
 have z := o.at_
 rw [e2] at z
 cases z
 exact ⟨o.gn,vs,o.hp⟩
theorem zcU (I : DI K G₀ H₀ env σ G H) : Same G (lend env σ G H) := fun b o q => by
 unfold lend
 by_cases h : w9 env σ b
 ·rw [(I.lent h).1] at q; cases q
 ·rw [if_neg h]; exact q
theorem zi2 (I : DI K G₀ H₀ env σ G H) : Same (lend env σ G H) H := fun b o q => by
 unfold lend at q
 by_cases h : w9 env σ b
 ·rw [if_pos h] at q; exact q
 ·rw [if_neg h] at q; exact I.le b o q
theorem zbS (I : DI K G₀ H₀ env σ G H) : ∀ {vs : List V} {xs : List Val},zab K env σ G vs xs → RepL K (lend env σ G H) (xs.map Val.d) vs
 | [],xs,h => by cases (show xs = [] from h); rfl
 | v :: vs,xs,h => by
   obtain ⟨x,r,rfl,h1,h2⟩ := h
   refine RepL.cons ?_ (zbS I h2)
   cases x with
   | pers d => exact Rep.mono (zcU I) h1
   | fresh ds => exact h1.elim
   | brw i ds =>
     obtain ⟨a,rfl,e1,e2⟩ := h1
     obtain ⟨b,us,o⟩ := I.own e1
     have z := o.at_
     rw [e2] at z
     cases z
     exact ⟨a,us,rfl,by unfold lend; rw [if_pos ⟨i,ds,e1,e2⟩]; exact o.hp,o.rep.mono (zcU I)⟩
mutual
theorem zaj (I : DI K G₀ H₀ env σ G H) {G' : Hp} (s : Same (lend env σ G H) G') : ∀ {d : D} {v : V},zcO d = true → Rep K G' d v → Rep K (wY env σ G') d v
 | .non,_,_,h => h
 | .bl _,_,_,h => h
 | .int _,_,_,h => h
 | .tup ds,v,n,h => by
   obtain ⟨a,vs,e,g,r⟩ := h
   refine ⟨a,vs,e,?_,vf I s (by simpa [zcO] using n) r⟩
   unfold wY
   by_cases hl : w9 env σ a
   ·obtain ⟨_,us,q⟩ := I.lent hl
    have z : lend env σ G H a = some (.lst us) := by unfold lend; rw [if_pos hl]; exact q
    rw [s _ _ z] at g
    cases g
   ·rw [if_neg hl]; exact g
 | .lst _,_,n,_ => by simp [zcO] at n
 | .scr _,_,n,_ => by simp [zcO] at n
 | .exc _ _,_,n,_ => by simp [zcO] at n
theorem vf (I : DI K G₀ H₀ env σ G H) {G' : Hp} (s : Same (lend env σ G H) G') : ∀ {ds : List D} {vs : List V},zbK ds = true → RepL K G' ds vs → RepL K (wY env σ G') ds vs
 | [],_,_,h => h
 | d :: ds,vs,n,h => by
   obtain ⟨v,r,e,h1,h2⟩ := h
   simp only [zbK,Bool.and_eq_true] at n
   exact ⟨v,r,e,zaj I s n.1 h1,vf I s n.2 h2⟩
end
end
section
variable {X : Cx} {G₀ H₀ : Hp} {k : Nat} {f : Addr} {fd : FuncData} {ps : List Str} {x : Str} {p pos : Pos} {e : Expr} {es : List Expr} {r : Ev → Out (List Val)} {m : List D → Out Val}
theorem zjr (F : FnOk X.prog X.w X.K X.mg X.base CX0 k f fd ps (spD X.K m ps.length)) (hr : Room k X.A) (hm : X.mg x = some (.ref f)) (hk : PySem.W.keepIn X.K (.ref f) = true) (hb : Binds X.K fd ps []) (ha : DA X G₀ H₀ (e :: es) r)
 (hlen : ∀ env xs,r env = .ok xs → xs.length = ps.length) (hg : Gl X x := by rfl) (hdb : (x == ("__debug__" : Str)) = false := by decide) (he : starEach (e :: es) X.env = (false,eval e X.env) :: starEach es X.env := by rfl) (hpl : (backTo pos (starEach es X.env)).any (·.1) = false := by rfl) :
 DE X G₀ H₀ (.Call (.Name x p) (e :: es) [] pos) (zz m r) := (ziU F hr hg hm hk hb .nil pass0 ha hdb he hpl).imp fun σ H Q q => by
 obtain ⟨env,G,val,I,e,k'⟩ := q
 obtain ⟨xs,e1,e⟩ := zk e
 obtain ⟨v,e2,e⟩ := zk e
 split at e
 ·rename_i hc
  have ev : v = val := by cases e; rfl
  subst ev
  refine ⟨env,G,xs,I,e1,fun vs G1 H1 g1 l1 a1 => ?_⟩
  show spD X.K m ps.length (vs ++ []) H1 Q E0
  rw [List.append_nil]
  have I1 := I.grow g1 l1
  have hl : (xs.map Val.d).length = ps.length := by rw [List.length_map]; exact hlen env xs e1
  by_cases hp : xs.all Val.isPers = true
  ·refine ⟨G1,_,v,hl,l1,zgL a1 hp,e2,fun w G2 H2 g2 l2 h2 => k' w G2 H2 (g1.trans g2) l2 ?_⟩
   cases v with
   | pers d => exact h2
   | fresh ds =>
     obtain ⟨a,us,rfl,h3,h4⟩ := h2
     exact ⟨a,us,rfl,g1.h.free h3,h4⟩
   | brw i ds => obtain ⟨a,rfl,h3,_⟩ := h2; simp at h3
  ·have hcv : v.calm = true := by simpa [hp] using hc
   refine ⟨lend env σ G1 H1,_,v,hl,zi2 I1,zbS I1 a1,e2,fun w G2 H2 g2 l2 h2 => ?_⟩
   have gu : Grow G1 H1 (wY env σ G2) H2 := by
    refine ⟨fun b o q => ?_,g2.h,fun b q1 q2 => ?_⟩
    ·unfold wY
     by_cases hl : w9 env σ b
     ·rw [(I1.lent hl).1] at q; cases q
     ·rw [if_neg hl]; exact g2.g b o (zcU I1 b o q)
    ·unfold wY
     by_cases hl : w9 env σ b
     ·rw [if_pos hl]
     ·rw [if_neg hl]
      refine g2.n b q1 ?_
      unfold lend
      rw [if_neg hl]; exact q2
   have lu : Same (wY env σ G2) H2 := fun b o q => by
    unfold wY at q
    by_cases hl : w9 env σ b
    ·rw [if_pos hl] at q; cases q
    ·rw [if_neg hl] at q; exact l2 b o q
   refine k' w (wY env σ G2) H2 (g1.trans gu) lu ?_
   cases v with
   | pers d => exact zaj I1 g2.g hcv h2
   | fresh ds =>
     obtain ⟨a,us,rfl,h3,h4,h5,h6⟩ := h2
     refine ⟨a,us,rfl,g1.h.free h3,h4,?_,vf I1 g2.g hcv h6⟩
     unfold wY
     by_cases hl : w9 env σ a
     ·rw [if_pos hl]
     ·rw [if_neg hl]; exact h5
   | brw i ds => cases hcv
 ·cases e
end
end DL
namespace DL
open PySem PySem.Spec PyProof.Rows L2
theorem yn : ∀ (names : List (Str × NameKind)) (n : Nat) (acc : List (Str × Addr)),cellsFrom n names acc = cellsFrom n names [] ++ acc
 | [],n,acc => rfl
 | (x,k) :: r,n,acc => by
   unfold cellsFrom
   split
   ·rw [yn r (n + 1) ((x,n) :: acc),yn r (n + 1) [(x,n)]]
    simp
   ·exact yn r n acc
theorem x6 : ∀ (names : List (Str × NameKind)) (n : Nat) (x : Str),(x,NameKind.cell) ∉ names → (cellsFrom n names []).lookup x = none
 | [],n,x,_ => rfl
 | (y,k) :: r,n,x,h => by
   have hr : (x,NameKind.cell) ∉ r := fun z => h (List.mem_cons_of_mem _ z)
   unfold cellsFrom
   split
   ·rename_i hk
    rw [yn,List.lookup_append,x6 r (n + 1) x hr]
    have hxy : (x == y) = false := by
     rw [beq_eq_false_iff_ne]
     rintro rfl
     have : k = .cell := by simpa using hk
     subst this
     exact h List.mem_cons_self
    simp [List.lookup_cons,hxy]
   ·exact x6 r n x hr
noncomputable def yO (cells : List (Str × Addr)) : List (Str × NameKind) → List (Str × Addr) → List (Str × Addr)
 | [],acc => acc
 | (n,k) :: r,acc => if (k == .free) = true then yO cells r ((n,(cells.lookup n).getD 0) :: acc) else yO cells r acc
theorem zaE {env : Env} : ∀ (names : List (Str × NameKind)) (acc : List (Str × Addr)),(∀ n,(n,NameKind.free) ∈ names → ∃ c,env.cells.lookup n = some c) →
 (forIn names acc fun x r => if (x.2 == NameKind.free) = true then do let a ← cellOf env x.1; pure (ForInStep.yield ((x.1,a) :: r)) else pure (ForInStep.yield r) : Sem (List (Str × Addr))) = pure (yO env.cells names acc)
 | [],acc,_ => rfl
 | (n,k) :: r,acc,h => by
   have ih := fun acc => zaE (env := env) r acc fun m hm => h m (List.mem_cons_of_mem _ hm)
   rw [List.forIn_cons]
   unfold yO
   by_cases hk : (k == NameKind.free) = true
   ·have : k = .free := by simpa using hk
    subst this
    obtain ⟨c,hc⟩ := h n List.mem_cons_self
    rw [if_pos hk,if_pos hk]
    unfold cellOf
    rw [hc]
    simp only [pure_bind,Option.getD_some]
    exact ih _
   ·rw [if_neg hk,if_neg hk]
    simp only [pure_bind]
    exact ih _
theorem vX {scope : Scope} {env : Env} (h : ∀ n,(n,NameKind.free) ∈ scope.names → ∃ c,env.cells.lookup n = some c) : closureFor scope env = pure (yO env.cells scope.names []) := by
 have := zaE (env := env) scope.names [] h
 unfold closureFor
 simp only [bind_pure]
 exact this
theorem xh {cells : List (Str × Addr)} : ∀ (names : List (Str × NameKind)) (acc : List (Str × Addr)) (x : Str) (c : Addr),(∀ n,(n,NameKind.free) ∈ names → ∃ c,cells.lookup n = some c) →
 (yO cells names acc).lookup x = some c → cells.lookup x = some c ∨ acc.lookup x = some c
 | [],acc,x,c,_,h => .inr h
 | (n,k) :: r,acc,x,c,hn,h => by
   have hr : ∀ m,(m,NameKind.free) ∈ r → ∃ c,cells.lookup m = some c := fun m hm => hn m (List.mem_cons_of_mem _ hm)
   unfold yO at h
   split at h
   ·rename_i hk
    have : k = .free := by simpa using hk
    subst this
    rcases xh r _ x c hr h with q | q
    ·exact .inl q
    ·rw [List.lookup_cons] at q
     cases hx : x == n with
     | true =>
       rw [hx] at q
       obtain ⟨c',hc⟩ := hn n List.mem_cons_self
       rw [hc] at q
       cases q
       rw [beq_iff_eq.mp hx]
       exact .inl hc
     | false => rw [hx] at q; exact .inr q
   ·exact xh r _ x c hr h
theorem wU {cells : List (Str × Addr)} : ∀ (names : List (Str × NameKind)) (acc : List (Str × Addr)) (x : Str),((x,NameKind.free) ∈ names ∨ (acc.lookup x).isSome = true) → ((yO cells names acc).lookup x).isSome = true
 | [],acc,x,h => by
   rcases h with h | h
   ·simp at h
   ·exact h
 | (n,k) :: r,acc,x,h => by
   unfold yO
   split
   ·refine wU r _ x ?_
    rcases h with h | h
    ·rcases List.mem_cons.mp h with e | e
     ·cases e
      exact .inr (by simp [List.lookup_cons])
     ·exact .inl e
    ·refine .inr ?_
     rw [List.lookup_cons]
     cases x == n with
     | true => rfl
     | false => exact h
   ·rename_i hk
    refine wU r _ x ?_
    rcases h with h | h
    ·rcases List.mem_cons.mp h with e | e
     ·cases e
      exact absurd rfl hk
     ·exact .inl e
    ·exact .inr h
theorem xD {env : Env} : ∀ (names : List (Str × NameKind)) (x : Str) (k : NameKind),
 (names.map fun (n,k) => if (k == NameKind.free && env.scope.kind == .function && env.kindOf n == some .cell) then (n,NameKind.cell) else (n,k)).lookup x = some k →
  names.lookup x = some k ∨ (k = .cell ∧ names.lookup x = some .free)
 | [],x,k,h => by simp at h
 | (n,j) :: r,x,k,h => by
   have ih := xD (env := env) r x k
   rw [List.map_cons] at h
   by_cases hc : (j == NameKind.free && env.scope.kind == .function && env.kindOf n == some .cell) = true
   ·simp only [hc,if_true] at h
    rw [List.lookup_cons] at h ⊢
    cases hx : x == n with
    | true =>
      rw [hx] at h
      cases h
      have : j = .free := by simp at hc; exact hc.1.1
      exact .inr ⟨rfl,by rw [this]⟩
    | false => rw [hx] at h; exact ih h
   ·simp only [hc,Bool.false_eq_true,if_false] at h
    rw [List.lookup_cons] at h ⊢
    cases hx : x == n with
    | true => rw [hx] at h; exact .inl h
    | false => rw [hx] at h; exact ih h
theorem ur {env : Env} : ∀ (names : List (Str × NameKind)) (x : Str),names.lookup x = some .free →
 ((names.map fun (n,k) => if (k == NameKind.free && env.scope.kind == .function && env.kindOf n == some .cell) then (n,NameKind.cell) else (n,k)).lookup x = some .cell ∨
  (names.map fun (n,k) => if (k == NameKind.free && env.scope.kind == .function && env.kindOf n == some .cell) then (n,NameKind.cell) else (n,k)).lookup x = some .free)
 | [],x,h => by simp at h
 | (n,j) :: r,x,h => by
   have ih := ur (env := env) r x
   rw [List.map_cons]
   rw [List.lookup_cons] at h
   by_cases hc : (j == NameKind.free && env.scope.kind == .function && env.kindOf n == some .cell) = true
   ·simp only [hc,if_true]
    rw [List.lookup_cons]
    cases hx : x == n with
    | true => exact .inl rfl
    | false => rw [hx] at h; exact ih h
   ·simp only [hc,Bool.false_eq_true,if_false]
    rw [List.lookup_cons]
    cases hx : x == n with
    | true => rw [hx] at h; exact .inr h
    | false => rw [hx] at h; exact ih h
theorem zek {M : Model} {A : Around} {E : Value → Shared → Prop} {s : Shared} {scope : Scope} {env : Env} {cl : List (Str × Addr)} {Q : Env → Shared → Prop}
 (h : Q { scope := scope,locals := s.heap.objs.size,globals := env.globals,cells := cellsFrom (s.heap.objs.size + 1) scope.names cl,qual := env.qual,func := none,code := env.code,frame := env.frame,builtins := env.builtins }
  { s with heap := pushCells (s.heap.push { cls := .type "dict",data := .dict #[] }) scope.names }) :
 wpAny M A (newFunctionEnv scope env.globals cl [] env.qual none .none (some env)) Q E s := by
 simp only [newFunctionEnv,Option.isSome_some,if_true]
 refine wpAny_bind (wpAny_alloc ?_)
 refine wpAny_bind (wpAny_layCells _ (fun name kind cells => by cases hkc : kind == NameKind.cell <;> simp [hkc]) _ _ _ _ ?_)
 rw [show ({ s with heap := s.heap.push { cls := .type "dict",data := .dict #[] } } : Shared).heap.objs.size = s.heap.objs.size + 1 from Heap.size_push ..]
 exact wpAny_bind (wpAny_pure (wpAny_pure h))
noncomputable def yN (X : Cx) (N' : List Str) (scope : Scope) (ex : List Addr) (s : Shared) (H : Hp) : Cx :=
 { X with
   N := N'
   s₀ := s
   H₀ := H
   env := compEnvC scope (cellsFrom (s.heap.objs.size + 1) scope.names (yO X.env.cells scope.names [])) s.heap.objs.size X.env
   outer := X.stack
   stack := X.stack
   ex := ex
   fn := fun x => scope.names.lookup x == some .cell
   pn := []
   xe := fun _ _ => False }
structure CompOk (X : Cx) (scope : Scope) (cap : List Nat) (own : List Str) : Prop where
 kind : scope.kind = .function
 locals : ∀ x ∈ scope.names,x.2 = .local → scope.names.lookup x.1 = some .local
 nd : (scope.names.map (·.1)).Nodup
 frees : (scope.names.all fun x => x.2 != .free || (X.env.scope.names.lookup x.1 == some .cell || X.env.scope.names.lookup x.1 == some .free)) = true
 caps : (cap.all fun i => match X.N[i]? with | some x => scope.names.lookup x == some .free | none => false) = true
noncomputable def capN (X : Cx) (cap : List Nat) (own : List Str) : List Str := cap.map (fun i => X.N.getD i "") ++ own
noncomputable def capS (cap : List Nat) (n : Nat) (σ : St) : St := cap.map (fun i => σ.getD i none) ++ List.replicate n none
@[simp] noncomputable def capE (cap : List Nat) (n : Nat) (env : Ev) : Ev := cap.map (fun i => match env[i]? with | some (.pers d) => .pers d | _ => .un) ++ List.replicate n .un
noncomputable def NoOwn (env : Ev) : Prop := ∀ (i : Nat) (ds : List D),env[i]? ≠ some (.own ds)
theorem u5 (cap : List Nat) (n : Nat) (env : Ev) : NoOwn (capE cap n env) := by
 intro i ds h
 unfold capE at h
 by_cases hi : i < cap.length
 ·rw [List.getElem?_append_left (by simpa using hi),List.getElem?_map,List.getElem?_eq_getElem hi] at h
  simp only [Option.map_some] at h
  split at h <;> cases h
 ·rw [List.getElem?_append_right (by simpa using hi),List.getElem?_replicate] at h
  split at h <;> cases h
theorem zkJ {K : PySem.W.Frag} {G₀ H₀ G H : Hp} {env : Ev} {σ : St} (I : DI K G₀ H₀ env σ G H) (cap : List Nat) (n : Nat) : DI K G₀ H₀ (capE cap n env) (capS cap n σ) G H where
 le := I.le
 gr := I.gr
 len := by simp [capE,capS]
 slot := fun i s e => by
  cases s with
  | un => trivial
  | own ds => exact absurd e (u5 cap n env i ds)
  | pers d =>
    unfold capE at e
    by_cases hi : i < cap.length
    ·rw [List.getElem?_append_left (by simpa using hi),List.getElem?_map,List.getElem?_eq_getElem hi] at e
     simp only [Option.map_some] at e
     split at e
     ·rename_i d' hd
      cases e
      obtain ⟨v,h1,h2⟩ := I.pers hd
      refine ⟨v,?_,h2⟩
      unfold capS
      rw [List.getElem?_append_left (by simpa using hi),List.getElem?_map,List.getElem?_eq_getElem hi]
      simp [List.getD_eq_getElem?_getD,h1]
     ·cases e
    ·rw [List.getElem?_append_right (by simpa using hi),List.getElem?_replicate] at e
     split at e <;> cases e
 apart := fun i j ds es a _ e _ _ _ => u5 cap n env i ds e
section
variable {X : Cx} {pins : List (Addr × Obj)} {σ : St} {H : Hp} {s : Shared} {scope : Scope} {cap : List Nat} {own : List Str}
theorem CompOk.free (C : CompOk X scope cap own) {n : Str} (h : (n,NameKind.free) ∈ scope.names) : X.env.kindOf n = some .cell ∨ X.env.kindOf n = some .free := by
 have q := List.all_eq_true.mp C.frees _ h
 simp at q
 exact q
theorem CompOk.cells (C : CompOk X scope cap own) (I : Inv X pins σ H s) : ∀ n,(n,NameKind.free) ∈ scope.names → ∃ c,X.env.cells.lookup n = some c := fun n h => I.ok.has n (C.free h)
theorem zhL {fp : List Addr} (C : CompOk X scope cap own) (I : Inv X pins σ H s) (hf : ∀ b ∈ fp,FpOk X pins H b) (hex : ∀ b ∈ fp,b < s.heap.objs.size) :
 Inv (yN X (capN X cap own) scope fp s H) [] (capS cap own.length σ) H { s with heap := pushCells (s.heap.push { cls := .type "dict",data := .dict #[] }) scope.names } := by
 have hcl := C.cells I
 have keep : ∀ b o,s.heap.get? b = some o → (pushCells (s.heap.push { cls := .type "dict",data := .dict #[] }) scope.names).get? b = some o := fun b o e => pushCells_keeps _ _ b o (Heap.get?_push_of_some _ e)
 have ok := cellsFrom_ok scope.names (s.heap.push { cls := .type "dict",data := .dict #[] }) (s.heap.objs.size + 1) [] ⟨fun _ _ hm => (nomatch hm),List.Pairwise.nil⟩ (by rw [Heap.size_push]; exact Nat.le_refl _)
 rw [Heap.size_push] at ok
 have cases_cell : ∀ x c,(cellsFrom (s.heap.objs.size + 1) scope.names (yO X.env.cells scope.names [])).lookup x = some c →
  ((cellsFrom (s.heap.objs.size + 1) scope.names []).lookup x = some c) ∨ ((cellsFrom (s.heap.objs.size + 1) scope.names []).lookup x = none ∧ X.env.cells.lookup x = some c) := fun x c h => by
  rw [yn,List.lookup_append] at h
  cases q : (cellsFrom (s.heap.objs.size + 1) scope.names []).lookup x with
  | some c' => rw [q] at h; exact .inl h
  | none =>
    rw [q] at h
    simp at h
    rcases xh scope.names [] x c hcl h with z | z
    ·exact .inr ⟨rfl,z⟩
    ·simp at z
 have ownC : ∀ x c,(cellsFrom (s.heap.objs.size + 1) scope.names []).lookup x = some c → (pushCells (s.heap.push { cls := .type "dict",data := .dict #[] }) scope.names).IsCell c none ∧ s.heap.objs.size + 1 ≤ c := fun x c h => ok.empty x c (PySem.mem_of_lookup h)
 have oldC : ∀ x c,X.env.cells.lookup x = some c → c < s.heap.objs.size := fun x c h => let ⟨_,z⟩ := I.cell x c h; z.lt
 have kindX : ∀ x,(compEnvC scope (cellsFrom (s.heap.objs.size + 1) scope.names (yO X.env.cells scope.names [])) s.heap.objs.size X.env).kindOf x = (relabel scope X.env).names.lookup x := fun _ => rfl
 refine ⟨⟨I.ok.mod,C.kind,I.ok.glob,I.ok.blt,Nat.le_refl _,fun x y c h1 h2 => ?_,fun x hx => ?_,fun x c hx h => ?_,I.ok.hd,I.ok.frames,.inl rfl,fun b hb => ?_,I.bs,Nat.le_trans I.ok.bsz I.sz,fun b o e hb => ?_,fun b hb hs => ?_,I.stack,I.stkFree⟩,
  rfl,I.bare,Un.kept keep,⟨_,(Heap.Ns.new s.heap (.type "dict")).keeps (pushCells_keeps _ _),fun i x v e1 e2 e3 => ?_⟩,fun x c h => ?_,I.hok.fresh (Nat.le_refl _),fun x c h => ?_,fun p hp => absurd (show p ∈ ([] : List (Addr × Obj)) from hp) (by simp),I.hok.kept keep,?_⟩
 ·rcases cases_cell x c h1 with z1 | ⟨_,z1⟩
  ·rcases cases_cell y c h2 with z2 | ⟨_,z2⟩
   ·exact name_of_addr ok.apart (PySem.mem_of_lookup z1) (PySem.mem_of_lookup z2)
   ·exact absurd (Nat.lt_of_lt_of_le (Nat.lt_succ_of_lt (oldC y c z2)) (ownC x c z1).2) (Nat.lt_irrefl _)
  ·rcases cases_cell y c h2 with z2 | ⟨_,z2⟩
   ·exact absurd (Nat.lt_of_lt_of_le (Nat.lt_succ_of_lt (oldC x c z1)) (ownC y c z2).2) (Nat.lt_irrefl _)
   ·exact I.ok.inj x y c z1 z2
 ·show ∃ c,(cellsFrom (s.heap.objs.size + 1) scope.names (yO X.env.cells scope.names [])).lookup x = some c
  rw [yn,List.lookup_append]
  cases q : (cellsFrom (s.heap.objs.size + 1) scope.names []).lookup x with
  | some c' => exact ⟨c',rfl⟩
  | none =>
    have fr : scope.names.lookup x = some .free → ∃ c,(none.or ((yO X.env.cells scope.names []).lookup x)) = some c := fun z => by
     have := wU (cells := X.env.cells) scope.names [] x (.inl (PySem.mem_of_lookup z))
     exact Option.isSome_iff_exists.mp (by simpa using this)
    have hx' : (relabel scope X.env).names.lookup x = some .cell ∨ (relabel scope X.env).names.lookup x = some .free := hx
    rcases hx' with z | z
    ·rcases xD scope.names x .cell z with z | ⟨_,z⟩
     ·obtain ⟨c,z2⟩ := uR (n := s.heap.objs.size + 1) (sc := scope) z
      rw [z2] at q; cases q
     ·exact fr z
    ·rcases xD scope.names x .free z with z | ⟨z,_⟩
     ·exact fr z
     ·cases z
 ·have hx' : scope.names.lookup x = some .cell := by simpa using (show (scope.names.lookup x == some .cell) = true from hx)
  rcases cases_cell x c h with z | ⟨z,_⟩
  ·exact Nat.le_of_lt (ownC x c z).2
  ·obtain ⟨c',z2⟩ := uR (n := s.heap.objs.size + 1) (sc := scope) hx'
   rw [z2] at z; cases z
 ·refine ⟨Nat.ne_of_lt (hex b hb),fun x c h z => ?_⟩
  rcases cases_cell x c h with q | ⟨_,q⟩
  ·exact absurd (Nat.lt_of_lt_of_le (Nat.lt_succ_of_lt (hex b hb)) (z ▸ (ownC x c q).2)) (Nat.lt_irrefl _)
  ·exact (hf b hb).2.2.2.2.1 x c q z
 ·rcases (hf b hb).2.2.2.1 with z | z
  ·exact I.ok.noex b o e z
  ·exact absurd (Nat.lt_of_lt_of_le (Heap.lt_size e) (Nat.le_trans I.ok.bsz z)) (Nat.lt_irrefl _)
 ·rcases List.mem_cons.mp (I.stkSub b hs) with z | z
  ·exact (hf b hb).2.1 z
  ·exact (hf b hb).2.2.1 z
 ·
  have e1' : (capN X cap own)[i]? = some x := e1
  unfold capN at e1'
  unfold capS at e2
  by_cases hi : i < cap.length
  ·rw [List.getElem?_append_left (by simpa using hi),List.getElem?_map,List.getElem?_eq_getElem hi] at e1' e2
   simp only [Option.map_some,Option.some.injEq] at e1' e2
   have hcap := List.all_eq_true.mp C.caps cap[i] (List.getElem_mem hi)
   cases q : X.N[cap[i]]? with
   | none => rw [q] at hcap; cases hcap
   | some y =>
     rw [q] at hcap
     have hy : scope.names.lookup y = some .free := by simpa using hcap
     have hxy : x = y := by rw [← e1',List.getD_eq_getElem?_getD,q]; rfl
     subst hxy
     have hs : σ[cap[i]]? = some (some v) := by
      rw [List.getD_eq_getElem?_getD] at e2
      cases z : σ[cap[i]]? with
      | none => rw [z] at e2; cases e2
      | some w => rw [z] at e2; simp at e2; rw [e2]
     have hk := C.free (PySem.mem_of_lookup hy)
     obtain ⟨m,hn,hl⟩ := I.loc
     obtain ⟨u,ru,lk⟩ := hl cap[i] x v q hs (hk.elim (fun z => .inr (.inl z)) fun z => .inr (.inr z))
     refine ⟨u,ru,.inr ⟨?_,?_⟩⟩
     ·exact ur scope.names x hy
     ·rcases lk with ⟨z,_⟩ | ⟨_,c,hc,hcell⟩
      ·rcases hk with z' | z' <;> (rw [z] at z'; cases z')
      ·refine ⟨c,?_,hcell.keeps keep⟩
       show (cellsFrom (s.heap.objs.size + 1) scope.names (yO X.env.cells scope.names [])).lookup x = some c
       rw [yn,List.lookup_append]
       have hno : (cellsFrom (s.heap.objs.size + 1) scope.names []).lookup x = none := x6 _ _ _ fun hm => by
        have m1 := PySem.mem_of_lookup hy
        have := C.nd
        rw [List.nodup_iff_pairwise_ne,List.pairwise_map] at this
        have := List.Pairwise.forall_of_forall_of_flip (R := fun a b : Str × NameKind => a.1 ≠ b.1 ∨ a = b) (l := scope.names) (fun _ _ => .inr rfl) (this.imp fun h => .inl h) (this.imp fun h => .inl h.symm)
        rcases this m1 hm with z | z
        ·exact z rfl
        ·cases z
       rw [hno]
       have hsome := wU (cells := X.env.cells) scope.names [] x (.inl (PySem.mem_of_lookup hy))
       obtain ⟨c',hc'⟩ := Option.isSome_iff_exists.mp hsome
       rcases xh scope.names [] x c' hcl hc' with z | z
       ·rw [hc] at z; cases z; simpa using hc'
       ·simp at z
  ·rw [List.getElem?_append_right (by simpa using hi),List.getElem?_replicate] at e2
   split at e2 <;> cases e2
 ·rcases cases_cell x c h with z | ⟨_,z⟩
  ·exact ⟨_,(ownC x c z).1⟩
  ·obtain ⟨v,q⟩ := I.cell x c z
   exact ⟨v,q.keeps keep⟩
 ·rcases cases_cell x c h with z | ⟨_,z⟩
  ·exact I.hok.fresh (Nat.le_of_lt (ownC x c z).2)
  ·exact I.freeC x c z
 ·show (capS cap own.length σ).length = (capN X cap own).length
  simp [capS,capN]
end
end DL
namespace DL
open PySem PySem.Spec PyProof.Rows L2
theorem zce {prog : Program} {w : World} {A : Around} {R : Result → Shared → Prop} {s : Shared} {elt target iter : Expr} {ifs : List Expr} {scope : Scope} {pos : Pos} {it acc : Value} {env : Env} (I : Nat → Shared → Prop)
 (turn : ∀ n s,I n s → wpAny (model prog w) A (pyNext it) (fun r s₁ => match r with
  | none => R (.ok .next) s₁
  | some v => wpAny (model prog w) A (letOwnedTupleGo target it v) (fun _ s₁' => wpAny (model prog w) A (assign target env v) (fun _ s₂ =>
   wpAny (model prog w) A (forIn ifs true fun c r => if r = true then do let ok ← isTrue c env (eval c env); pure (ForInStep.yield ok) else pure (ForInStep.yield r)) (fun ok s₃ =>
    if ok = true then wpAny (model prog w) A (eval elt env) (fun x s₄ =>
     wpAny (model prog w) A (call (.builtin "list.append") [acc,x]) (fun _ s₅ => ∃ m,m < n ∧ I m s₅) (fun _ _ => False) s₄) (fun _ _ => False) s₃
    else ∃ m,m < n ∧ I m s₃) (fun _ _ => False) s₂) (fun _ _ => False) s₁') (fun _ _ => False) s₁) (fun _ _ => False) s)
 (n : Nat) (h : I n s) :
 codeAny (model prog w) A (.compLoop (.ListComp elt [⟨target,iter,ifs,0⟩] scope pos) 0 it acc env) R s := by
 refine codeAny_loop rfl I (fun n s hI => ?_) n h
 show wpAny _ A ((compTurn (.ListComp elt [⟨target,iter,ifs,0⟩] scope pos) 0 it acc env).onRaise (fun x => do noteFrame x env; theTreesLotGoes x)) _ _ s
 refine wpAny_noted ?_
 rw [compTurn_list]
 refine wpAny_bind (wpAny_standAt (wpAny_bind (wpAny_mono (turn n s hI) (fun r s₁ h₁ => ?_) fun _ _ h' => h'.elim)))
 cases r with
 | none => exact wpAny_pure h₁
 | some v =>
   refine wpAny_bind (wpAny_mono h₁ (fun _ s₁' h₁' => ?_) fun _ _ h' => h'.elim)
   refine wpAny_bind (wpAny_mono h₁' (fun _ s₂ h₂ => wpAny_bind (wpAny_mono h₂ (fun ok s₃ h₃ => ?_) fun _ _ h' => h'.elim)) fun _ _ h' => h'.elim)
   cases ok with
   | false => exact wpAny_pure ⟨rfl,h₃⟩
   | true =>
     exact wpAny_bind (wpAny_bind (wpAny_mono h₃ (fun x s₄ h₄ => wpAny_bind (wpAny_mono h₄ (fun _ s₅ h₅ => wpAny_pure (wpAny_pure ⟨rfl,h₅⟩)) fun _ _ h' => h'.elim)) fun _ _ h' => h'.elim))
noncomputable def compD (g : D → Ev → Out Ev) (ft : FT) (fe : FE) : List D → Ev → Out (List D)
 | [],_ => .ok []
 | d :: ds,env => (g d env).bind fun env1 => (ft env1).bind fun c => if c = true then (fe env1).bind fun x => x.hold.bind fun y => (compD g ft fe ds env1).bind fun r => .ok (y :: r) else compD g ft fe ds env1
@[simp] noncomputable def y0 (cap : List Nat) (n : Nat) (fi : FI) (g : D → Ev → Out Ev) (ft : FT) (fe : FE) : FE := fun env => (fi env).bind fun ds => if ds.length ≤ 100000 then (compD g ft fe ds (capE cap n env)).bind fun out => .ok (.fresh out) else .bad
noncomputable def DTs (X : Cx) (G₀ H₀ : Hp) (ifs : List Expr) (ft : FT) : Prop := ∀ (pins : List (Addr × Obj)) (s : Shared) (σ : St) (H : Hp) (Q : Bool → Hp → Prop),Inv X pins σ H s → tT X.K G₀ H₀ ft σ H Q →
 wpAny (model X.prog X.w) X.A (forIn ifs true fun c r => if r = true then do let ok ← isTrue c X.env (eval c X.env); pure (ForInStep.yield ok) else pure (ForInStep.yield r)) (TP X pins σ Q) X.xe s
@[simp] noncomputable def fYes : FT := fun _ => .ok true
theorem vn {X : Cx} {G₀ H₀ : Hp} : DTs X G₀ H₀ [] fYes := fun pins s σ H Q I q => wpAny_tests_nil (by
 obtain ⟨env,G,b,J,e,k⟩ := q
 cases e
 exact ⟨H,I,k G H (Grow.refl _ _) J.le⟩)
theorem vm {X : Cx} {G₀ H₀ : Hp} {c : Expr} {ft : FT} (h : DT X G₀ H₀ c ft) : DTs X G₀ H₀ [c] ft := fun pins s σ H Q I q => wpAny_tests_one (h pins s σ H Q I q)
noncomputable def Calm (g : D → Ev → Out Ev) : Prop := ∀ d env env',g d env = .ok env' → NoOwn env → NoOwn env'
theorem NoOwn.set {env : Ev} (h : NoOwn env) (i : Nat) (d : D) : NoOwn (env.set i (.pers d)) := fun j ds e => by
 by_cases hj : i = j
 ·subst hj; cases (yZ e).1
 ·rw [List.getElem?_set_ne hj] at e; exact h j ds e
theorem yr (i : Nat) : Calm (gN i) := fun d env env' e h => by cases e; exact h.set i d
theorem NoOwn.setAll : ∀ (is : List Nat) (ds : List D) {env : Ev},NoOwn env → NoOwn (setAll is ds env)
 | [],_,_,h => h
 | _ :: _,[],_,h => h
 | i :: is,d :: ds,env,h => NoOwn.setAll is ds (h.set i d)
theorem zbg (is : List Nat) : Calm (gT is) := fun d env env' e h => by
 unfold gT at e
 split at e
 ·split at e
  ·cases e; exact NoOwn.setAll is _ h
  ·cases e
 ·cases e
theorem DI.other {K : PySem.W.Frag} {G₀ H₀ G H : Hp} {env : Ev} {σ : St} (I : DI K G₀ H₀ env σ G H) (h : NoOwn env) {p : Addr} {o : HO} (hg : G p = none) (h0 : H₀ p = none) : DI K G₀ H₀ env σ G (upd H p o) where
 le := fun b u q => by rw [zu (zo q hg)]; exact I.le b u q
 gr := ⟨I.gr.g,fun b u q => by rw [zu (zo q h0)]; exact I.gr.h b u q,I.gr.n⟩
 len := I.len
 slot := fun i s e => by
  cases s with
  | un => trivial
  | pers d => exact I.slot i _ e
  | own ds => exact absurd e (h i ds)
 apart := I.apart
section
variable {X : Cx} {G₀ H₀ : Hp} {elt iter tg : Expr} {ifs : List Expr} {scope : Scope} {pos : Pos} {fi : FI} {g : D → Ev → Out Ev} {ft : FT} {fe : FE} {cap : List Nat} {own : List Str}
structure CLoop (Iv : St → Hp → Shared → Prop) (K : PySem.W.Frag) (G₀ H₀ G2 H2 : Hp) (g : D → Ev → Out Ev) (ft : FT) (fe : FE) (ds out : List D) (fp : List Addr) (a : Addr) (tn : Nat → Heap → Prop) (k : Nat) (s' : Shared) (i : Nat) (σ' : St) (H' G' : Hp) (env' : Ev) (accD : List D) (accV : List V) (rest : List D) : Prop where
 hk : k = ds.length + 1 - i
 hi : i ≤ ds.length
 iv : Iv σ' H' s'
 st : tn i s'.heap
 fr : ∀ b ∈ fp,H' b = none
 di : DI K G₀ H₀ env' σ' G' H'
 no : NoOwn env'
 gr : Grow G2 H2 G' H'
 ha : H' a = some (.lst accV)
 ga : G' a = none
 ra : RepL K G' accD accV
 la : accD.length ≤ i
 ec : compD g ft fe (ds.drop i) env' = .ok rest
 eo : out = accD ++ rest
theorem zaD (C : CompOk X scope cap own) (hc : X.calm = true)
 (hg : ∀ ex s H,DG (yN X (capN X cap own) scope ex s H) G₀ H₀ tg g) (hgc : Calm g) (ht : ∀ ex s H,DTs (yN X (capN X cap own) scope ex s H) G₀ H₀ ifs ft) (he : ∀ ex s H,DE (yN X (capN X cap own) scope ex s H) G₀ H₀ elt fe)
 {pins : List (Addr × Obj)} {σ : St} {H2 G2 : Hp} {s2 : Shared} {env : Ev} {it : Addr} {fp : List Addr} {tn : Nat → Heap → Prop} {J : It} {ds out : List D}
 (I2 : Inv X pins σ H2 s2) (D2 : DI X.K G₀ H₀ env σ G2 H2) (T : Turn X.prog X.w X.K tg J fp it tn) (st2 : tn 0 s2.heap) (f2 : ∀ b ∈ fp,FpOk X pins H2 b) (jok : JOk X.K J G2 ds) (hz : ds.length ≤ 100000)
 (e : compD g ft fe ds (capE cap own.length env) = .ok out) {RR : Value → Addr → Result → Shared → Prop} {E : Value → Shared → Prop}
 (fin : ∀ (D C : Addr) (vs : List V) (G' H' : Hp) (s' : Shared),s2.heap.objs.size ≤ C ∧ H' C = none → H2 D = none → H' D = some (.lst vs) → G' D = none → RepL X.K G' out vs → Grow G2 H2 G' H' → Same G' H' →
  (∃ m,s'.heap.Ns C m) → (∀ h',Heap.SameBut C s'.heap h' → Inv X pins σ H' { s' with heap := h' }) → RR (.ref D) C (.ok .next) s') :
 wpAny (model X.prog X.w) X.A (newList []) (fun acc s₃ => wpAny (model X.prog X.w) X.A (newFunctionEnv scope X.env.globals (yO X.env.cells scope.names []) [] X.env.qual none .none (some X.env)) (fun cenv s₄ =>
  codeAny (model X.prog X.w) X.A (.compStart (.ListComp elt [⟨tg,iter,ifs,0⟩] scope pos) 0 (.ref it) acc { cenv with scope := relabel scope X.env }) (RR acc cenv.locals) s₄) E s₃) E s2 := by
 have hlt : ∀ b ∈ fp,b < s2.heap.objs.size := fun b hb => let ⟨o,eo,_⟩ := T.obj _ _ st2 b hb; Heap.lt_size eo
 refine wpAny_newObj_type (zek ?_)
 dsimp only
 generalize hD : s2.heap.objs.size = D
 have fD : H2 D = none := by rw [← hD]; exact I2.fresh
 have I3 : Inv X pins σ (upd H2 D (.lst [])) { s2 with heap := s2.heap.push { cls := .type "list",data := .seq ([] : List Value).toArray } } := by
  have := I2.lnew (t' := s2.toks) (ys := []) (its := []) .nil (Nat.zero_le _)
  rw [hD] at this
  exact this
 generalize hs3 : ({ s2 with heap := s2.heap.push { cls := .type "list",data := .seq ([] : List Value).toArray } } : Shared) = s3 at I3
 have hs3' : s3.heap = s2.heap.push { cls := .type "list",data := .seq ([] : List Value).toArray } := by rw [← hs3]
 have f3 : ∀ b ∈ fp,FpOk X pins (upd H2 D (.lst [])) b := fun b hb => ⟨by rw [zu (by rw [← hD]; exact Nat.ne_of_lt (hlt b hb))]; exact (f2 b hb).1,(f2 b hb).2⟩
 have hlt3 : ∀ b ∈ fp,b < s3.heap.objs.size := fun b hb => by rw [hs3',Heap.size_push]; exact Nat.lt_succ_of_lt (hlt b hb)
 have I4 := zhL C I3 f3 hlt3
 have st4 : tn 0 (pushCells (s3.heap.push { cls := .type "dict",data := .dict #[] }) scope.names) := T.keep _ _ _ st2 fun b hb o eo => pushCells_keeps _ _ b o (Heap.get?_push_of_some _ (by rw [hs3']; exact Heap.get?_push_of_some _ eo))
 have g3 : Grow G2 H2 G2 (upd H2 D (.lst [])) ∧ Same G2 (upd H2 D (.lst [])) := Grow.laidL D2.le fD
 have D4 : DI X.K G₀ H₀ (capE cap own.length env) (capS cap own.length σ) G2 (upd H2 D (.lst [])) := zkJ (D2.grow g3.1 g3.2) cap own.length
 have stat : ∀ {H' : Hp},(∀ b ∈ fp,H' b = none) → ∀ b ∈ fp,FpOk (yN X (capN X cap own) scope fp s3 (upd H2 D (.lst []))) [] H' b := fun {H'} hn b hb =>
  ⟨hn b hb,(I4.ok.exf b hb).1,I4.ok.exfs b hb,.inl hb,(I4.ok.exf b hb).2,fun p hp => absurd (show p ∈ ([] : List (Addr × Obj)) from hp) (by simp)⟩
 have hG2D : G2 D = none := D2.le.free fD
 have h0D : H₀ D = none := D2.gr.h.free fD
 have loop : ∀ s4 : Shared,s4 = { s3 with heap := pushCells (s3.heap.push { cls := .type "dict",data := .dict #[] }) scope.names } →
  codeAny (model X.prog X.w) X.A (.compLoop (.ListComp elt [⟨tg,iter,ifs,0⟩] scope pos) 0 (.ref it) (.ref D) (yN X (capN X cap own) scope fp s3 (upd H2 D (.lst []))).env) (RR (.ref D) s3.heap.objs.size) s4 := by
  rintro s4 rfl
  refine zce (fun k s' => ∃ i σ' H' G' env' accD accV rest,CLoop (fun σ H s => Inv (yN X (capN X cap own) scope fp s3 (upd H2 D (.lst []))) [] σ H s) X.K G₀ H₀ G2 H2 g ft fe ds out fp D tn k s' i σ' H' G' env' accD accV rest) ?_ (ds.length + 1)
   ⟨0,_,_,G2,_,[],[],out,rfl,Nat.zero_le _,I4,st4,fun b hb => (f3 b hb).1,D4,u5 _ _ _,g3.1,zC,hG2D,RepL.nil,Nat.zero_le _,by simpa using e,rfl⟩
  rintro k s5 ⟨i,σ5,H5,G5,env5,accD,accV,rest,rfl,hi,I5,st5,fr5,D5,no5,gr5,hD5,gD5,ra5,la5,e5,eo⟩
  by_cases hlt5 : i < ds.length
  ·have hd : ds.drop i = ds[i] :: ds.drop (i + 1) := List.drop_eq_getElem_cons hlt5
   rw [hd] at e5
   obtain ⟨env6,e6,e5⟩ := zk e5
   obtain ⟨c,e7,e5⟩ := zk e5
   refine thn (T.item (yN X (capN X cap own) scope fp s3 (upd H2 D (.lst []))) rfl rfl rfl hc i [] s5 σ5 H5 (fun _ _ => False) I5 (stat fr5) st5 (jok.go i G5 H5 gr5.g D5.le hlt5)) fun r s6 ⟨u,hr,h6⟩ => ?_
   subst hr
   refine thn h6 fun _ s7 ⟨x,H7,I7,r7,y7,st7,fr7⟩ => ?_
   obtain ⟨d,G7,hd7,g7,l7,rx7⟩ := jok.yld i G5 H5 x H7 gr5.g D5.le hlt5 y7
   have hde : d = ds[i] := by rw [List.getElem?_eq_getElem hlt5] at hd7; exact (Option.some.inj hd7).symm
   subst hde
   have D7 := D5.grow g7 l7
   have I7' := I7.pinned (stat fr7) (T.obj _ _ st7)
   refine thn (hg fp s3 (upd H2 D (.lst [])) _ s7 σ5 H7 x u (fun σ8 H8 => H8 = H7 ∧ DI X.K G₀ H₀ env6 σ8 G7 H7) I7' r7 ⟨env5,G7,_,env6,D7,rx7,e6,fun σ8 D8 => ⟨rfl,D8⟩⟩) fun _ s8 ⟨σ8,H8,I8,hH8,D8⟩ => ?_
   subst hH8
   have no8 : NoOwn env6 := hgc _ _ _ e6 no5
   have hD7 : H8 D = some (.lst accV) := g7.h _ _ hD5
   have gD7 : G7 D = none := g7.n D (by rw [hD5]; simp) gD5
   refine thn (ht fp s3 (upd H2 D (.lst [])) _ s8 σ8 H8 (fun b H9 => b = c ∧ ∃ G9,Grow G7 H8 G9 H9 ∧ Same G9 H9) I8 ⟨env6,G7,c,D8,e7,fun G9 H9 g9 l9 => ⟨rfl,G9,g9,l9⟩⟩) fun ok s9 ⟨H9,I9,hok,G9,g9,l9⟩ => ?_
   subst hok
   have D9 := D8.grow g9 l9
   have back : ∀ {s10 : Shared} {σ10 : St} {H10 : Hp},Inv (yN X (capN X cap own) scope fp s3 (upd H2 D (.lst []))) ([] ++ zbF fp s7.heap) σ10 H10 s10 →
    Inv (yN X (capN X cap own) scope fp s3 (upd H2 D (.lst []))) [] σ10 H10 s10 ∧ tn (i + 1) s10.heap ∧ (∀ b ∈ fp,H10 b = none) := fun {s10 σ10 H10} I10 => by
    refine ⟨I10.unpinned,T.keep _ _ _ st7 fun b hb o eb => (I10.pin (b,o) (List.mem_append_right _ (List.mem_append_right _ (wN hb eb)))).1,fun b hb => ?_⟩
    obtain ⟨o,eb,d⟩ := T.obj _ _ st7 b hb
    exact (I10.pin (b,o) (List.mem_append_right _ (List.mem_append_right _ (wN hb eb)))).2.1
   have gr9 : Grow G2 H2 G9 H9 := (gr5.trans g7).trans g9
   cases ok with
   | false =>
     rw [if_neg Bool.false_ne_true] at e5 ⊢
     obtain ⟨I10,st10,fr10⟩ := back I9
     exact ⟨ds.length + 1 - (i + 1),by lia,i + 1,σ8,H9,G9,env6,accD,accV,rest,rfl,hlt5,I10,st10,fr10,D9,no8,gr9,g9.h _ _ hD7,g9.n D (by rw [hD7]; simp) gD7,(ra5.mono g7.g).mono g9.g,by lia,e5,eo⟩
   | true =>
     rw [if_pos rfl] at e5 ⊢
     obtain ⟨xv,e8,e5⟩ := zk e5
     obtain ⟨y,e9,e5⟩ := zk e5
     obtain ⟨rest',e10,e5⟩ := zk e5
     cases e5
     refine thn (he fp s3 (upd H2 D (.lst [])) _ s9 σ8 H9 (fun v H10 => ∃ G10,Grow G9 H9 G10 H10 ∧ Same G10 H10 ∧ Rep X.K G10 y v) I9 ⟨env6,G9,xv,D9,e8,fun v G10 H10 g10 l10 h10 => held g10 l10 h10 e9⟩) fun u10 s10 ⟨v10,H10,I10,r10,G10,g10,l10,rep10⟩ => ?_
     have D10 := D9.grow g10 l10
     have hD10 : H10 D = some (.lst accV) := g10.h _ _ (g9.h _ _ hD7)
     have gD10 : G10 D = none := g10.n D (by rw [g9.h _ _ hD7]; simp) (g9.n D (by rw [hD7]; simp) gD7)
     have ra10 := ((ra5.mono g7.g).mono g9.g).mono g10.g
     refine thn (u8 (X := yN X (capN X cap own) scope fp s3 (upd H2 D (.lst []))) _ s10 σ8 H10 (.ref D) [v10] (.ref D) [u10] (fun _ H11 => H11 = upd H10 D (.lst (accV ++ [v10]))) I10 rfl (.cons r10 .nil)
      ⟨D,accV,v10,rfl,rfl,hD10,by rw [← ra10.length,sizeLine_eq]; lia,rfl⟩) fun _ s11 ⟨_,H11,I11,_,hH11⟩ => ?_
     subst hH11
     obtain ⟨I12,st12,fr12⟩ := back I11
     have gr10 : Grow G2 H2 G10 (upd H10 D (.lst (accV ++ [v10]))) := by
      have q := gr9.trans g10
      exact ⟨q.g,fun b o z => by rw [zu (zo z fD)]; exact q.h b o z,q.n⟩
     exact ⟨ds.length + 1 - (i + 1),by lia,i + 1,σ8,_,G10,env6,accD ++ [y],accV ++ [v10],rest',rfl,hlt5,I12,st12,fr12,D10.other no8 gD10 h0D,no8,gr10,zC,gD10,ra10.append (RepL.cons rep10 RepL.nil),by simp; lia,e10,by rw [eo]; simp⟩
  ·have hi5 : i = ds.length := by lia
   subst hi5
   refine thn (T.done (yN X (capN X cap own) scope fp s3 (upd H2 D (.lst []))) rfl rfl rfl hc _ [] s5 σ5 H5 (fun _ _ => False) I5 (stat fr5) st5 (jok.stop _ G5 H5 gr5.g D5.le (Nat.le_refl _))) fun r s6 ⟨hr,I6⟩ => ?_
   subst hr
   rw [List.drop_length] at e5
   cases e5
   have eo' : out = accD := by rw [eo]; simp
   refine fin D s3.heap.objs.size accV G5 H5 s6 ?_ fD hD5 gD5 (by rw [eo']; exact ra5) gr5 D5.le ?_ fun h' sb => ?_
   ·exact ⟨by rw [hs3',Heap.size_push]; exact Nat.le_succ _,I6.free⟩
   ·obtain ⟨m,hm,_⟩ := I6.loc
    exact ⟨m,hm⟩
   ·have ne : ∀ b o,s3.heap.get? b = some o → b ≠ s3.heap.objs.size := fun b o eb => Nat.ne_of_lt (Heap.lt_size eb)
    have frC : H5 s3.heap.objs.size = none := I6.free
    have up : ∀ b o,b ≠ s3.heap.objs.size → s6.heap.get? b = some o → h'.get? b = some o := fun b o hb eb => sb.extBut b o hb eb
    have ub := I6.base
    have U : Un (frs X.stack) fp (upd H2 D (.lst [])) H5 s3.heap h' :=
     ⟨fun b o eb n hb hx => up b o (ne b o eb) (ub.keep b o eb n hb hx),fun b o eb n hb hx => let ⟨sl,q⟩ := ub.slot b o eb n hb hx; ⟨sl,up b _ (ne b o eb) q⟩,ub.free,fun b o eb hx => let ⟨o',q⟩ := ub.there b o eb hx; ⟨o',up b _ (ne b o eb) q⟩,ub.tups,ub.frzs,ub.tbls⟩
    have hok : HOk X.prog X.w H5 h' := fun b u eb => (I6.hok b u eb).stay (fun c v hc' q => up c v (by
     rcases hc' with rfl | hc'
     ·intro z; rw [z,frC] at eb; cases eb
     ·intro z; rw [z,frC] at hc'; cases hc') q) (fun _ q => q) fun _ _ q => q
    exact I3.call' (s' := { s6 with heap := h' }) I6.os U hok I6.bare fun b hb => let ⟨a0,a1,a2,a3,a4,a5⟩ := f3 b hb; ⟨a3,a1,a4,a5⟩
 subst hs3
 exact codeAny_compStart_list (loop _ rfl) (T.self _ 0 _ _ _ st4 (loop _ rfl))
theorem xu (C : CompOk X scope cap own) (hi : DIt X G₀ H₀ tg iter fi)
 (hg : ∀ ex s H,DG (yN X (capN X cap own) scope ex s H) G₀ H₀ tg g) (hgc : Calm g) (ht : ∀ ex s H,DTs (yN X (capN X cap own) scope ex s H) G₀ H₀ ifs ft) (he : ∀ ex s H,DE (yN X (capN X cap own) scope ex s H) G₀ H₀ elt fe)
 (hc : X.calm = true := by rfl) (hs : ∀ x,foldedSetIterable iter X.env x = pure x := by intro _; rfl) : DE X G₀ H₀ (.ListComp elt [⟨tg,iter,ifs,0⟩] scope pos) (y0 cap own.length fi g ft fe) := by
 intro pins s σ H Q I q
 obtain ⟨env,G,val,D0,e,k⟩ := q
 obtain ⟨ds,e1,e⟩ := zk e
 split at e
 ·rename_i hz
  obtain ⟨out,e2,e⟩ := zk e
  cases e
  rw [eval_ListComp]
  refine wpAny_comprehension_free (use := none) (cl := yO X.env.cells scope.names []) rfl hs (vX (C.cells I)) C.kind C.locals ?_
  refine thn (hi pins s σ H (fun J H2 => ∃ G2,Grow G H G2 H2 ∧ Same G2 H2 ∧ JOk X.K J G2 ds) I ⟨env,G,ds,D0,e1,fun J G2 H2 g2 l2 jok => ⟨G2,g2,l2,jok⟩⟩) fun v s1 h1 => thn h1 fun itv s2 h2 => ?_
  obtain ⟨it,fp,tn,J,H2,rfl,I2,T,st2,f2,G2,g2,l2,jok⟩ := h2
  refine zaD (RR := fun acc C => compPost (model X.prog X.w) X.A X.xe none (EP X pins σ Q) acc C) C hc hg hgc ht he I2 (D0.grow g2 l2) T st2 f2 jok hz e2 fun D C' vs G' H' s' hC fD hD gD r gr l hm hI => ?_
  obtain ⟨m,hm⟩ := hm
  exact ⟨m,hm,fun h' sb => ⟨.ref D,H',hI h' sb,rfl,k _ G' H' (g2.trans gr) l ⟨D,vs,rfl,g2.h.free fD,hD,gD,r⟩⟩⟩
 ·cases e
end
end DL
namespace DL
open PySem PySem.Spec PyProof.Rows L2
theorem zhN {X : Cx} : wj X (.builtin "isinstance") (fun xs H Q => ∃ x t T b,xs = [x,.ty T] ∧ TyOf X.K H x t ∧ PySem.W.kitOne X.K t (.type T) = some b ∧ Q (.bl b) H) := by
 intro pins s σ H xs us Q I r h
 obtain ⟨x,t,T,b,rfl,ty,e,q⟩ := h
 obtain ⟨u,w',rfl,r1,r2⟩ := zfa r
 cases (show w' = .type T from r2)
 exact zf2 I r1 ty e fun tk => ⟨.bl b,H,I.tok _,rfl,q⟩
@[simp] noncomputable def isiD (T : String) : D → Option Bool
  | .non => some false
  | .bl _ => some (decide (T = "int") || decide (T = "bool"))
  | .int _ => some (decide (T = "int"))
  | .lst _ => some (decide (T = "list"))
  | .tup _ => some (decide (T = "tuple"))
  | _ => none
@[simp] noncomputable def gIsi (T : String) (x : D) : Out Val := match isiD T x with
  | some b => .ok (.pers (.bl b))
  | none => .bad
structure IsiT (T : String) : Prop where
 mem : T = "int" ∨ T = "bool" ∨ T = "list" ∨ T = "tuple"
theorem zja {K : PySem.W.Frag} {T : String} (h : IsiT T) {G₀ H₀ : Hp} {env : Ev} {σ : St} {G H : Hp} {v : V} {d : D} {b : Bool} (I : DI K G₀ H₀ env σ G H) (o : Opd K env σ G v d) (e : isiD T d = some b) :
 ∃ t,TyOf K H v t ∧ PySem.W.kitOne K t (.type T) = some b := by
 cases d with
 | non =>
   cases e; rw [o.non]; refine ⟨_,.non,?_⟩
   rcases h.mem with rfl | rfl | rfl | rfl <;> kernel_rfl
 | bl c =>
   cases e; rw [o.bl]; refine ⟨_,.bl c,?_⟩
   rcases h.mem with rfl | rfl | rfl | rfl <;> kernel_rfl
 | int i =>
   cases e; rw [o.int]; refine ⟨_,.int i,?_⟩
   rcases h.mem with rfl | rfl | rfl | rfl <;> kernel_rfl
 | lst ds =>
   cases e
   obtain ⟨a,vs,rfl,h1,_⟩ := Opd.lst I o
   refine ⟨_,.lst h1,?_⟩
   rcases h.mem with rfl | rfl | rfl | rfl <;> kernel_rfl
 | tup ds =>
   cases e
   obtain ⟨a,vs,rfl,h1,_⟩ := Opd.tup I o
   refine ⟨_,.tup h1,?_⟩
   rcases h.mem with rfl | rfl | rfl | rfl <;> kernel_rfl
 | scr ns => cases e
 | exc c p => cases e
theorem zkD {X : Cx} {G₀ H₀ : Hp} {p p2 pos : Pos} {e : Expr} {f : FE} {xT : Str} {T : String} (hT : IsiT T) (he : DE X G₀ H₀ e f) (hm : X.mg "isinstance" = none) (hmT : X.mg xT = none) (hvT : bootBuiltins xT = some (.type T))
 (hg : Gl X "isinstance" := by rfl) (hgT : Gl X xT := by rfl) (hn : xT ≠ "__name__" := by decide) (hd : (xT == ("__debug__" : Str)) = false := by decide)
 (hs : starEach [e,.Name xT p2] X.env = (false,eval e X.env) :: starEach [.Name xT p2] X.env := by rfl) (hs2 : starEach [.Name xT p2] X.env = [(false,eval (.Name xT p2) X.env)] := by rfl) (hpl : (backTo pos (starEach [.Name xT p2] X.env)).any (·.1) = false := by rfl) :
 DE X G₀ H₀ (.Call (.Name "isinstance" p) [e,.Name xT p2] [] pos) (f1 (gIsi T) f) :=
 (vK zhN hg hm boot_isinstance (zU he (zU (ziV (v := .ty T) hgT hmT hvT rfl hn hd) yF hs2) hs) (by decide) (by decide) hs hpl).imp fun σ H Q q => by
  obtain ⟨env,G,val,I,e,k⟩ := q
  obtain ⟨x,e1,e⟩ := zk e
  refine xn I e1 fun v G' H' g l I' o => ?_
  unfold gIsi at e
  split at e
  ·rename_i b hb
   cases e
   obtain ⟨t,h1,h2⟩ := zja hT I' o hb
   exact ⟨v,t,T,b,rfl,h1,h2,k _ G' H' g l rfl⟩
  ·cases e
theorem zhE : IsiT "bool" := ⟨.inr (.inl rfl)⟩
noncomputable def ins (n : Int) : List Int → List Int
 | [] => [n]
 | m :: r => if n ≤ m then n :: m :: r else m :: ins n r
noncomputable def yG : List Int → List Int
 | [] => []
 | n :: r => ins n (yG r)
theorem za4 (n : Int) : ∀ l : List Int,(ins n l).Perm (n :: l)
 | [] => List.Perm.refl _
 | m :: r => by
   unfold ins
   split
   ·exact List.Perm.refl _
   ·exact ((za4 n r).cons m).trans (List.Perm.swap n m r)
theorem zS : ∀ l : List Int,(yG l).Perm l
 | [] => List.Perm.refl _
 | n :: r => (za4 n (yG r)).trans ((zS r).cons n)
theorem zav (n : Int) : ∀ l : List Int,l.Pairwise (· ≤ ·) → (ins n l).Pairwise (· ≤ ·)
 | [],_ => by simp [ins]
 | m :: r,h => by
   unfold ins
   have h' := List.pairwise_cons.mp h
   split
   ·rename_i hn
    refine List.pairwise_cons.mpr ⟨fun x hx => ?_,h⟩
    rcases List.mem_cons.mp hx with rfl | hx
    ·exact hn
    ·exact Int.le_trans hn (h'.1 x hx)
   ·rename_i hn
    refine List.pairwise_cons.mpr ⟨fun x hx => ?_,zav n r h'.2⟩
    rcases List.mem_cons.mp ((za4 n r).mem_iff.mp hx) with rfl | hx
    ·lia
    ·exact h'.1 x hx
theorem yj : ∀ l : List Int,(yG l).Pairwise (· ≤ ·)
 | [] => List.Pairwise.nil
 | n :: r => zav n _ (yj r)
theorem yv : ∀ {a b : List Int},a.Perm b → a.Pairwise (· ≤ ·) → b.Pairwise (· ≤ ·) → a = b
 | [],b,p,_,_ => by rw [List.Perm.nil_eq p]
 | x :: a,[],p,_,_ => by have := p.length_eq; simp at this
 | x :: a,y :: b,p,ha,hb => by
   have ha' := List.pairwise_cons.mp ha
   have hb' := List.pairwise_cons.mp hb
   have e : x = y := by
    have h1 : x ∈ y :: b := p.mem_iff.mp List.mem_cons_self
    have h2 : y ∈ x :: a := p.mem_iff.mpr List.mem_cons_self
    rcases List.mem_cons.mp h1 with h1 | h1
    ·exact h1
    ·rcases List.mem_cons.mp h2 with h2 | h2
     ·exact h2.symm
     ·exact Int.le_antisymm (ha'.1 y h2) (hb'.1 x h1)
   subst e
   rw [yv ((List.perm_cons x).mp p) ha'.2 hb'.2]
noncomputable def wI : List D → Option (List Int)
 | [] => some []
 | .int i :: ds => (wI ds).map (i :: ·)
 | _ :: _ => none
theorem wH : ∀ {ds : List D} {ns : List Int},wI ds = some ns → ds = ns.map .int
 | [],ns,h => by cases h; rfl
 | .int i :: ds,ns,h => by
   simp only [wI] at h
   cases q : wI ds with
   | none => rw [q] at h; cases h
   | some ms => rw [q] at h; cases h; rw [wH q]; rfl
 | .non :: ds,ns,h => by cases h
 | .bl _ :: ds,ns,h => by cases h
 | .tup _ :: ds,ns,h => by cases h
 | .lst _ :: ds,ns,h => by cases h
 | .scr _ :: ds,ns,h => by cases h
 | .exc _ _ :: ds,ns,h => by cases h
theorem xN : ∀ ns : List Int,wI (ns.map .int) = some ns
 | [] => rfl
 | n :: ns => by simp [wI,xN ns]
@[simp] noncomputable def tw : List D → Out Val
  | [.lst ds] => match wI ds with
    | some ns => if ns.length < 64 then .ok (.fresh ((yG ns).map .int)) else .bad
    | none => .bad
  | _ => .bad
theorem zde {X : Cx} : wj X (.builtin "sorted") (fun xs H Q => ∃ p ns,xs = [.ref p] ∧ H p = some (.lst (ns.map V.int)) ∧ ns.length < 64 ∧ ∀ l,H l = none → Q (.ref l) (upd H l (.lst ((yG ns).map V.int)))) := by
 intro pins s σ H xs us Q I r h
 obtain ⟨p,ns,rfl,hp,hl,q⟩ := h
 obtain ⟨u,rfl,r1⟩ := wk r
 cases (show u = .ref p from r1)
 obtain ⟨z,its,n,rv,hlen,e⟩ := I.lstM hp
 have hi : IntsAre its ns := wP rv
 have hn : its.length = ns.length := by rw [← hlen,List.length_map]
 refine sorted_ints (l := p) (vs := its) ⟨_,e,rfl,_,rfl⟩ hi (by lia) fun out ns' a1 a2 a3 => ?_
 have en : ns' = yG ns := yv (a2.trans (zS ns).symm) a3 (yj ns)
 subst en
 obtain ⟨c,he⟩ := sortedAll_at s.heap its out
 have hz : ((yG ns).map V.int).length ≤ sizeLine := by rw [List.length_map,(zS ns).length_eq,sizeLine_eq]; lia
 refine ⟨.ref (s.heap.objs.size + 1),_,I.laid (t' := s.toks) (o := .lst ((yG ns).map V.int)) (fun b o eb => sortedAll_old eb) (Nat.le_succ _) ?_,rfl,q _ (I.hok.fresh (Nat.le_succ _))⟩
 exact ⟨hz,out.toList,c,vA a1,by simpa [seqObj] using he⟩
theorem zgq {K : PySem.W.Frag} : zai K (fun xs H Q => ∃ p ns,xs = [.ref p] ∧ H p = some (.lst (ns.map V.int)) ∧ ns.length < 64 ∧ ∀ l,H l = none → Q (.ref l) (upd H l (.lst ((yG ns).map V.int)))) tw := by
 intro G₀ H₀ env σ G H vs xs val Q I a e k
 unfold tw at e
 split at e
 ·rename_i ds hx
  split at e
  ·rename_i ns hn
   split at e
   ·rename_i hl
    cases e
    obtain ⟨v,rfl,o⟩ := t6 a hx
    obtain ⟨p,us,rfl,h1,r1⟩ := Opd.lst I o
    rw [wH hn] at r1
    rw [r1.ints_of] at h1
    refine ⟨p,ns,rfl,h1,hl,fun l hl => ?_⟩
    have g := Grow.laidL (o := .lst ((yG ns).map V.int)) I.le hl
    exact k _ G _ g.1 g.2 (xP I.le hl (RepL.ints _))
   ·cases e
  ·cases e
 ·cases e
structure Cal (P : Program) (w : World) (K : PySem.W.Frag) (mg : Str → Option Value) (base : Heap) (k : Nat) (x : Str) (ps : List Str) (m : List D → Out Val) : Prop where
 ex : ∃ (f : Addr) (fd : FuncData),FnOk P w K mg base CX0 k f fd ps (spD K m ps.length) ∧ mg x = some (.ref f) ∧ PySem.W.keepIn K (.ref f) = true ∧ Binds K fd ps []
theorem Cal.mono {P : Program} {w : World} {K : PySem.W.Frag} {mg : Str → Option Value} {base : Heap} {j k : Nat} {x : Str} {ps : List Str} {m : List D → Out Val} (c : Cal P w K mg base j x ps m) (h : j ≤ k) : Cal P w K mg base k x ps m := by
 obtain ⟨f,fd,F,r⟩ := c.ex
 exact ⟨f,fd,F.mono h,r⟩
theorem Cal.imp {P : Program} {w : World} {K : PySem.W.Frag} {mg : Str → Option Value} {base : Heap} {k : Nat} {x : Str} {ps : List Str} {m m' : List D → Out Val} (c : Cal P w K mg base k x ps m) (h : ∀ ds v,ds.length = ps.length → m' ds = .ok v → m ds = .ok v) : Cal P w K mg base k x ps m' := by
 obtain ⟨f,fd,F,r⟩ := c.ex
 refine ⟨f,fd,F.imp fun vs H Q E q => ?_,r⟩
 obtain ⟨G,ds,val,h1,h2,h3,h4,h5⟩ := q
 exact ⟨G,ds,val,h1,h2,h3,h ds val h1 h4,h5⟩
section
variable {X : Cx} {G₀ H₀ : Hp} {k : Nat} {ps : List Str} {x : Str} {p pos : Pos} {e : Expr} {es : List Expr} {r : Ev → Out (List Val)} {m : List D → Out Val}
theorem zA (C : Cal X.prog X.w X.K X.mg X.base k x ps m) (hr : Room k X.A) (ha : DA X G₀ H₀ (e :: es) r)
 (hlen : ∀ env xs,r env = .ok xs → xs.length = ps.length) (hg : Gl X x := by rfl) (hdb : (x == ("__debug__" : Str)) = false := by decide) (he : starEach (e :: es) X.env = (false,eval e X.env) :: starEach es X.env := by rfl) (hpl : (backTo pos (starEach es X.env)).any (·.1) = false := by rfl) :
 DE X G₀ H₀ (.Call (.Name x p) (e :: es) [] pos) (zz m r) := by
 obtain ⟨f,fd,F,hm,hk,hb⟩ := C.ex
 exact zjr F hr hm hk hb ha hlen hg hdb he hpl
end
theorem zr : ∀ env xs,fNil env = .ok xs → xs.length = 0 := fun env xs h => by cases h; rfl
theorem ze {f : FE} {r : Ev → Out (List Val)} {n : Nat} (h : ∀ env xs,r env = .ok xs → xs.length = n) : ∀ env xs,zh f r env = .ok xs → xs.length = n + 1 := fun env xs e => by
 obtain ⟨x,_,e⟩ := zk e
 obtain ⟨ys,e2,e⟩ := zk e
 cases e
 simp [h env ys e2]
theorem hu20 {A : Around} {k : Nat} (hr : Room k A) : A.units + 20 < cLine := by have := hr.units; lia
@[simp] noncomputable def uP : D → Out Val
  | .lst ds => match wI ds with
    | some ns => if ns.length < 18 then .ok (.fresh ((yG ns.eraseDups).map .int)) else .bad
    | none => .bad
  | _ => .bad
end DL
namespace DL
open PySem PySem.Spec PyProof.Rows L2
theorem vO : ∀ (l m : List Nat),l.Nodup → (∀ x ∈ l,x ∈ m) → l.length ≤ m.length
 | [],m,_,_ => Nat.zero_le _
 | x :: l,m,hn,hs => by
   have hx : x ∈ m := hs x (.head _)
   have h2 := List.nodup_cons.mp hn
   have := vO l (m.erase x) h2.2 fun y hy => (List.mem_erase_of_ne (fun z : y = x => h2.1 (by rw [← z]; exact hy))).mpr (hs y (.tail _ hy))
   rw [List.length_erase_of_mem hx] at this
   have hp : 0 < m.length := List.length_pos_of_mem hx
   simp only [List.length_cons]
   lia
theorem tD (xs : List Nat) (n : Nat) (h : xs.length < n) : ∃ e,e < n ∧ e ∉ xs := by
 refine Classical.byContradiction fun hc => ?_
 have : ∀ x ∈ List.range n,x ∈ xs := fun x hx => Classical.byContradiction fun hh => hc ⟨x,List.mem_range.mp hx,hh⟩
 have h2 := vO (List.range n) xs List.nodup_range this
 rw [List.length_range] at h2
 lia
noncomputable def lp (mask : Nat) : Nat → Nat × Nat → Nat × Nat
 | 0,x => x
 | n + 1,x => lp mask n (SetTable.leap mask x.1 x.2)
theorem za2 (mask : Nat) : ∀ (n : Nat) (x : Nat × Nat),lp mask (n + 1) x = SetTable.leap mask (lp mask n x).1 (lp mask n x).2
 | 0,x => rfl
 | n + 1,x => za2 mask n _
theorem zik (mask : Nat) : ∀ (m n : Nat) (x : Nat × Nat),lp mask (m + n) x = lp mask n (lp mask m x)
 | 0,n,x => by rw [Nat.zero_add]; rfl
 | m + 1,n,x => by
   rw [Nat.add_right_comm]
   exact zik mask m n _
theorem zij (mask : Nat) : ∀ (n : Nat) (x : Nat × Nat),(lp mask n x).2 = x.2 / 32 ^ n
 | 0,x => by simp [lp]
 | n + 1,x => by
   rw [lp,zij mask n]
   simp only [SetTable.leap]
   rw [Nat.div_div_eq_div_mul,Nat.pow_succ,Nat.mul_comm]
theorem lp_lt (mask n : Nat) (x : Nat × Nat) (h : x.1 ≤ mask) : (lp mask n x).1 ≤ mask := by
 cases n with
 | zero => exact h
 | succ n =>
   rw [za2]
   simp only [SetTable.leap]
   have := Nat.mod_lt ((lp mask n x).1 * 5 + 1 + (lp mask n x).2 / 32) (show 0 < mask + 1 by lia)
   lia
noncomputable def lc (mask : Nat) : Nat → Nat → Nat
 | 0,i => i
 | n + 1,i => lc mask n ((i * 5 + 1) % (mask + 1))
theorem zfT (mask : Nat) : ∀ (n i : Nat),lp mask n (i,0) = (lc mask n i,0)
 | 0,i => rfl
 | n + 1,i => by
   show lp mask n (SetTable.leap mask i 0) = _
   simp only [SetTable.leap,Nat.zero_div,Nat.add_zero]
   exact zfT mask n _
noncomputable def lcAll (mask : Nat) : Bool := (List.range (mask + 1)).all fun i => (List.range (mask + 1)).all fun e => (List.range (mask + 1)).any fun m => lc mask m i == e
theorem zi6 : lcAll 7 = true := by decide +kernel
theorem zdY : lcAll 31 = true := by decide +kernel
theorem zi5 {mask i e : Nat} (h : lcAll mask = true) (hi : i ≤ mask) (he : e ≤ mask) : ∃ m,m ≤ mask ∧ lc mask m i = e := by
 unfold lcAll at h
 rw [List.all_eq_true] at h
 have h1 := h i (List.mem_range.mpr (by lia))
 rw [List.all_eq_true] at h1
 have h2 := h1 e (List.mem_range.mpr (by lia))
 rw [List.any_eq_true] at h2
 obtain ⟨m,hm,q⟩ := h2
 exact ⟨m,by have := List.mem_range.mp hm; lia,by simpa using q⟩
theorem zjx (h : Int) : SetTable.bits h < 2 ^ 64 := by
 unfold SetTable.bits
 have h1 := Int.emod_nonneg h (show (2 ^ 64 : Int) ≠ 0 by decide)
 have h2 := Int.emod_lt_of_pos h (show (0 : Int) < 2 ^ 64 by decide)
 lia
theorem zcT {mask e : Nat} {h : Int} {i : Nat} (ha : lcAll mask = true) (hi : i ≤ mask) (he : e ≤ mask) : ∃ n,n ≤ 13 + mask ∧ (lp mask n (i,SetTable.bits h)).1 = e := by
 have hz : (lp mask 13 (i,SetTable.bits h)).2 = 0 := by
  rw [zij]
  exact Nat.div_eq_of_lt (Nat.lt_of_lt_of_le (zjx h) (by decide))
 obtain ⟨m,hm,q⟩ := zi5 ha (lp_lt mask 13 (i,SetTable.bits h) hi) he
 refine ⟨13 + m,by lia,?_⟩
 rw [zik]
 have : lp mask 13 (i,SetTable.bits h) = ((lp mask 13 (i,SetTable.bits h)).1,0) := by rw [← hz]
 rw [this,zfT]
 exact q
noncomputable def advN (t : SetTable) : Nat → SetTable.Probe → SetTable.Probe
 | 0,p => p
 | n + 1,p => advN t n (t.advance p)
theorem wV (t : SetTable) : ∀ (m n : Nat) (p : SetTable.Probe),advN t (m + n) p = advN t n (advN t m p)
 | 0,n,p => by rw [Nat.zero_add]; rfl
 | m + 1,n,p => by rw [Nat.add_right_comm]; exact wV t m n _
noncomputable def runP (t : SetTable) (x : Nat × Nat) : SetTable.Probe := { j := x.1,more := SetTable.runEnd t.mask x.1 - x.1,i := x.1,perturb := x.2,dummy := none }
theorem zdq (t : SetTable) : ∀ (k : Nat) (p : SetTable.Probe),p.more = k → p.dummy = none → advN t (k + 1) p = runP t (SetTable.leap t.mask p.i p.perturb)
 | 0,p,h,hd => by
   show t.advance p = _
   unfold SetTable.advance
   rw [if_neg (by lia)]
   simp [runP,hd]
 | k + 1,p,h,hd => by
   have e : t.advance p = { p with j := p.j + 1,more := p.more - 1 } := by
    unfold SetTable.advance
    rw [if_pos (by lia)]
   show advN t (k + 1) (t.advance p) = _
   rw [e]
   exact zdq t k { p with j := p.j + 1,more := p.more - 1 } (by show p.more - 1 = k; lia) hd
theorem zfp (mask i : Nat) : SetTable.runEnd mask i - i ≤ 9 := by
 unfold SetTable.runEnd
 split <;> lia
theorem t8 (t : SetTable) (x : Nat × Nat) : ∀ n : Nat,∃ k,k ≤ 10 * n ∧ advN t k (runP t x) = runP t (lp t.mask n x)
 | 0 => ⟨0,Nat.zero_le _,rfl⟩
 | n + 1 => by
   obtain ⟨k,hk,e⟩ := t8 t x n
   have h9 := zfp t.mask (lp t.mask n x).1
   refine ⟨k + ((runP t (lp t.mask n x)).more + 1),?_,?_⟩
   ·show k + (SetTable.runEnd t.mask (lp t.mask n x).1 - (lp t.mask n x).1 + 1) ≤ _
    lia
   ·rw [wV,e,zdq t _ _ rfl rfl,za2]
    rfl
theorem vZ (t : SetTable) (p : SetTable.Probe) : (t.advance p).dummy = p.dummy := by
 unfold SetTable.advance
 split <;> rfl
theorem v4 {t : SetTable} (hd : t.dummies = #[]) (j : Nat) : t.slot j = .empty ∨ ∃ i,t.slot j = .live i := by
 unfold SetTable.slot
 dsimp only
 split
 ·exact .inr ⟨_,rfl⟩
 ·rw [hd,if_neg (by simp [SetTable.has])]
  exact .inl rfl
theorem zd4 {t : SetTable} {h : Int} (hd : t.dummies = #[]) : ∀ (k fuel : Nat) (p : SetTable.Probe),k < fuel → p.dummy = none → t.slot (advN t k p).j = .empty →
 ∃ j,SetTable.probe.go t (fun _ => h + 1) h fuel p = some (.empty j none) ∧ t.slot j = .empty
 | k,0,p,hk,_,_ => absurd hk (Nat.not_lt_zero _)
 | k,fuel + 1,p,hk,hp,hs => by
   unfold SetTable.probe.go
   rcases v4 hd p.j with e | ⟨i,e⟩
   ·rw [e]
    exact ⟨p.j,by simp [hp],e⟩
   ·rw [e]
    dsimp only
    have hne : (h + 1 == h) = false := by simp; lia
    rw [hne]
    cases k with
    | zero => rw [show (advN t 0 p).j = p.j from rfl,e] at hs; cases hs
    | succ k => exact zd4 hd k fuel (t.advance p) (by lia) (by rw [vZ]; exact hp) hs
theorem xo {t : SetTable} (hd : t.dummies = #[]) {j : Nat} (h : j ∉ t.place.toList) : t.slot j = .empty := by
 rcases v4 hd j with e | ⟨i,e⟩
 ·exact e
 ·unfold SetTable.slot at e
  dsimp only at e
  split at e
  ·rename_i hb
   have hb' : t.place[SetTable.below t.place j]? = some j := by simpa using hb
   rw [← Array.getElem?_toList] at hb'
   exact absurd (List.mem_of_getElem? hb') h
  ·rw [hd,if_neg (by simp [SetTable.has])] at e
   cases e
structure TabOk (t : SetTable) (n : Nat) : Prop where
 plain : t.plain = true
 dummies : t.dummies = #[]
 size : t.place.size = n
 rise : t.place.toList.Pairwise (· < ·)
 mask : (t.mask = 7 ∧ n < 5) ∨ (t.mask = 31 ∧ n < 19)
theorem TabOk.lcAll {t : SetTable} {n : Nat} (h : TabOk t n) : lcAll t.mask = true := by
 rcases h.mask with ⟨e,_⟩ | ⟨e,_⟩ <;> rw [e]
 ·exact zi6
 ·exact zdY
theorem zcZ {t : SetTable} {n : Nat} (T : TabOk t n) (h : Int) : ∃ j,t.freeSlot h = some (j,false) ∧ t.slot j = .empty := by
 obtain ⟨e,he,hm⟩ := tD t.place.toList (t.mask + 1) (by rw [Array.length_toList,T.size]; rcases T.mask with ⟨q,_⟩ | ⟨q,_⟩ <;> lia)
 have hi : SetTable.bits h % (t.mask + 1) ≤ t.mask := by
  have := Nat.mod_lt (SetTable.bits h) (show 0 < t.mask + 1 by lia)
  lia
 obtain ⟨m,hm1,hm2⟩ := zcT (h := h) T.lcAll hi (show e ≤ t.mask by lia)
 obtain ⟨k,hk1,hk2⟩ := t8 t (SetTable.bits h % (t.mask + 1),SetTable.bits h) m
 obtain ⟨j,hj,hs⟩ := zd4 (h := h) T.dummies k (10 * SetTable.turns t.mask) (t.probeStart h) (by unfold SetTable.turns; lia) rfl (by
  show t.slot (advN t k (runP t (SetTable.bits h % (t.mask + 1),SetTable.bits h))).j = .empty
  rw [hk2]
  show t.slot (lp t.mask m _).1 = .empty
  rw [hm2]
  exact xo T.dummies hm)
 refine ⟨j,?_,hs⟩
 unfold SetTable.freeSlot SetTable.probe
 rw [hj]
 rfl
theorem zbm {xs : Array Nat} {j : Nat} (hr : xs.toList.Pairwise (· < ·)) : ∀ (fuel lo hi : Nat),hi - lo ≤ fuel → lo ≤ hi → hi ≤ xs.size → (∀ i x,i < lo → xs[i]? = some x → x < j) → (∀ i x,hi ≤ i → xs[i]? = some x → j ≤ x) →
 SetTable.below.go xs j fuel lo hi ≤ xs.size ∧ (∀ i x,i < SetTable.below.go xs j fuel lo hi → xs[i]? = some x → x < j) ∧ (∀ i x,SetTable.below.go xs j fuel lo hi ≤ i → xs[i]? = some x → j ≤ x)
 | 0,lo,hi,h1,h2,h3,h4,h5 => by
   have : lo = hi := by lia
   subst this
   exact ⟨h3,h4,h5⟩
 | fuel + 1,lo,hi,h1,h2,h3,h4,h5 => by
   unfold SetTable.below.go
   by_cases hlt : lo < hi
   ·rw [if_pos hlt]
    dsimp only
    have hmid : (lo + hi) / 2 < xs.size := by lia
    have hrel : ∀ (a b x y : Nat),a < b → xs[a]? = some x → xs[b]? = some y → x < y := by
     intro a b x y hab ha hb
     rw [← Array.getElem?_toList] at ha hb
     obtain ⟨ha1,rfl⟩ := List.getElem?_eq_some_iff.mp ha
     obtain ⟨hb1,rfl⟩ := List.getElem?_eq_some_iff.mp hb
     exact List.pairwise_iff_getElem.mp hr a b ha1 hb1 hab
    have hg : xs.getD ((lo + hi) / 2) j = xs[(lo + hi) / 2] := by simp [Array.getD,hmid]
    rw [hg]
    by_cases hc : xs[(lo + hi) / 2] < j
    ·rw [if_pos hc]
     refine zbm hr fuel _ hi (by lia) (by lia) h3 (fun i x hi' hx => ?_) h5
     by_cases hi2 : i = (lo + hi) / 2
     ·subst hi2
      rw [Array.getElem?_eq_getElem hmid] at hx
      cases hx
      exact hc
     ·have := hrel i ((lo + hi) / 2) x _ (by lia) hx (Array.getElem?_eq_getElem hmid)
      lia
    ·rw [if_neg hc]
     refine zbm hr fuel lo _ (by lia) (by lia) (by lia) h4 (fun i x hi' hx => ?_)
     by_cases hi2 : i = (lo + hi) / 2
     ·subst hi2
      rw [Array.getElem?_eq_getElem hmid] at hx
      cases hx
      lia
     ·have := hrel ((lo + hi) / 2) i _ x (by lia) (Array.getElem?_eq_getElem hmid) hx
      lia
   ·rw [if_neg hlt]
    have : lo = hi := by lia
    subst this
    exact ⟨h3,h4,h5⟩
theorem zbl {xs : Array Nat} (j : Nat) (hr : xs.toList.Pairwise (· < ·)) :
 SetTable.below xs j ≤ xs.size ∧ (∀ i x,i < SetTable.below xs j → xs[i]? = some x → x < j) ∧ (∀ i x,SetTable.below xs j ≤ i → xs[i]? = some x → j ≤ x) :=
 zbm hr xs.size 0 xs.size (by lia) (by lia) (Nat.le_refl _) (fun _ _ h => absurd h (Nat.not_lt_zero _)) fun i x h hx => by
  rw [Array.getElem?_eq_none h] at hx; cases hx
theorem ze3 {xs : Array Nat} {i : Nat} (hr : xs.toList.Pairwise (· < ·)) (slot : Nat) (h0 : i = 0 → slot = 0) (h1 : ∀ k x,i = k + 1 → xs[k]? = some x → slot = x + 1) (hi : i ≤ xs.size) : SetTable.below xs slot = i := by
 obtain ⟨b1,b2,b3⟩ := zbl slot hr
 have hrel : ∀ (a b x y : Nat),a < b → xs[a]? = some x → xs[b]? = some y → x < y := by
  intro a b x y hab ha hb
  rw [← Array.getElem?_toList] at ha hb
  obtain ⟨ha1,rfl⟩ := List.getElem?_eq_some_iff.mp ha
  obtain ⟨hb1,rfl⟩ := List.getElem?_eq_some_iff.mp hb
  exact List.pairwise_iff_getElem.mp hr a b ha1 hb1 hab
 rcases Nat.lt_trichotomy (SetTable.below xs slot) i with hlt | heq | hgt
 ·cases i with
  | zero => exact absurd hlt (Nat.not_lt_zero _)
  | succ k =>
    have hk : k < xs.size := by lia
    have e := h1 k _ rfl (Array.getElem?_eq_getElem hk)
    have := b3 k _ (by lia) (Array.getElem?_eq_getElem hk)
    lia
 ·exact heq
 ·have hii : i < xs.size := by lia
  have hx := b2 i _ hgt (Array.getElem?_eq_getElem hii)
  cases i with
  | zero => rw [h0 rfl] at hx; lia
  | succ k =>
    have hk : k < xs.size := by lia
    have e := h1 k _ rfl (Array.getElem?_eq_getElem hk)
    have := hrel k (k + 1) _ _ (Nat.lt_succ_self _) (Array.getElem?_eq_getElem hk) (Array.getElem?_eq_getElem hii)
    lia
theorem zh9 {t : SetTable} {n j : Nat} (T : TabOk t n) (hs : t.slot j = .empty) : (t.put j).1 = { t with place := SetTable.insertAt t.place (t.put j).2 j } ∧ (SetTable.insertAt t.place (t.put j).2 j).toList.Pairwise (· < ·) ∧ (t.put j).2 ≤ n := by
 have hp : (t.put j).2 = SetTable.below t.place j := rfl
 obtain ⟨b1,b2,b3⟩ := zbl j T.rise
 refine ⟨?_,?_,by rw [hp,← T.size]; exact b1⟩
 ·unfold SetTable.put
  dsimp only
  rw [T.dummies,if_neg (by simp [SetTable.has])]
 ·rw [hp,SetTable.toList_insertAt]
  have hne : t.place[SetTable.below t.place j]? ≠ some j := by
   unfold SetTable.slot at hs
   dsimp only at hs
   split at hs
   ·cases hs
   ·rename_i hb
    simpa using hb
  have hrel : ∀ (a b x y : Nat),a < b → t.place[a]? = some x → t.place[b]? = some y → x < y := by
   intro a b x y hab ha hb
   rw [← Array.getElem?_toList] at ha hb
   obtain ⟨ha1,rfl⟩ := List.getElem?_eq_some_iff.mp ha
   obtain ⟨hb1,rfl⟩ := List.getElem?_eq_some_iff.mp hb
   exact List.pairwise_iff_getElem.mp T.rise a b ha1 hb1 hab
  have hlow : ∀ x ∈ t.place.toList.take (SetTable.below t.place j),x < j := by
   intro x hx
   obtain ⟨i,hi⟩ := List.getElem?_of_mem hx
   rw [List.getElem?_take] at hi
   split at hi
   ·rename_i h1
    rw [Array.getElem?_toList] at hi
    exact b2 i x h1 hi
   ·cases hi
  have hhigh : ∀ x ∈ t.place.toList.drop (SetTable.below t.place j),j < x := by
   intro x hx
   obtain ⟨i,hi⟩ := List.getElem?_of_mem hx
   rw [List.getElem?_drop,Array.getElem?_toList] at hi
   have h1 := b3 (SetTable.below t.place j + i) x (by lia) hi
   rcases Nat.lt_or_eq_of_le h1 with h2 | h2
   ·exact h2
   ·subst h2
    exfalso
    cases i with
    | zero => exact hne hi
    | succ i =>
      have hb : SetTable.below t.place j < t.place.size := by
       have := Array.getElem?_eq_some_iff.mp hi
       obtain ⟨q,_⟩ := this
       lia
      have q1 := b3 _ _ (Nat.le_refl _) (Array.getElem?_eq_getElem hb)
      have q2 := hrel _ _ _ _ (show SetTable.below t.place j < SetTable.below t.place j + (i + 1) by lia) (Array.getElem?_eq_getElem hb) hi
      lia
  rw [List.pairwise_append]
  refine ⟨T.rise.sublist (List.take_sublist _ _),?_,?_⟩
  ·rw [List.pairwise_cons]
   exact ⟨hhigh,T.rise.sublist (List.drop_sublist _ _)⟩
  ·intro a ha b hb
   rcases List.mem_cons.mp hb with rfl | hb
   ·exact hlow a ha
   ·exact Nat.lt_trans (hlow a ha) (hhigh b hb)
end DL
namespace DL
open PySem PySem.Spec PyProof.Rows L2
theorem zfZ {t : SetTable} {es : Array (Int × Value)} (T : TabOk t es.size) (hn : es.size < 18) (h : Int) (x : Value) :
 ∃ p j,p ≤ es.size ∧ layNew t es h x = (SetTable.insertAt es p (h,x),{ t with place := SetTable.insertAt t.place p j },false,false) ∧ (SetTable.insertAt t.place p j).toList.Pairwise (· < ·)
   ∧ (SetTable.insertAt es p (h,x)).size = es.size + 1 ∧ (SetTable.insertAt t.place p j).size = es.size + 1 := by
 obtain ⟨j,hj,hs⟩ := zcZ T h
 obtain ⟨h1,h2,h3⟩ := zh9 T hs
 have z1 : (SetTable.insertAt es (t.put j).2 (h,x)).size = es.size + 1 := by
  have := (SetTable.insertAt_perm es (t.put j).2 (h,x)).length_eq
  simpa using this
 have z2 : (SetTable.insertAt t.place (t.put j).2 j).size = es.size + 1 := by
  have := (SetTable.insertAt_perm t.place (t.put j).2 j).length_eq
  rw [← T.size]
  simpa using this
 have hfit : SetTable.fits { t with place := SetTable.insertAt t.place (t.put j).2 j } (es.size + 1) = true := by
  unfold SetTable.fits SetTable.fill
  rw [z2,T.dummies]
  rcases T.mask with ⟨q,_⟩ | ⟨q,_⟩ <;> rw [q] <;> simp <;> lia
 refine ⟨(t.put j).2,j,h3,?_,h2,z1,z2⟩
 unfold layNew
 rw [hj]
 dsimp only
 rw [h1,z1]
 unfold SetTable.orStandIn
 rw [hfit]
 rfl
theorem zbA : ∀ (l : List (Option Nat)) (j k : Nat),l[j]? = some none → List.Perm ((l.set j (some k)).filterMap id) (k :: l.filterMap id)
 | [],j,k,h => by simp at h
 | a :: l,0,k,h => by
   simp at h
   subst h
   simp
 | a :: l,j + 1,k,h => by
   have ih := zbA l j k (by simpa using h)
   cases a with
   | none => simpa using ih
   | some b =>
     simp only [List.set_cons_succ,List.filterMap_cons,id]
     exact (ih.cons b).trans (.swap k b _)
theorem zez {owner : Array (Option Nat)} {n k : Nat} (hs : owner.size = n) (hp : List.Perm (owner.toList.filterMap id) (List.range k)) (hk : k < n) : ∃ e,e < n ∧ owner[e]? = some none := by
 refine Classical.byContradiction fun hc => ?_
 have hall : ∀ a ∈ owner.toList,a ≠ none := by
  intro a ha z
  subst z
  obtain ⟨i,hi⟩ := List.getElem?_of_mem ha
  rw [Array.getElem?_toList] at hi
  obtain ⟨q,_⟩ := Array.getElem?_eq_some_iff.mp hi
  exact hc ⟨i,by lia,hi⟩
 have hlen : ∀ l : List (Option Nat),(∀ a ∈ l,a ≠ none) → (l.filterMap id).length = l.length := by
  intro l
  induction l with
  | nil => intro _; rfl
  | cons a l ih =>
    intro h
    cases a with
    | none => exact absurd rfl (h none (.head _))
    | some b =>
      simp only [List.filterMap_cons,id,List.length_cons]
      rw [ih fun a ha => h a (.tail _ ha)]
 have h1 := hlen owner.toList hall
 rw [hp.length_eq,List.length_range,Array.length_toList] at h1
 lia
theorem zaw {mask e : Nat} {owner : Array (Option Nat)} (he : owner[e]? = some none) : ∀ (n fuel : Nat) (i p : Nat),n < fuel → (lp mask n (i,p)).1 = e → ∃ j,SetTable.layClean.free mask owner fuel i p = some j ∧ owner[j]? = some none
 | n,0,i,p,h,_ => absurd h (Nat.not_lt_zero _)
 | n,fuel + 1,i,p,h,hq => by
   unfold SetTable.layClean.free
   cases hf : (List.range (SetTable.runEnd mask i + 1 - i)).find? fun k => (owner.getD (i + k) (some 0)).isNone with
   | some k =>
     dsimp only
     refine ⟨i + k,rfl,?_⟩
     have := List.find?_some hf
     simp only [Option.isNone_iff_eq_none] at this
     by_cases hb : i + k < owner.size
     ·rw [Array.getElem?_eq_getElem hb]
      simp only [Array.getD,hb,dite_true] at this
      simpa using this
     ·simp [Array.getD,hb] at this
   | none =>
     dsimp only
     cases n with
     | zero =>
       exfalso
       have : i = e := hq
       subst this
       rw [List.find?_eq_none] at hf
       have h1 := hf 0 (List.mem_range.mpr (by unfold SetTable.runEnd; split <;> lia))
       apply h1
       obtain ⟨q,q2⟩ := Array.getElem?_eq_some_iff.mp he
       simp [Array.getD,q,q2]
     | succ n => exact zaw he n fuel _ _ (by lia) hq
theorem tj (hs : List Int) : ∀ (owner : Array (Option Nat)) (k : Nat),owner.size = 32 → List.Perm (owner.toList.filterMap id) (List.range k) → k + hs.length < 32 →
 ∃ owner',(hs.foldl (init := some (owner,k)) fun acc h => do
   let (owner,k) ← acc
   let j ← SetTable.layClean.free 31 owner (SetTable.turns 31) (SetTable.bits h % (31 + 1)) (SetTable.bits h)
   pure (owner.setIfInBounds j (some k),k + 1)) = some (owner',k + hs.length) ∧ owner'.size = 32 ∧ List.Perm (owner'.toList.filterMap id) (List.range (k + hs.length)) := by
 induction hs with
 | nil => intro owner k h1 h2 h3; exact ⟨owner,rfl,h1,h2⟩
 | cons h hs ih =>
   intro owner k h1 h2 h3
   obtain ⟨e,he1,he2⟩ := zez h1 h2 (by lia)
   have hi : SetTable.bits h % (31 + 1) ≤ 31 := by
    have := Nat.mod_lt (SetTable.bits h) (show 0 < 31 + 1 by lia)
    lia
   obtain ⟨n,hn1,hn2⟩ := zcT (h := h) zdY hi (show e ≤ 31 by lia)
   obtain ⟨j,hj1,hj2⟩ := zaw he2 n (SetTable.turns 31) _ _ (by unfold SetTable.turns; lia) hn2
   have hjl : j < owner.size := (Array.getElem?_eq_some_iff.mp hj2).1
   obtain ⟨o',e1,e2,e3⟩ := ih (owner.setIfInBounds j (some k)) (k + 1) (by simpa using h1) (by
    have hp := zbA owner.toList j k (by rw [Array.getElem?_toList]; exact hj2)
    have : (owner.setIfInBounds j (some k)).toList = owner.toList.set j (some k) := by simp
    rw [this,List.range_succ]
    exact hp.trans ((h2.cons k).trans (List.perm_append_singleton k _).symm)) (by simp at h3; lia)
   refine ⟨o',?_,e2,?_⟩
   ·rw [List.foldl_cons]
    have : (do
     let (owner,k) ← some (owner,k)
     let j ← SetTable.layClean.free 31 owner (SetTable.turns 31) (SetTable.bits h % (31 + 1)) (SetTable.bits h)
     pure (owner.setIfInBounds j (some k),k + 1)) = some (owner.setIfInBounds j (some k),k + 1) := by
     show (SetTable.layClean.free 31 owner (SetTable.turns 31) (SetTable.bits h % (31 + 1)) (SetTable.bits h)).bind _ = _
     rw [hj1]
     rfl
    rw [this,e1]
    simp [Nat.add_assoc,Nat.add_comm 1]
   ·have : k + (h :: hs).length = k + 1 + hs.length := by simp; lia
    rw [this]
    exact e3
theorem zdW (owner : Array (Option Nat)) (n : Nat) : (((List.range n).filterMap fun j => (owner.getD j none).map (j,·)).map (·.1)).Pairwise (· < ·) := by
 rw [List.pairwise_map,List.pairwise_filterMap]
 refine List.Pairwise.imp ?_ List.pairwise_lt_range
 intro a b hab x hx y hy
 cases q1 : owner.getD a none with
 | none => rw [q1] at hx; cases hx
 | some u =>
   cases q2 : owner.getD b none with
   | none => rw [q2] at hy; cases hy
   | some v => rw [q1] at hx; rw [q2] at hy; cases hx; cases hy; exact hab
theorem zdV (owner : Array (Option Nat)) : (((List.range owner.size).filterMap fun j => (owner.getD j none).map (j,·)).map (·.2)) = owner.toList.filterMap id := by
 rw [List.map_filterMap]
 have h1 : owner.toList = (List.range owner.size).map fun j => owner.getD j none := by
  apply List.ext_getElem?
  intro i
  rw [Array.getElem?_toList,List.getElem?_map]
  by_cases hi : i < owner.size
  ·rw [List.getElem?_range hi,Array.getElem?_eq_getElem hi]
   simp [Array.getD,hi]
  ·rw [Array.getElem?_eq_none (by lia),List.getElem?_eq_none (by simpa using hi)]
   rfl
 rw [h1,List.filterMap_map]
 congr 1
 funext j
 simp only [Function.comp]
 cases owner.getD j none <;> rfl
theorem zfu (t : SetTable) (es : Array (Int × Value)) (hp : t.plain = true) (hn : es.size = 5) :
 ∃ es' t',relayAll t es (SetTable.grown es.size) = (es',t',false) ∧ TabOk t' es'.size ∧ t'.led = t.led ∧ List.Perm es'.toList es.toList ∧ es'.size = 5 := by
 have hw : SetTable.sizeAbove (SetTable.grown es.size) - 1 = 31 := by rw [hn]; decide
 obtain ⟨owner,e1,e2,e3⟩ := tj (es.map (·.1)).toList (Array.replicate 32 none) 0 (by simp) (by
  have : (Array.replicate 32 (none : Option Nat)).toList.filterMap id = [] := by decide
  rw [this]; exact .nil) (by simp; lia)
 have hl : SetTable.layClean 31 (es.map (·.1)) = some owner := by
  unfold SetTable.layClean
  rw [← Array.foldl_toList]
  rw [e1]
  rfl
 have h5 : 0 + (es.map (·.1)).toList.length = 5 := by simp [hn]
 rw [h5] at e3
 have hr : t.relaid (es.map (·.1)) (SetTable.grown es.size) = some ({ mask := 31,place := (((List.range 32).filterMap fun j => (owner.getD j none).map (j,·)).map (·.1)).toArray,dummies := #[],finger := t.finger,led := t.led,moves := t.movedTo 31,plain := t.plain },(((List.range 32).filterMap fun j => (owner.getD j none).map (j,·)).map (·.2)).toArray) := by
  unfold SetTable.relaid SetTable.laid
  rw [hw,hl]
  rfl
 have h2 := zdV owner
 rw [e2] at h2
 have hlen : (((List.range 32).filterMap fun j => (owner.getD j none).map (j,·))).length = 5 := by
  have : ((((List.range 32).filterMap fun j => (owner.getD j none).map (j,·))).map (·.2)).length = 5 := by
   rw [h2,e3.length_eq,List.length_range]
  simpa using this
 have hcov : coversAll (((List.range 32).filterMap fun j => (owner.getD j none).map (j,·)).map (·.2)).toArray es.size = true := by
  unfold coversAll
  rw [List.isPerm_iff,hn]
  rw [h2]
  exact e3
 have hperm : List.Perm ((((List.range 32).filterMap fun j => (owner.getD j none).map (j,·)).map (·.2)).toArray.filterMap (es[·]?)).toList es.toList := by
  rw [Array.toList_filterMap,h2]
  exact ((e3.filterMap _).trans (by rw [← hn]; exact List.Perm.of_eq (filterMap_getElem?_range es)))
 have hsz : ((((List.range 32).filterMap fun j => (owner.getD j none).map (j,·)).map (·.2)).toArray.filterMap (es[·]?)).size = 5 := by
  rw [← Array.length_toList,hperm.length_eq,Array.length_toList,hn]
 refine ⟨_,{ mask := 31,place := (((List.range 32).filterMap fun j => (owner.getD j none).map (j,·)).map (·.1)).toArray,dummies := #[],finger := t.finger,led := t.led,moves := t.movedTo 31,plain := t.plain },?_,?_,?_,hperm,hsz⟩
 rotate_left
 ·rw [hsz]
  exact ⟨hp,rfl,by simpa using hlen,by simpa using zdW owner 32,.inr ⟨rfl,by lia⟩⟩
 ·rfl
 ·unfold relayAll
  rw [hr]
  dsimp only
  rw [hcov]
  have hf : SetTable.fits { mask := 31,place := (((List.range 32).filterMap fun j => (owner.getD j none).map (j,·)).map (·.1)).toArray,dummies := #[],finger := t.finger,led := t.led,moves := t.movedTo 31,plain := t.plain } ((((List.range 32).filterMap fun j => (owner.getD j none).map (j,·)).map (·.2)).toArray.filterMap (es[·]?)).size = true := by
   unfold SetTable.fits SetTable.fill
   rw [hsz]
   simp only [List.size_toArray,List.length_map,hlen]
   rfl
  rw [hf]
  rfl
end DL
namespace DL
open PySem PySem.Spec PyProof.Rows L2
noncomputable def keyE (e : Int × Value) : Int := match e.2 with
 | .int k _ => k
 | _ => 0
structure EsOk (es : List (Int × Value)) (ns : List Int) : Prop where
 all : ∀ e ∈ es,∃ (k : Int) (t : Tok),e = (hashInt k,.int k t)
 perm : (es.map keyE).Perm ns
theorem EsOk.nil : EsOk [] [] := ⟨fun e h => (List.not_mem_nil h).elim,List.Perm.nil⟩
theorem EsOk.of_perm {es es' : List (Int × Value)} {ns : List Int} (h : EsOk es ns) (p : es'.Perm es) : EsOk es' ns :=
 ⟨fun e he => h.all e (p.mem_iff.mp he),(p.map keyE).trans h.perm⟩
theorem EsOk.push {es : List (Int × Value)} {ns : List Int} (h : EsOk es ns) (k : Int) (t : Tok) : EsOk (es ++ [(hashInt k,.int k t)]) (ns ++ [k]) :=
 ⟨fun e he => by
  rcases List.mem_append.mp he with he | he
  ·exact h.all e he
  ·rw [List.mem_singleton] at he; exact ⟨k,t,he⟩,by
  rw [List.map_append]
  exact h.perm.append (.refl _)⟩
theorem EsOk.length {es : List (Int × Value)} {ns : List Int} (h : EsOk es ns) : es.length = ns.length := by
 rw [← h.perm.length_eq,List.length_map]
theorem EsOk.elems {prog : Program} {w : World} {es : List (Int × Value)} {ns : List Int} (h : EsOk es ns) : ElemsOf (intKind prog w) es := fun e he => by
 obtain ⟨k,t,rfl⟩ := h.all e he
 exact ⟨⟨k,intKind_is _ _ _ _,rfl⟩,rfl⟩
theorem EsOk.mem {prog : Program} {w : World} {es : List (Int × Value)} {ns : List Int} (h : EsOk es ns) (k : Int) : k ∈ ns ↔ ∃ e ∈ es,(intKind prog w).is k e.2 = true := by
 rw [← h.perm.mem_iff,List.mem_map]
 constructor
 ·rintro ⟨e,he,rfl⟩
  obtain ⟨k,t,rfl⟩ := h.all e he
  exact ⟨_,he,intKind_is _ _ _ _⟩
 ·rintro ⟨e,he,q⟩
  obtain ⟨k',t,rfl⟩ := h.all e he
  refine ⟨_,he,?_⟩
  exact (intKind prog w).inj _ _ _ (intKind_is _ _ _ _) q
structure SetAt (w : World) (h : Heap) (a : Addr) (es : Array (Int × Value)) (ep : Nat) (t : SetTable) : Prop where
 ex : ∃ o : Obj,h.get? a = some o ∧ o.ExactSet ∧ o.data = .set es ep t
 tab : TabOk t es.size
 led : t.led = !w.params.followText "set-order"
theorem TabOk.fits {t : SetTable} {n : Nat} (T : TabOk t n) : t.fits n = true := by
 unfold SetTable.fits SetTable.fill
 rw [T.size,T.dummies]
 rcases T.mask with ⟨q,_⟩ | ⟨q,_⟩ <;> rw [q] <;> simp <;> lia
theorem SetAt.keep {w : World} {h h' : Heap} {a : Addr} {es : Array (Int × Value)} {ep : Nat} {t : SetTable} (S : SetAt w h a es ep t) (hk : ∀ o,h.get? a = some o → h'.get? a = some o) : SetAt w h' a es ep t := by
 obtain ⟨o,ho,r⟩ := S.ex
 exact ⟨⟨o,hk o ho,r⟩,S.tab,S.led⟩
theorem SetAt.typeIs {w : World} {s : Shared} {a : Addr} {es : Array (Int × Value)} {ep : Nat} {t : SetTable} (S : SetAt w s.heap a es ep t) : s.TypeIs (.ref a) "set" := by
 obtain ⟨o,ho,hx,_⟩ := S.ex
 exact ⟨o,ho,hx.1⟩
theorem SetAt.lt {w : World} {h : Heap} {a : Addr} {es : Array (Int × Value)} {ep : Nat} {t : SetTable} (S : SetAt w h a es ep t) : a < h.objs.size := by
 obtain ⟨o,ho,_⟩ := S.ex
 exact Heap.lt_size ho
theorem SetAt.store {w : World} {h : Heap} {a : Addr} {es : Array (Int × Value)} {ep : Nat} {t : SetTable} (S : SetAt w h a es ep t) {es' : Array (Int × Value)} {t' : SetTable} (T : TabOk t' es'.size) (hl : t'.led = t.led) :
 SetAt w (h.update a (Obj.putSet es' t')) a es' (ep + 1) t' := by
 obtain ⟨o,ho,hx,hd⟩ := S.ex
 have hg : (h.update a (Obj.putSet es' t')).get? a = some { o with data := .set es' (ep + 1) t' } := by
  have := Heap.get?_update_self (Obj.putSet es' t') ho (by rw [putSet_of es' t' hd]; rfl)
  rw [putSet_of es' t' hd] at this
  exact this
 exact ⟨⟨_,hg,hx,rfl⟩,T,hl.trans S.led⟩
section
variable {prog : Program} {w : World} {A : Around} {E : Value → Shared → Prop} {s : Shared}
theorem ziD {a : Addr} {es : Array (Int × Value)} {ep : Nat} {tb : SetTable} {ns : List Int} {k : Int} {t : Tok} {Q : Bool → Shared → Prop} (S : SetAt w s.heap a es ep tb) (hE : EsOk es.toList ns) (hn : ns.length < 18)
 (h : ∀ b h' es' ep' tb',Heap.SameBut a s.heap h' → SetAt w h' a es' ep' tb' → EsOk es'.toList (if k ∈ ns then ns else ns ++ [k]) → Q b { s with heap := h',toks := s.toks + 1 }) :
 wpAny (model prog w) A (setAdd a (.int k t)) Q E s := by
 have hsz : es.size = ns.length := by rw [← Array.length_toList]; exact hE.length
 unfold setAdd
 refine wpAny_holding ?_
 refine wpAny_bind ((intKind prog w).pyHash (k := k) (intKind_is _ _ _ _) ?_)
 obtain ⟨o,ho,hx,hd⟩ := S.ex
 have hf := S.tab.fits
 have hb : es.size < scanBound := by unfold scanBound; lia
 unfold setAddHashed setAddHashedIn
 refine wpAny_holding (wpAny_bind (wpAny_setState_of (s := { s with toks := s.toks + 1 }) ho hd hf ?_))
 dsimp only
 rw [byScan_of (knd := intKind prog w) rfl hb hE.elems]
 simp only [↓reduceIte]
 unfold setAddByScan
 refine wpAny_bind (wpAny_bind (wpAny_rule (wpAny_bind (wpAny_setScan_of (knd := intKind prog w) (intKind_is _ _ k t) ho hd hf hE.elems ?_))))
 cases hr : List.findIdx? (fun e => (intKind prog w).is k e.2) es.toList with
 | some j =>
   dsimp only
   obtain ⟨hj,hpj,_⟩ := List.findIdx?_eq_some_iff_getElem.mp hr
   have hk : k ∈ ns := (hE.mem (prog := prog) (w := w) k).mpr ⟨es.toList[j],List.getElem_mem hj,hpj⟩
   refine wpAny_pure (wpAny_pure ?_)
   have := h false s.heap es ep tb (Heap.SameBut.refl a s.heap) S (by rw [if_pos hk]; exact hE)
   exact this
 | none =>
   dsimp only
   have hk : ¬ k ∈ ns := fun hh => by
    obtain ⟨e,he,q⟩ := (hE.mem (prog := prog) (w := w) k).mp hh
    have := List.findIdx?_eq_none_iff.mp hr e he
    rw [q] at this
    cases this
   rw [if_neg hk] at h
   obtain ⟨p,j,hp,hL,hrise,z1,z2⟩ := zfZ S.tab (by lia) ((intKind prog w).hash k) (.int k t)
   have hperm := layNew_perm tb es ((intKind prog w).hash k) (.int k t)
   obtain ⟨tb1,htb⟩ : ∃ x,x = ({ tb with place := SetTable.insertAt tb.place p j } : SetTable) := ⟨_,rfl⟩
   have y1 : tb1.plain = true := by rw [htb]; exact S.tab.plain
   have y2 : tb1.dummies = #[] := by rw [htb]; exact S.tab.dummies
   have y3 : tb1.mask = tb.mask := by rw [htb]
   have y4 : tb1.led = tb.led := by rw [htb]
   have y5 : tb1.place.size = es.size + 1 := by rw [htb]; exact z2
   have y6 : tb1.place.toList.Pairwise (· < ·) := by rw [htb]; exact hrise
   rw [← htb] at hL
   rw [hL] at hperm
   rw [hL]
   dsimp only at hperm ⊢
   rw [Array.toList_push] at hperm
   have hE1 := (hE.push k t).of_perm hperm
   refine wpAny_bind (wpAny_pure ?_)
   rw [y1]
   simp only [↓reduceIte]
   rw [hashByValue_scannable 8 (show (Value.int k t).scannable = true from rfl)]
   refine wpAny_bind (wpAny_pure ?_)
   simp only [plainKind,↓reduceIte,Bool.not_false,Bool.true_and]
   refine wpAny_bind (wpAny_storeSet_of (s := { s with toks := s.toks + 1 }) ho hd ?_ (by rw [z1,sizeLine_eq]; lia))
   dsimp only
   by_cases h5 : tb.mask = 7 ∧ es.size = 4
   ·have htf : SetTable.tooFull tb1 = true := by
     unfold SetTable.tooFull SetTable.fill
     rw [y5,y2,y3,h5.1,h5.2]
     rfl
    rw [if_pos htf]
    have hp1 := y1
    obtain ⟨es2,t2,e2,T2,l2,p2,z3⟩ := zfu tb1 (SetTable.insertAt es p ((intKind prog w).hash k,.int k t)) hp1 (by rw [z1,h5.2])
    rw [e2]
    dsimp only
    refine wpAny_bind (wpAny_pure ?_)
    have hg : (s.heap.update a (Obj.putSet (SetTable.insertAt es p ((intKind prog w).hash k,.int k t)) tb1)).get? a = some { o with data := .set (SetTable.insertAt es p ((intKind prog w).hash k,.int k t)) (ep + 1) tb1 } := by
     have := Heap.get?_update_self (Obj.putSet (SetTable.insertAt es p ((intKind prog w).hash k,.int k t)) tb1) ho (by rw [putSet_of _ _ hd]; rfl)
     rw [putSet_of _ _ hd] at this
     exact this
    refine wpAny_bind (wpAny_storeSet_of hg rfl ?_ (by rw [z3,sizeLine_eq]; lia))
    refine wpAny_pure (wpAny_pure (h true _ es2 (ep + 1 + 1) t2 ((Heap.SameBut.update s.heap a _).trans (Heap.SameBut.update _ a _)) ?_ (hE1.of_perm p2)))
    have hg2 : ((s.heap.update a (Obj.putSet (SetTable.insertAt es p ((intKind prog w).hash k,.int k t)) tb1)).update a (Obj.putSet es2 t2)).get? a = some { o with data := .set es2 (ep + 1 + 1) t2 } := by
     have := Heap.get?_update_self (Obj.putSet es2 t2) hg (by rw [putSet_of (o := { o with data := .set (SetTable.insertAt es p ((intKind prog w).hash k,.int k t)) (ep + 1) tb1 }) _ _ rfl]; rfl)
     rw [putSet_of (o := { o with data := .set (SetTable.insertAt es p ((intKind prog w).hash k,.int k t)) (ep + 1) tb1 }) _ _ rfl] at this
     exact this
    exact ⟨⟨_,hg2,hx,rfl⟩,T2,(l2.trans y4).trans S.led⟩
   ·have htf : SetTable.tooFull tb1 = false := by
     unfold SetTable.tooFull SetTable.fill
     rw [y5,y2,y3]
     rcases S.tab.mask with ⟨q,q2⟩ | ⟨q,q2⟩ <;> rw [q] <;> simp <;> lia
    rw [if_neg (by rw [htf]; exact Bool.false_ne_true)]
    refine wpAny_pure (wpAny_pure (h true _ _ (ep + 1) tb1 (Heap.SameBut.update s.heap a _) ?_ hE1))
    refine S.store ⟨y1,y2,by rw [z1]; exact y5,y6,?_⟩ y4
    rw [z1,y3]
    rcases S.tab.mask with ⟨q,q2⟩ | ⟨q,q2⟩
    ·exact .inl ⟨q,by lia⟩
    ·exact .inr ⟨q,by lia⟩
end
end DL
namespace DL
open PySem PySem.Spec PyProof.Rows L2
noncomputable def met (ns : List Int) : List Int := ns.foldl (fun σ k => if k ∈ σ then σ else σ ++ [k]) []
theorem vN (ns : List Int) (k : Int) : met (ns ++ [k]) = if k ∈ met ns then met ns else met ns ++ [k] := by
 unfold met
 rw [List.foldl_append]
 rfl
theorem zhy (ns : List Int) (i : Nat) (h : i < ns.length) : met (ns.take (i + 1)) = if ns.getD i 0 ∈ met (ns.take i) then met (ns.take i) else met (ns.take i) ++ [ns.getD i 0] := by
 rw [List.take_succ_eq_append_getElem h,vN]
 have : ns.getD i 0 = ns[i] := by simp [List.getD,h]
 rw [this]
theorem zii (ns : List Int) : (met ns).length ≤ ns.length := by
 have : ∀ (l σ : List Int),(l.foldl (fun σ k => if k ∈ σ then σ else σ ++ [k]) σ).length ≤ σ.length + l.length := by
  intro l
  induction l with
  | nil => intro σ; simp
  | cons k l ih =>
    intro σ
    rw [List.foldl_cons]
    refine Nat.le_trans (ih _) ?_
    split <;> simp <;> lia
 have q := this ns []
 simp only [List.length_nil,Nat.zero_add] at q
 exact q
section
variable {prog : Program} {w : World} {A : Around} {R : Result → Shared → Prop} {I : Addr} {fp wr : List Addr} {G : Array GenState → Array GenState → Prop} {P : Nat → Value → Prop} {St : Nat → Shared → Prop}
theorem zcw {ns : List Int} (W : WalksS prog w A.in1 I fp wr G ns.length P St) (S : Addr) (hSf : S ∉ fp) (hval : ∀ i v,P i v → ∃ t,v = .int (ns.getD i 0) t) (hb : ns.length < 18) :
 ∀ (k i : Nat) (s : Shared) (es : Array (Int × Value)) (ep : Nat) (tb : SetTable),ns.length - i = k → i ≤ ns.length → St i s → SetAt w s.heap S es ep tb → EsOk es.toList (met (ns.take i)) →
   (∀ s' es' ep' tb',Moved (S :: wr) G s s' → SetAt w s'.heap S es' ep' tb' → EsOk es'.toList (met ns) → R (.ok (.ret .none)) s') →
   codeAny (model prog w) A (.builtin "set.update.loop" ⟨[.ref S,.ref I],[]⟩) R s := by
 have hSw : S ∉ wr := fun h => hSf (W.sub _ h)
 have hsub : ∀ b ∈ wr,b ∈ S :: wr := fun b hb => List.mem_cons_of_mem _ hb
 intro k
 induction k with
 | zero =>
   intro i s es ep tb hk hi hst hS hE hR
   have hin : i = ns.length := by lia
   subst hin
   refine codeAny_builtin F.entry_set_update_loop ?_
   rw [Around.under_plainId F.plain_set_update_loop _]
   show wpAny _ A.in1 (pyNext (.ref I) >>= _) _ _ s
   refine wpAny_bind (W.done s _ _ hst fun s' hm => ?_)
   show wpAny _ A.in1 (ret Value.none) _ _ s'
   rw [List.take_length] at hE
   exact wpAny_pure (hR s' es ep tb (hm.mono hsub) (hS.keep fun o ho => hm.heap S _ hSw ho) hE)
 | succ k ih =>
   intro i s es ep tb hk hi hst hS hE hR
   have hlt : i < ns.length := by lia
   refine codeAny_builtin F.entry_set_update_loop ?_
   rw [Around.under_plainId F.plain_set_update_loop _]
   show wpAny _ A.in1 (pyNext (.ref I) >>= _) _ _ s
   refine wpAny_bind (W.item i s _ _ hlt hst fun v s' hP hst' hm => ?_)
   obtain ⟨t,rfl⟩ := hval i v hP
   have hS' := hS.keep fun o ho => hm.heap S _ hSw ho
   show wpAny _ A.in1 (holding [Value.int (ns.getD i 0) t] (setAdd S (.int (ns.getD i 0) t)) >>= _) _ _ s'
   refine wpAny_bind (wpAny_holding ?_)
   have hl := zii (ns.take i)
   rw [List.length_take] at hl
   refine ziD hS' hE (by lia) fun b h' es' ep' tb' hsb hS2 hE2 => ?_
   rw [← zhy ns i hlt] at hE2
   refine wpAny_pure ⟨plainId_quiet F.plain_set_update_loop _,ih (i + 1) _ es' ep' tb' (by lia) hlt (W.frame _ s' _ _ hst' (Nat.le_succ _) fun b hb o e => ?_) hS2 hE2 fun s'' es'' ep'' tb'' hm'' hS'' hE'' => ?_⟩
   ·rw [hsb.2 b (fun h : b = S => hSf (by rw [← h]; exact hb))]; exact e
   ·refine hR s'' es'' ep'' tb'' (Moved.trans W.gtrans ((hm.mono hsub).then_heap (Nat.le_succ _) fun b o hb e => ?_) hm'') hS'' hE''
    rw [hsb.2 b (fun h : b = S => hb (by rw [h]; exact List.mem_cons_self))]; exact e
end
section
variable {prog : Program} {w : World} {A : Around} {E : Value → Shared → Prop} {s : Shared}
theorem zdB (a : Value) {Q₁ : Value → Shared → Prop}
 (h : Q₁ (.ref s.heap.objs.size) { s with heap := s.heap.push { cls := .type "set",dict := none,data := .set #[] 0 (.fresh 0 0 (!w.params.followText "set-order")) } }) :
 codeAny (model prog w) A (.call (.builtin "set.__new__") ⟨[.type "set",a],[]⟩) (wants Q₁ E) s := by
 refine codeAny_of_tree ?_
 show wpAny _ A.in1 (do checkBuiltinCall "set.__new__" ⟨[.type "set",a],[]⟩; again (.builtin "set.__new__" ⟨[.type "set",a],[]⟩)) _ _ s
 refine wpAny_bind (wpAny_of_eq (F.newCall_set_1 a) (wpAny_pure ⟨plainId_quiet F.plain_set_new _,codeAny_builtin F.entry_set_new ?_⟩))
 rw [Around.under_plainId F.plain_set_new _]
 unfold Builtin.«set.__new__» Builtin.Frozenset.newClass
 have hsub := sub_set_self
 obtain ⟨hp,g,d,tk,os⟩ := s
 dsimp only
 wp_walk
 refine wpAny_askSetting (wpAny_pure ?_)
 dsimp only
 simp only [newObj]
 refine wpAny_bind (wpAny_alloc (wpAny_pure ?_))
 exact wpAny_pure h
theorem zbZ (led : Bool) : TabOk (.fresh 0 0 led) 0 := ⟨rfl,rfl,rfl,List.Pairwise.nil,.inl ⟨rfl,by lia⟩⟩
theorem zhM {l : Addr} {items : Array Value} {ns : List Int} {Q : Value → Shared → Prop}
 (hh : A.handled = none) (hl : s.heap.IsList l items) (hi : IntsAre items.toList ns) (hb : ns.length < 18)
 (h : ∀ (h' : Heap) (tk : Nat) es ep tb,s.toks ≤ tk → SetAt w h' s.heap.objs.size es ep tb → EsOk es.toList (met ns) →
  (∀ b o,b < s.heap.objs.size → s.heap.get? b = some o → h'.get? b = some o) → Q (.ref s.heap.objs.size) { s with heap := h',toks := tk }) :
 wpAny (model prog w) A (call (.type "set") [.ref l]) Q E s := by
 obtain ⟨c,tl,hmro⟩ := F.called_set.mro
 have hmade := F.called_set.made
 have hsub := F.called_set.sub
 refine wpAny_call (codeAny_of_tree ?_)
 show wpAny _ _ (callAny (.type "set") _) _ _ _
 refine wpAny_pure ⟨Code.quiet_builtin _ (by decide +kernel),codeAny_builtin F.entry_type_call ?_⟩
 rw [Around.under_plain (weight_type_call_type "set" [.ref l] []) rfl]
 have h1 := F.called_set.notType
 have h2 := F.called_set.canCreate
 have hct := F.typeCall_set_1 (.ref l)
 repeat (any_goals (first | assumption | wp_step))
 have hlen : items.size = ns.length := by rw [← Array.length_toList]; exact IntsAre.length hi
 generalize hled : (!w.params.followText "set-order") = led
 refine codeAny_mono (zdB (.ref l) (E := E) (Q₁ := fun obj s₁ => obj = .ref s.heap.objs.size ∧ s₁ = { s with heap := s.heap.push { cls := .type "set",dict := none,data := .set #[] 0 (.fresh 0 0 led) } }) (by rw [hled]; exact ⟨rfl,rfl⟩)) fun r s₁ hr => ?_
 cases r with
 | error e => exact hr
 | ok fl =>
   cases fl with
   | ret obj =>
     obtain ⟨rfl,rfl⟩ := hr
     have hS : (s.heap.push { cls := .type "set",dict := none,data := .set #[] 0 (.fresh 0 0 led) }).get? s.heap.objs.size = some { cls := .type "set",dict := none,data := .set #[] 0 (.fresh 0 0 led) } := Heap.get?_push_size _ rfl
     have hT : Shared.TypeIs { s with heap := s.heap.push { cls := .type "set",dict := none,data := .set #[] 0 (.fresh 0 0 led) } } (.ref s.heap.objs.size) "set" := ⟨_,hS,rfl⟩
     have hli := F.called_set.init.lookup
     have hbi := F.called_set.init.bind (.ref s.heap.objs.size)
     repeat (any_goals (first | assumption | wp_step))
     refine codeAny_mono (codeAny_call_builtin (R := wants (fun r s₂ => r = .none ∧ ∃ h' tk es ep tb,s₂ = { s with heap := h',toks := tk } ∧ s.toks ≤ tk ∧ SetAt w h' s.heap.objs.size es ep tb ∧ EsOk es.toList (met ns) ∧
      (∀ b o,b < s.heap.objs.size → s.heap.get? b = some o → h'.get? b = some o)) E) F.called_set.init.plain F.entry_set_init (check_set_init_1 hT ?_)) fun r₂ s₂ hr₂ => ?_
     ·obtain ⟨ol,hol,hcl,nl,hdl⟩ := hl
      obtain ⟨ocls,odict,odata,oslots⟩ := ol
      simp only at hcl hdl
      subst hcl; subst hdl
      have hol' : (s.heap.push { cls := .type "set",dict := none,data := .set #[] 0 (.fresh 0 0 led) }).get? l = some { cls := .type "list",dict := odict,data := .seq items nl,slots := oslots } := Heap.get?_push_of_some _ hol
      have hsls := F.sub_list_set
      have hslf := F.sub_list_frozenset
      have hne : (Value.type "list" == Value.type "dict") = false := by decide
      have hl1 : (s.heap.push { cls := .type "set",dict := none,data := .set #[] 0 (.fresh 0 0 led) }).IsList l items := ⟨_,hol',rfl,nl,rfl⟩
      unfold Builtin.«set.__init__» noKeywords Builtin.Frozenset.updateFrom
      generalize hPI : pyIter = PI
      wp_walk
      subst hPI
      refine wpAny_pyIter_list hl1 ?_
      refine wpAny_bind (wpAny_runValue ?_)
      have hlS : l < s.heap.objs.size := Heap.lt_size hol
      have hh3 : A.in1.in1.in1.handled = none := by simp [hh]
      have hneI : l ≠ (s.heap.push { cls := .type "set",dict := none,data := .set #[] 0 (.fresh 0 0 led) }).objs.size := by
       rw [Heap.size_push]; exact Nat.ne_of_lt (Nat.lt_succ_of_lt hlS)
      have hSf : s.heap.objs.size ∉ [(s.heap.push { cls := .type "set",dict := none,data := .set #[] 0 (.fresh 0 0 led) }).objs.size,l] := by
       rw [Heap.size_push]; simp only [List.mem_cons,List.mem_singleton,List.not_mem_nil,or_false,not_or]
       exact ⟨Nat.ne_of_lt (Nat.lt_succ_self _),Nat.ne_of_gt hlS⟩
      have hval : ∀ (i : Nat) (v : Value),items[i]? = some v → ∃ t,v = .int (ns.getD i 0) t := fun i v hv =>
       IntsAre.int_at hi i v (by rw [Array.getElem?_toList]; exact hv)
      have W := (Walks.list (prog := prog) (w := w) hh3 (s.heap.push { cls := .type "set",dict := none,data := .set #[] 0 (.fresh 0 0 led) }).objs.size l hneI items).toS
      rw [hlen] at W
      refine zcw W s.heap.objs.size hSf hval hb (ns.length - 0) 0 _ #[] 0 (.fresh 0 0 led) (by lia) (Nat.zero_le _)
       ⟨⟨_,Heap.get?_push_size _ rfl,rfl,rfl⟩,(hl1.push _)⟩ ?hS0 (by rw [List.take_zero]; exact EsOk.nil) ?hR
      case hS0 =>
       have hget : ((s.heap.push { cls := .type "set",dict := none,data := .set #[] 0 (.fresh 0 0 led) }).push { cls := .type "list_iterator",data := .fields #[.ref l,.int 0 0] }).get? s.heap.objs.size
        = some { cls := .type "set",dict := none,data := .set #[] 0 (.fresh 0 0 led) } := Heap.get?_push_of_some _ hS
       exact ⟨⟨_,hget,⟨rfl,rfl,rfl⟩,rfl⟩,zbZ led,hled.symm⟩
      case hR =>
       intro s' es ep tb hm hS' hE'
       obtain ⟨h',g',d',tk',os'⟩ := s'
       have eg : g' = s.gens := hm.gens
       have ed : d' = s.drawn := hm.drawn
       have eo : os' = s.os := hm.os
       have etk : s.toks ≤ tk' := hm.toks
       subst eg; subst ed; subst eo
       show wpAny _ _ _ _ _ _
       refine wpAny_pure ?_
       show wpAny _ _ (ret Value.none) _ _ _
       refine wpAny_pure ⟨rfl,h',tk',es,ep,tb,rfl,etk,hS',hE',fun b o hb e => ?_⟩
       have hb1 : b ≠ s.heap.objs.size := Nat.ne_of_lt hb
       have hb2 : b ≠ (s.heap.push { cls := .type "set",dict := none,data := .set #[] 0 (.fresh 0 0 led) }).objs.size := by
        rw [Heap.size_push]; exact Nat.ne_of_lt (Nat.lt_succ_of_lt hb)
       exact hm.heap b o (by simp only [List.mem_cons,List.mem_singleton,List.not_mem_nil,or_false,not_or]; exact ⟨hb1,hb2⟩) (Heap.get?_push_of_some _ (Heap.get?_push_of_some _ e))
     ·cases r₂ with
      | error e => exact hr₂
      | ok fl₂ =>
        cases fl₂ with
        | ret r =>
          obtain ⟨rfl,h',tk,es,ep,tb,rfl,etk,hS',hE',hk'⟩ := hr₂
          repeat (any_goals (first | assumption | wp_step))
          exact h _ _ _ _ _ etk hS' hE' hk'
        | _ => exact hr₂.elim
   | _ => exact hr.elim
end
end DL
namespace DL
open PySem PySem.Spec PyProof.Rows L2
theorem yb : PySem.Slot "set_iterator" "__next__" "set_iterator.__next__" :=
 .of (owner := "set_iterator") (n := "__next__") (by rw [typeLookup_type,builtinLookup_eq_fast]; kernel_rfl) (by decide +kernel) (by decide +kernel) (by decide +kernel)
  (by first | exact .inl (by decide +kernel) | exact .inr (by decide +kernel)) (by rw [isSubtype_type]; kernel_rfl)
theorem wq : PySem.Slot "set_iterator" "__iter__" "set_iterator.__iter__" :=
 .of (owner := "set_iterator") (n := "__iter__") (by rw [typeLookup_type,builtinLookup_eq_fast]; kernel_rfl) (by decide +kernel) (by decide +kernel) (by decide +kernel)
  (by first | exact .inl (by decide +kernel) | exact .inr (by decide +kernel)) (by rw [isSubtype_type]; kernel_rfl)
theorem wc : entryFor table "set_iterator.__next__" = some Builtin.«set_iterator.__next__» := entryFor_of_tree (by kernel_rfl)
theorem uJ : entryFor table "set_iterator.__iter__" = some Builtin.«dict_keyiterator.__iter__» :=
 entryFor_alias (id' := "dict_keyiterator.__iter__") (by kernel_rfl) rfl (by decide +kernel) (by kernel_rfl)
theorem tK : entryFor table "set.__iter__" = some Builtin.«frozenset.__iter__» :=
 entryFor_alias (id' := "frozenset.__iter__") (by kernel_rfl) rfl (by decide +kernel) (by kernel_rfl)
theorem u3 : Manifest.owners.lookup (String.ofList ['r','o','t','a','r','e','t','i','_','t','e','s'].reverse) = some Manifest.sig_set_iterator := by kernel_rfl
theorem wJ (a : Value) : argsOk "set_iterator.__next__" ⟨[a],[]⟩ := by
 unfold argsOk; rw [signature?_of (id := "set_iterator.__next__") (n := ['_','_','t','x','e','n','_','_']) (o := ['r','o','t','a','r','e','t','i','_','t','e','s']) (by kernel_rfl) u3]; kernel_rfl
theorem t4 (a : Value) : argsOk "set_iterator.__iter__" ⟨[a],[]⟩ := by
 unfold argsOk; rw [signature?_of (id := "set_iterator.__iter__") (n := ['_','_','r','e','t','i','_','_']) (o := ['r','o','t','a','r','e','t','i','_','t','e','s']) (by kernel_rfl) u3]; kernel_rfl
theorem zay {α : Type} : ∀ (l : List α) (i : Nat) (h : i < l.length),List.Perm (l[i] :: l.eraseIdx i) l
 | a :: l,0,_ => .refl _
 | a :: l,i + 1,h => by
   simp only [List.getElem_cons_succ,List.eraseIdx_cons_succ]
   exact (List.Perm.swap a _ _).trans ((zay l i (by simpa using h)).cons a)
theorem zfz {α : Type} (next : Nat → Nat) : ∀ (fuel k : Nat) (left : List α) (out : Array α),left.length = fuel → List.Perm (pickOrder.go next fuel k left out).toList (out.toList ++ left)
 | 0,k,left,out,h => by
   have : left = [] := List.eq_nil_of_length_eq_zero h
   subst this
   simp [pickOrder.go]
 | fuel + 1,k,left,out,h => by
   unfold pickOrder.go
   have hlt : next k % left.length < left.length := Nat.mod_lt _ (by lia)
   rw [List.getElem?_eq_getElem hlt]
   dsimp only
   refine (zfz next fuel (k + 1) _ _ (by rw [List.length_eraseIdx_of_lt hlt]; lia)).trans ?_
   rw [Array.toList_push,List.append_assoc]
   exact List.Perm.append_left _ (zay left _ hlt)
theorem zfy {α : Type} (next : Nat → Nat) (xs : Array α) : List.Perm (pickOrder next xs).toList xs.toList := by
 unfold pickOrder
 simpa using zfz next xs.size 0 xs.toList #[] (by simp)
noncomputable def ordE (w : World) (a : Addr) (ep : Nat) (es : Array (Int × Value)) : Array (Int × Value) := if w.params.followText "set-order" = true then pickOrder (w.params.setOrder a ep) es else es
theorem zdQ (w : World) (a : Addr) (ep : Nat) (es : Array (Int × Value)) : List.Perm (ordE w a ep es).toList es.toList := by
 unfold ordE
 split
 ·exact zfy _ _
 ·exact .refl _
theorem zaW (w : World) (a : Addr) (ep : Nat) (es : Array (Int × Value)) : (ordE w a ep es).size = es.size := by
 have := (zdQ w a ep es).length_eq
 simpa using this
noncomputable def zaI (w : World) (tb : SetTable) (i slot : Nat) : Prop := w.params.followText "set-order" = false → (i = 0 → slot = 0) ∧ ∀ k x,i = k + 1 → tb.place[k]? = some x → slot = x + 1
noncomputable def xO (h : Heap) (it a : Addr) (slot i n ep : Nat) : Prop := ∃ o : Obj,h.get? it = some o ∧ o.cls = .type "set_iterator" ∧ o.data = .fields #[.int slot 0,.int i 0,.ref a,.int n 0,.int ep 0]
section
variable {prog : Program} {w : World} {A : Around} {E : Value → Shared → Prop} {s : Shared} {a : Addr} {es : Array (Int × Value)} {ep : Nat} {tb : SetTable}
theorem yV (S : SetAt w s.heap a es ep tb) {Q : (Array (Int × Value) × Nat × SetTable) → Shared → Prop} (h : Q (es,ep,tb) s) : wpAny (model prog w) A (setState a) Q E s := by
 obtain ⟨o,ho,hx,hd⟩ := S.ex
 exact wpAny_setState_of ho hd S.tab.fits h
theorem zdi {Q : Bool → Shared → Prop} (h : Q (w.params.followText "set-order") s) : wpAny (model prog w) A setsByText Q E s := by
 unfold setsByText
 exact wpAny_bind (wpAny_askSetting (wpAny_pure h))
theorem zaL (S : SetAt w s.heap a es ep tb) (hb : w.params.followText "set-order" = true) {Q : Array (Int × Value) → Shared → Prop} (h : Q (ordE w a ep es) s) : wpAny (model prog w) A (setWalk a) Q E s := by
 unfold setWalk
 refine wpAny_bind (yV S ?_)
 dsimp only
 refine wpAny_bind (zdi ?_)
 rw [hb]
 simp only [↓reduceIte]
 refine wpAny_bind (wpAny_askSetting (wpAny_pure ?_))
 have : ordE w a ep es = pickOrder (w.params.setOrder a ep) es := by unfold ordE; rw [if_pos hb]
 rw [this] at h
 exact h
theorem zdA {i slot : Nat} (S : SetAt w s.heap a es ep tb) (hs : zaI w tb i slot) (hi : i ≤ es.size) {Q : Option (Value × Nat) → Shared → Prop}
 (h1 : ∀ e slot',(ordE w a ep es)[i]? = some e → zaI w tb (i + 1) slot' → Q (some (e.2,slot')) s) (h2 : (ordE w a ep es)[i]? = none → Q none s) : wpAny (model prog w) A (setNext a slot i ep) Q E s := by
 unfold setNext
 refine wpAny_bind (yV S ?_)
 dsimp only
 refine wpAny_bind (zdi ?_)
 cases hb : w.params.followText "set-order" with
 | true =>
   simp only [↓reduceIte,bne_self_eq_false,Bool.false_eq_true]
   refine wpAny_bind (zaL S hb ?_)
   refine wpAny_pure ?_
   cases q : (ordE w a ep es)[i]? with
   | none => exact h2 q
   | some e => exact h1 e slot q (fun z => by rw [hb] at z; cases z)
 | false =>
   simp only [↓reduceIte,Bool.false_eq_true]
   have ho : ordE w a ep es = es := by unfold ordE; rw [if_neg (by rw [hb]; exact Bool.false_ne_true)]
   rw [ho] at h1 h2
   have hdr : (!tb.plain && decide (es.size > 1)) = false := by rw [S.tab.plain]; rfl
   refine wpAny_ite_split (fun hab => absurd hab (by show ¬ ((!tb.plain && decide (es.size > 1)) = true); rw [hdr]; exact Bool.false_ne_true)) fun _ => ?_
   have hled : tb.led = true := by rw [S.led,hb]; rfl
   refine wpAny_bind ?_
   show wpAny _ _ (if (!tb.led && !es.isEmpty) = true then _ else pure ()) _ _ _
   rw [if_neg (by rw [hled]; simp)]
   refine wpAny_pure ?_
   obtain ⟨hs1,hs2⟩ := hs hb
   have hbel : SetTable.below tb.place slot = i := ze3 S.tab.rise slot hs1 hs2 (by rw [S.tab.size]; exact hi)
   rw [hbel]
   refine wpAny_pure ?_
   by_cases hlt : i < es.size
   ·have q1 : es[i]? = some es[i] := Array.getElem?_eq_getElem hlt
    have hlt2 : i < tb.place.size := by rw [S.tab.size]; exact hlt
    have q2 : tb.place[i]? = some tb.place[i] := Array.getElem?_eq_getElem hlt2
    rw [q1,q2]
    refine h1 es[i] (tb.place[i] + 1) q1 fun _ => ⟨fun z => by lia,fun k x hk hx => ?_⟩
    have : k = i := by lia
    subst this
    rw [q2] at hx
    cases hx
    rfl
   ·have q1 : es[i]? = none := Array.getElem?_eq_none (by lia)
    rw [q1]
    exact h2 q1
theorem yP {it : Addr} {slot i n : Nat} (hit : xO s.heap it a slot i n ep) : s.TypeIs (.ref it) "set_iterator" := by
 obtain ⟨o,ho,hc,_⟩ := hit
 exact ⟨o,ho,hc⟩
theorem zg7 {Q : Value → Shared → Prop} (S : SetAt w s.heap a es ep tb)
 (h : Q (.ref s.heap.objs.size) { s with heap := s.heap.push { cls := .type "set_iterator",data := .fields #[.int 0 0,.int 0 0,.ref a,.int es.size 0,.int ep 0] } }) : wpAny (model prog w) A (pyIter (.ref a)) Q E s := by
 have hT := S.typeIs
 refine wpAny_pyIter_slot hT F.slot_set_iter (wpAny_call_entry F.slot_set_iter hT tK ?_ (F.args_set_iter_1 _))
 unfold Builtin.«frozenset.__iter__»
 refine wpAny_bind ?_
 show wpAny _ _ (pure a) _ _ s
 refine wpAny_pure ?_
 obtain ⟨o,ho,hx,hd⟩ := S.ex
 refine wpAny_bind ?_
 unfold Builtin.Frozenset.sizeOf
 refine wpAny_bind (wpAny_setEntries_of ho hd S.tab.fits (wpAny_pure ?_))
 refine wpAny_bind ?_
 unfold setDrawn
 refine wpAny_bind (yV S ?_)
 dsimp only
 refine wpAny_bind (zdi (wpAny_pure ?_))
 have hdr : (!(w.params.followText "set-order") && (!tb.plain && decide (es.size > 1))) = false := by rw [S.tab.plain]; simp
 show wpAny _ _ (if (!(w.params.followText "set-order") && (!tb.plain && decide (es.size > 1))) = true then _ else _) _ _ _
 rw [if_neg (by rw [hdr]; exact Bool.false_ne_true)]
 refine wpAny_bind (wpAny_pure ?_)
 refine wpAny_bind (wpAny_setEpoch_of ho hd S.tab.fits ?_)
 refine wpAny_bind (wpAny_newObj_type (wpAny_pure ⟨_,rfl,"set_iterator",_,⟨_,Heap.get?_push_size _ rfl,rfl⟩,yb.lookup,?_⟩))
 exact h
theorem zep {it : Addr} {slot i : Nat} {Q : Option Value → Shared → Prop} (S : SetAt w s.heap a es ep tb) (hit : xO s.heap it a slot i es.size ep) (hs : zaI w tb i slot) (hi : i < es.size)
 (hQ : ∀ e h' slot',(ordE w a ep es)[i]? = some e → xO h' it a slot' (i + 1) es.size ep → zaI w tb (i + 1) slot' → Heap.SameBut it s.heap h' → Q (some e.2) { s with heap := h' }) : wpAny (model prog w) A (pyNext (.ref it)) Q E s := by
 obtain ⟨o,ho,hc,hd⟩ := id hit
 obtain ⟨oa,hoa,hxa,hda⟩ := S.ex
 unfold pyNext
 refine wpAny_bind (wpAny_attempt (wpAny_callSpecial?_slot (name := Str.ofString "__next__") (yP hit) yb
  (wpAny_call_entry yb (yP hit) wc ?_ (wJ _))))
 unfold Builtin.«set_iterator.__next__»
 refine wpAny_bind (wpAny_pure ?_)
 refine wpAny_bind (wpAny_fieldsOf ho hd ?_)
 dsimp only
 refine wpAny_bind (wpAny_setEntries_of hoa hda S.tab.fits ?_)
 rw [if_neg (by simp)]
 simp only [Int.toNat_natCast]
 refine wpAny_bind (zdA S hs (Nat.le_of_lt hi) (fun e slot' he hs' => ?_) fun he => ?_)
 ·dsimp only
  refine wpAny_bind (wpAny_setField ho hd (by simp) ?_)
  have ho1 : (s.heap.update it (Obj.mapFields (·.setIfInBounds 0 (rawInt (slot' : Int))))).get? it = some (Obj.mapFields (·.setIfInBounds 0 (rawInt (slot' : Int))) o) :=
   Heap.get?_update_self _ ho (Obj.isFreed_of_fields (Obj.data_mapFields hd _))
  have hd1 := Obj.data_mapFields hd (·.setIfInBounds 0 (rawInt (slot' : Int)))
  refine wpAny_bind (wpAny_setField (s := { s with heap := s.heap.update it (Obj.mapFields (·.setIfInBounds 0 (rawInt (slot' : Int)))) }) ho1 hd1 (by simp) ?_)
  have ho2 := Heap.get?_update_self (Obj.mapFields (·.setIfInBounds 1 (rawInt ((i : Int) + 1)))) ho1 (Obj.isFreed_of_fields (Obj.data_mapFields hd1 _))
  have hd2 := Obj.data_mapFields hd1 (·.setIfInBounds 1 (rawInt ((i : Int) + 1)))
  refine wpAny_pure ⟨_,rfl,wpAny_pure (hQ e _ slot' he ⟨_,ho2,?_,?_⟩ hs' ((Heap.SameBut.update s.heap it _).trans (Heap.SameBut.update _ it _)))⟩
  ·rw [Obj.cls_mapFields,Obj.cls_mapFields]; exact hc
  ·rw [hd2]; simp [rawInt]
 ·rw [Array.getElem?_eq_none_iff,zaW] at he
  lia
theorem zeq {it : Addr} {slot i : Nat} {Q : Option Value → Shared → Prop} (hh : A.handled = none) (S : SetAt w s.heap a es ep tb) (hit : xO s.heap it a slot i es.size ep) (hs : zaI w tb i slot) (hi : i = es.size)
 (hQ : ∀ h',Heap.ExtBut it s.heap h' → Q none { s with heap := h' }) : wpAny (model prog w) A (pyNext (.ref it)) Q E s := by
 obtain ⟨o,ho,hc,hd⟩ := id hit
 obtain ⟨oa,hoa,hxa,hda⟩ := S.ex
 unfold pyNext
 refine wpAny_bind (wpAny_attempt (wpAny_callSpecial?_slot (name := Str.ofString "__next__") (yP hit) yb
  (wpAny_call_entry yb (yP hit) wc ?_ (wJ _))))
 unfold Builtin.«set_iterator.__next__»
 refine wpAny_bind (wpAny_pure ?_)
 refine wpAny_bind (wpAny_fieldsOf ho hd ?_)
 dsimp only
 refine wpAny_bind (wpAny_setEntries_of hoa hda S.tab.fits ?_)
 rw [if_neg (by simp)]
 simp only [Int.toNat_natCast]
 refine wpAny_bind (zdA S hs (Nat.le_of_eq hi) (fun e slot' he hs' => ?_) fun he => ?_)
 ·obtain ⟨q,_⟩ := Array.getElem?_eq_some_iff.mp he
  rw [zaW] at q
  lia
 ·dsimp only
  refine wpAny_bind (wpAny_setField ho hd (by simp) ?_)
  show wpAny _ _ (newExc (.type "StopIteration") [] >>= _) _ _ _
  refine wpAny_bind ?_
  simp only [newExc,newTuple]
  refine wpAny_bind (wpAny_newObj_type ?_ (by size_fits))
  refine wpAny_bind (m := firstArgMember _ _) (wpAny_of_eq (a := Value.none) (by first | rfl | (simp only [firstArgMember]; rfl)) ?_)
  refine wpAny_newObj_type ?_ (by size_fits)
  simp only [raiseNew]
  refine wpAny_bind (wpAny_handled ?_)
  rw [show A.in1.handled = none from hh]
  refine wpAny_bind (wpAny_pure (wpAny_throw ?_))
  refine wpAny_bind (wpAny_isInstance (T := "StopIteration") (b := true) ⟨_,Heap.get?_push_size _ rfl,rfl⟩ isSubtype_stop ?_)
  exact wpAny_pure (hQ _ (((Heap.SameBut.update ..).extBut.push _).push _))
theorem zeo {it : Addr} {slot i n : Nat} {Q : Value → Shared → Prop} (hit : xO s.heap it a slot i n ep) (h : Q (.ref it) s) : wpAny (model prog w) A (pyIter (.ref it)) Q E s := by
 refine wpAny_pyIter_slot (yP hit) wq (wpAny_call_entry wq (yP hit) uJ ?_ (t4 _))
 show wpAny _ _ (ret (.ref it)) _ _ s
 exact wpAny_pure ⟨_,rfl,"set_iterator",_,yP hit,yb.lookup,h⟩
theorem zfi (hh : A.handled = none) (I : Addr) (hne : a ≠ I) : Walks prog w A I [I,a] [I] es.size (fun i v => ∃ e,(ordE w a ep es)[i]? = some e ∧ v = e.2)
 (fun i h => SetAt w h a es ep tb ∧ ∃ slot,xO h I a slot i es.size ep ∧ zaI w tb i slot) where
 sub := fun b hb => by simp at hb; simp [hb]
 frame := fun i h h' st hk => by
  obtain ⟨S,slot,⟨o,ho,r⟩,hs⟩ := st
  exact ⟨S.keep fun o e => hk a (by simp) o e,slot,⟨o,hk I (by simp) o ho,r⟩,hs⟩
 item := fun i s Q E hi st hQ => by
  obtain ⟨S,slot,hit,hs⟩ := st
  refine zep S hit hs hi fun e h' slot' he hit' hs' hsb => ?_
  exact hQ e.2 h' s.toks ⟨e,he,rfl⟩ ⟨S.keep fun o q => hsb.extBut a o hne q,slot',hit',hs'⟩ fun b o hb q => hsb.extBut b o (fun z => hb (by simp [z])) q
 done := fun s Q E st hQ => by
  obtain ⟨S,slot,hit,hs⟩ := st
  exact zeq hh S hit hs rfl fun h' he => hQ h' s.toks fun b o hb q => he b o (fun z => hb (by simp [z])) q
 self := fun _ _ _ _ st hQ => by
  obtain ⟨S,slot,hit,hs⟩ := st
  exact zeo hit hQ
theorem zhG {r : Addr} {Q : Bool → Shared → Prop} (hT : s.TypeIs (.ref r) "set") (h : Q false s) : wpAny (model prog w) A (Builtin.List.listLengthHint (.ref r)) Q E s := by
 unfold Builtin.List.listLengthHint
 refine wpAny_bind (wpAny_specialOf hT F.slot_set_len.lookup ?_)
 generalize hid : ("set.__len__" : String) = id0
 wp_delta
 rw [show splitId id0 = some ("set","__len__") from by subst hid; decide +kernel]
 subst hid
 refine wpAny_bind (wpAny_isInstance (T := "set") (b := true) hT (by rw [isSubtype_type]; kernel_rfl) ?_)
 refine wpAny_ite_split (fun hab => absurd hab (by decide)) (fun _ => ?_)
 refine wpAny_ite_split (fun _ => ?_) (fun hab => absurd (by decide +kernel) hab)
 refine wpAny_bind (wpAny_typeOf hT ?_)
 exact wpAny_pure h
theorem ziC : PySem.W.KdlSrc prog w "set" a a es.size (fun i v => ∃ e,(ordE w a ep es)[i]? = some e ∧ v = e.2) (fun h => SetAt w h a es ep tb) where
 type := fun s S => S.typeIs
 there := fun _ S => ⟨S.lt,S.lt⟩
 keep := fun _ _ S hk => S.keep fun o e => hk a (.inl rfl) o e
 notList := by decide
 notTuple := by decide
 hint := fun _ _ _ _ S hq => zhG S.typeIs hq
 iter := fun A s hh S => ⟨_,_,(fun _ _ hq => zg7 S hq),zfi (tb := tb) hh _ (Nat.ne_of_lt S.lt),⟨S.keep fun o e => Heap.get?_push_of_some _ e,0,⟨_,Heap.get?_push_size _ rfl,rfl,rfl⟩,fun _ => ⟨fun _ => rfl,fun k x hk => by lia⟩⟩⟩
end
end DL
namespace DL
open PySem PySem.Spec PyProof.Rows L2
theorem zcR (P : List Int → Prop) (h0 : P []) (h1 : ∀ l k,P l → P (l ++ [k])) : ∀ l,P l := by
 intro l
 have : ∀ (n : Nat) (l : List Int),l.length = n → P l := by
  intro n
  induction n with
  | zero => intro l h; rw [List.eq_nil_of_length_eq_zero h]; exact h0
  | succ n ih =>
    intro l h
    rcases List.eq_nil_or_concat l with e | ⟨m,t,e⟩
    ·subst e; simp at h
    ·have e' : l = m ++ [t] := by simpa using e
     rw [e'] at h ⊢
     exact h1 m t (ih m (by simp at h; exact h))
 exact this _ l rfl
theorem zcQ (ns : List Int) : ∀ k,k ∈ met ns ↔ k ∈ ns := by
 refine zcR (fun ns => ∀ k,k ∈ met ns ↔ k ∈ ns) (fun k => Iff.rfl) (fun l k ih x => ?_) ns
 rw [vN]
 split
 ·rename_i h
  rw [ih x,List.mem_append,List.mem_singleton]
  constructor
  ·exact .inl
  ·rintro (h' | rfl)
   ·exact h'
   ·exact (ih _).mp h
 ·rw [List.mem_append,List.mem_append,ih x]
theorem zbO (ns : List Int) : (met ns).Nodup := by
 refine zcR (fun ns => (met ns).Nodup) List.nodup_nil (fun l k ih => ?_) ns
 rw [vN]
 split
 ·exact ih
 ·rename_i h
  rw [List.nodup_append]
  refine ⟨ih,by simp,fun a ha b hb => ?_⟩
  rw [List.mem_singleton] at hb
  subst hb
  exact fun z => h (z ▸ ha)
theorem xr : ∀ (n : Nat) (l : List Int),l.length ≤ n → l.eraseDups.Nodup
 | 0,l,h => by rw [List.eq_nil_of_length_eq_zero (Nat.le_zero.mp h)]; simp
 | n + 1,[],_ => by simp
 | n + 1,a :: l,h => by
   rw [List.eraseDups_cons,List.nodup_cons]
   have hl := List.length_filter_le (fun b => !b == a) l
   refine ⟨fun hm => ?_,xr n _ (by simp at h; lia)⟩
   rw [List.mem_eraseDups,List.mem_filter] at hm
   simp at hm
theorem zhz (ns : List Int) : yG (met ns) = yG ns.eraseDups :=
 yv ((zS _).trans (((List.perm_ext_iff_of_nodup (zbO ns) (xr _ ns (Nat.le_refl _))).mpr fun k => by rw [zcQ,List.mem_eraseDups]).trans (zS _).symm)) (yj _) (yj _)
noncomputable def SetO (w : World) (a : Addr) (ns : List Int) : HO := .ext fun h => ∃ es ep tb,SetAt w h a es ep tb ∧ EsOk es.toList ns
theorem zgu {X : Cx} (hc : X.calm = true) : wj X (.type "set") (fun xs H Q => ∃ p ns,xs = [.ref p] ∧ H p = some (.lst (ns.map V.int)) ∧ ns.length < 18 ∧ ∀ l,H l = none → Q (.ref l) (upd H l (SetO X.w l (met ns)))) := by
 intro pins s σ H xs us Q I r h
 obtain ⟨p,ns,rfl,hp,hl,q⟩ := h
 obtain ⟨u,rfl,r1⟩ := wk r
 cases (show u = .ref p from r1)
 obtain ⟨z,its,n,rv,hlen,e⟩ := I.lstM hp
 have hi : IntsAre its ns := wP rv
 refine zhM (items := its.toArray) (I.ok.hd hc) ⟨_,e,rfl,_,rfl⟩ (by simpa using hi) hl fun h' tk es ep tb _ S hE hk => ?_
 have hk' : ∀ b o,s.heap.get? b = some o → h'.get? b = some o := fun b o eb => hk b o (Heap.lt_size eb) eb
 refine ⟨.ref s.heap.objs.size,_,I.laid (t' := tk) (o := SetO X.w s.heap.objs.size (met ns)) hk' (Nat.le_refl _) ?_,rfl,q _ (I.hok.fresh (Nat.le_refl _))⟩
 obtain ⟨o,ho,_⟩ := S.ex
 exact ⟨⟨es,ep,tb,S,hE⟩,⟨o,ho⟩,fun h1 h2 ⟨es,ep,tb,S,hE⟩ hk => ⟨es,ep,tb,S.keep hk,hE⟩⟩
theorem zau : ∀ (l : List (Int × Value)),(∀ e ∈ l,∃ (k : Int) (t : Tok),e = (hashInt k,.int k t)) → IntsAre (l.map (·.2)) (l.map keyE)
 | [],_ => .nil
 | e :: l,h => by
   obtain ⟨k,t,rfl⟩ := h e (.head _)
   exact .cons k t (zau l fun e he => h e (.tail _ he))
theorem zhD {L : Array (Int × Value)} {acc : Array Value} (h : ItemsOf (fun i v => ∃ e,L[i]? = some e ∧ v = e.2) acc L.size) : acc.toList = L.toList.map (·.2) := by
 apply List.ext_getElem?
 intro i
 rw [Array.getElem?_toList,List.getElem?_map,Array.getElem?_toList]
 cases q : acc[i]? with
 | some v =>
   obtain ⟨e,he,rfl⟩ := h.2 i v q
   rw [he]; rfl
 | none =>
   have : L.size ≤ i := by rw [← h.1]; exact Array.getElem?_eq_none_iff.mp q
   rw [Array.getElem?_eq_none this]; rfl
theorem zcf {X : Cx} (hc : X.calm = true) : wj X (.builtin "sorted") (fun xs H Q => ∃ p ns,xs = [.ref p] ∧ H p = some (SetO X.w p ns) ∧ ns.length < 64 ∧ ∀ l,H l = none → Q (.ref l) (upd H l (.lst ((yG ns).map V.int)))) := by
 intro pins s σ H xs us Q I r h
 obtain ⟨p,ns,rfl,hp,hl,q⟩ := h
 obtain ⟨u,rfl,r1⟩ := wk r
 cases (show u = .ref p from r1)
 obtain ⟨⟨es,ep,tb,S,hE⟩,_⟩ := I.hok p _ hp
 have hsz : es.size = ns.length := by rw [← Array.length_toList]; exact hE.length
 refine Calls.call_function_entry kind_sorted plain_sorted entry_sorted (args_sorted1 _) ?_
 unfold Builtin.«sorted»
 refine wpAny_bind (m := checkCount "sorted" 1 1 _) (wpAny_pure ?_)
 refine wpAny_bind (PySem.W.kdu_collect (A := X.A.in1) (ziC (a := p) (es := es) (ep := ep) (tb := tb)) (by simp [I.ok.hd hc]) S (by rw [hsz,sizeLine_eq]; lia) fun h' tk acc hk hacc => ?_)
 have hacc' : ItemsOf (fun i v => ∃ e,(ordE X.w p ep es)[i]? = some e ∧ v = e.2) acc (ordE X.w p ep es).size := by rw [zaW]; exact hacc
 have hitems := zhD hacc'
 have hE2 : EsOk (ordE X.w p ep es).toList ns := hE.of_perm (zdQ X.w p ep es)
 have hI : IntsAre acc.toList ((ordE X.w p ep es).toList.map keyE) := by
  rw [hitems]
  exact zau _ hE2.all
 have hal : acc.toList.length = ns.length := by rw [hitems,List.length_map]; exact hE2.length
 refine wpAny_bind (wpAny_newList ?_ (by rw [hal,sizeLine_eq]; lia))
 have hoL : (h'.push (seqObj "list" acc.toList.toArray 0)).get? h'.objs.size = some (seqObj "list" acc.toList.toArray 0) := Heap.get?_push_size _ rfl
 refine wpAny_bind (wpAny_holding (wpAny_call_entry slot_list_sort ⟨_,hoL,rfl⟩ entry_list_sort (list_sort_tree hoL hI (by lia) fun out ns' a1 a2 a3 => ⟨_,rfl,?_⟩) (args_list_sort _)))
 have en : ns' = yG ns := yv ((a2.trans hE2.perm).trans (zS ns).symm) a3 (yj ns)
 subst en
 obtain ⟨c,he⟩ := sortedHeap_at (out := out) hoL
 have keep : ∀ b o,h'.get? b = some o → (sortedHeap (h'.push (seqObj "list" acc.toList.toArray 0)) h'.objs.size acc.toList out).get? b = some o := fun b o eb => by
  have hlt := Heap.lt_size eb
  rw [sortedHeap_old (Nat.ne_of_lt hlt) (by rw [size_push']; exact Nat.lt_succ_of_lt hlt),Heap.get?_push_ne _ _ _ (Nat.ne_of_lt hlt)]
  exact eb
 have hz : ((yG ns).map V.int).length ≤ sizeLine := by rw [List.length_map,(zS ns).length_eq,sizeLine_eq]; lia
 have I1 : Inv X pins σ H { s with heap := h',toks := tk } := I.kept (t' := tk) hk
 exact wpAny_pure ⟨_,rfl,.ref h'.objs.size,_,I1.laid (t' := tk) (o := .lst ((yG ns).map V.int)) keep (Nat.le_refl _) ⟨hz,out.toList,c,vA a1,by simpa [seqObj] using he⟩,rfl,q _ (I1.hok.fresh (Nat.le_refl _))⟩
theorem zcc {X : Cx} {G₀ H₀ : Hp} {p p2 pos pos2 : Pos} {e : Expr} {f : FE} (he : DE X G₀ H₀ e f) (hm : X.mg "sorted" = none) (hm2 : X.mg "set" = none)
 (hc : X.calm = true := by rfl) (hg : Gl X "sorted" := by rfl) (hg2 : Gl X "set" := by rfl)
 (hs : starEach [.Call (.Name "set" p2) [e] [] pos2] X.env = [(false,eval (.Call (.Name "set" p2) [e] [] pos2) X.env)] := by rfl) (hs2 : starEach [e] X.env = [(false,eval e X.env)] := by rfl) :
 DE X G₀ H₀ (.Call (.Name "sorted" p) [.Call (.Name "set" p2) [e] [] pos2] [] pos) (f1 uP f) :=
 (vK (zcf hc) hg hm boot_sorted (zU (vJ (zgu hc) hg2 hm2 boot_set (zU he yF hs2) (by decide) (by decide) hs2 rfl) yF hs) (by decide) (by decide) hs rfl).imp fun σ H Q q => by
  obtain ⟨env,G,val,I,e,k⟩ := q
  obtain ⟨x,e1,e⟩ := zk e
  refine xn I e1 fun v G' H' g l I' o => ?_
  unfold uP at e
  split at e
  ·rename_i ds hd
   rw [hd] at o
   split at e
   ·rename_i ns hn
    split at e
    ·rename_i hl
     cases e
     obtain ⟨a,vs,rfl,h1,r1⟩ := Opd.lst I' o
     rw [wH hn] at r1
     rw [r1.ints_of] at h1
     refine ⟨a,ns,rfl,h1,hl,fun b hb => ?_⟩
     have hml := zii ns
     refine ⟨b,met ns,rfl,zC,by lia,fun c hc => ?_⟩
     have g1 := Grow.laidL (o := SetO X.w b (met ns)) l hb
     have g2 := Grow.laidL (o := .lst ((yG (met ns)).map V.int)) g1.2 hc
     have h3 := xP (K := X.K) (env := env) (σ := σ) (ds := (yG (met ns)).map .int) g1.2 hc (RepL.ints _)
     have g01 := g.trans g1.1
     have h4 := vx.base g01.h h3
     rw [zhz] at h4 g2 ⊢
     exact k _ G' _ (g01.trans g2.1) g2.2 h4
    ·cases e
   ·cases e
  ·cases e
end DL
namespace DL
open PySem PySem.Spec PyProof.Rows L2
end DL
namespace DL
open PySem PySem.Spec PyProof.Rows L2
theorem zhW {t t' : SetTable} (h : t.mask = t'.mask) (p : SetTable.Probe) : t.advance p = t'.advance p := by
 unfold SetTable.advance; rw [h]
theorem zcv {t t' : SetTable} (h : t.mask = t'.mask) : ∀ (n : Nat) (p : SetTable.Probe),advN t n p = advN t' n p
 | 0,p => rfl
 | n + 1,p => by
   show advN t n (t.advance p) = advN t' n (t'.advance p)
   rw [zhW h,zcv h n]
noncomputable def pth (t : SetTable) (h : Int) (n : Nat) : SetTable.Probe := advN t n (t.probeStart h)
theorem uN {t t' : SetTable} (h : t.mask = t'.mask) (x : Int) (n : Nat) : pth t x n = pth t' x n := by
 unfold pth
 have : t.probeStart x = t'.probeStart x := by unfold SetTable.probeStart; rw [h]
 rw [this,zcv h]
theorem uM (t : SetTable) (h : Int) (n : Nat) : pth t h (n + 1) = t.advance (pth t h n) := wV t n 1 _
theorem zbE (t : SetTable) (h : Int) : ∀ n,(pth t h n).dummy = none
 | 0 => rfl
 | n + 1 => by rw [uM,vZ,zbE t h n]
theorem zfg {t : SetTable} {j i : Nat} (h : t.slot j = .live i) : t.place[i]? = some j := by
 unfold SetTable.slot at h
 dsimp only at h
 split at h
 ·rename_i hb
  cases h
  simpa using hb
 ·split at h <;> cases h
theorem vD {t : SetTable} (hr : t.place.toList.Pairwise (· < ·)) {j i : Nat} (h : t.place[i]? = some j) : t.slot j = .live i := by
 obtain ⟨b1,b2,b3⟩ := zbl j hr
 have hrel : ∀ (a b x y : Nat),a < b → t.place[a]? = some x → t.place[b]? = some y → x < y := by
  intro a b x y hab ha hb
  rw [← Array.getElem?_toList] at ha hb
  obtain ⟨ha1,rfl⟩ := List.getElem?_eq_some_iff.mp ha
  obtain ⟨hb1,rfl⟩ := List.getElem?_eq_some_iff.mp hb
  exact List.pairwise_iff_getElem.mp hr a b ha1 hb1 hab
 have e : SetTable.below t.place j = i := by
  rcases Nat.lt_trichotomy (SetTable.below t.place j) i with hlt | heq | hgt
  ·have hi : i < t.place.size := (Array.getElem?_eq_some_iff.mp h).1
   have q := b3 _ _ (Nat.le_refl _) (Array.getElem?_eq_getElem (show SetTable.below t.place j < t.place.size by lia))
   have := hrel _ _ _ _ hlt (Array.getElem?_eq_getElem (show SetTable.below t.place j < t.place.size by lia)) h
   lia
  ·exact heq
  ·have := b2 i j hgt h
   lia
 unfold SetTable.slot
 dsimp only
 rw [e,h]
 simp
theorem wZ {t : SetTable} (hd : t.dummies = #[]) (hr : t.place.toList.Pairwise (· < ·)) (j : Nat) : t.slot j = .empty ↔ j ∉ t.place.toList := by
 constructor
 ·intro h hm
  obtain ⟨i,hi⟩ := List.getElem?_of_mem hm
  rw [Array.getElem?_toList] at hi
  rw [vD hr hi] at h
  cases h
 ·exact xo hd
theorem zey {t : SetTable} {n : Nat} (T : TabOk t n) (h : Int) : ∃ k,k < 10 * SetTable.turns t.mask ∧ t.slot (pth t h k).j = .empty := by
 obtain ⟨e,he,hm⟩ := tD t.place.toList (t.mask + 1) (by rw [Array.length_toList,T.size]; rcases T.mask with ⟨q,_⟩ | ⟨q,_⟩ <;> lia)
 have hi : SetTable.bits h % (t.mask + 1) ≤ t.mask := by
  have := Nat.mod_lt (SetTable.bits h) (show 0 < t.mask + 1 by lia)
  lia
 obtain ⟨m,hm1,hm2⟩ := zcT (h := h) T.lcAll hi (show e ≤ t.mask by lia)
 obtain ⟨k,hk1,hk2⟩ := t8 t (SetTable.bits h % (t.mask + 1),SetTable.bits h) m
 refine ⟨k,by unfold SetTable.turns; lia,?_⟩
 show t.slot (advN t k (runP t (SetTable.bits h % (t.mask + 1),SetTable.bits h))).j = .empty
 rw [hk2]
 show t.slot (lp t.mask m _).1 = .empty
 rw [hm2]
 exact xo T.dummies hm
theorem least {P : Nat → Prop} : ∀ n,P n → ∃ m,m ≤ n ∧ P m ∧ ∀ k,k < m → ¬ P k := by
 intro n
 induction n using Nat.strongRecOn with
 | _ n ih =>
   intro h
   by_cases q : ∃ k,k < n ∧ P k
   ·obtain ⟨k,hk,hp⟩ := q
    obtain ⟨m,h1,h2,h3⟩ := ih k hk hp
    exact ⟨m,by lia,h2,h3⟩
   ·exact ⟨n,Nat.le_refl _,h,fun k hk hp => q ⟨k,hk,hp⟩⟩
theorem zc0 {t : SetTable} {n : Nat} (T : TabOk t n) (h : Int) : ∃ N,N < 10 * SetTable.turns t.mask ∧ t.slot (pth t h N).j = .empty ∧ ∀ m,m < N → t.slot (pth t h m).j ≠ .empty := by
 obtain ⟨k,hk,e⟩ := zey T h
 obtain ⟨m,h1,h2,h3⟩ := least (P := fun k => t.slot (pth t h k).j = .empty) k e
 exact ⟨m,by lia,h2,h3⟩
theorem zf8 {t : SetTable} {h : Int} {ha : Nat → Int} {N : Nat} (hd : t.dummies = #[]) (he : t.slot (pth t h N).j = .empty) (hf : ∀ m,m < N → t.slot (pth t h m).j ≠ .empty) : ∀ (d m fuel : Nat),N - m = d → m ≤ N → d < fuel →
 (∃ n i,m ≤ n ∧ n < N ∧ t.slot (pth t h n).j = .live i ∧ ha i = h ∧ SetTable.probe.go t ha h fuel (pth t h m) = some (.candidate (pth t h n).j i (pth t h (n + 1))) ∧ ∀ n',m ≤ n' → n' < n → ∀ i',t.slot (pth t h n').j = .live i' → ha i' ≠ h) ∨
 (SetTable.probe.go t ha h fuel (pth t h m) = some (.empty (pth t h N).j none) ∧ ∀ n',m ≤ n' → n' < N → ∀ i',t.slot (pth t h n').j = .live i' → ha i' ≠ h)
 | d,m,0,_,_,hz => absurd hz (Nat.not_lt_zero _)
 | 0,m,fuel + 1,e,hm,hz => by
   have : m = N := by lia
   subst this
   refine .inr ⟨?_,fun n' h1 h2 => by lia⟩
   unfold SetTable.probe.go
   rw [he]
   simp [zbE]
 | d + 1,m,fuel + 1,e,hm,hz => by
   have hlt : m < N := by lia
   rcases v4 hd (pth t h m).j with q | ⟨i,q⟩
   ·exact absurd q (hf m hlt)
   ·by_cases hi : ha i = h
    ·refine .inl ⟨m,i,Nat.le_refl _,hlt,q,hi,?_,fun n' h1 h2 => by lia⟩
     unfold SetTable.probe.go
     rw [q]
     simp only [hi,beq_self_eq_true,if_true]
     rw [uM]
    ·have step : SetTable.probe.go t ha h (fuel + 1) (pth t h m) = SetTable.probe.go t ha h fuel (pth t h (m + 1)) := by
      conv => lhs; unfold SetTable.probe.go
      rw [q]
      have : (ha i == h) = false := by simpa using hi
      simp only [this]
      rw [uM]
      rfl
     rw [step]
     have hm0 : ∀ i',t.slot (pth t h m).j = .live i' → ha i' ≠ h := fun i' q' => by
      rw [q] at q'; cases q'; exact hi
     rcases zf8 hd he hf d (m + 1) fuel (by lia) (by lia) (by lia) with ⟨n,i2,h1,h2,h3,h4,h5,h6⟩ | ⟨h1,h2⟩
     ·refine .inl ⟨n,i2,by lia,h2,h3,h4,h5,fun n' q1 q2 => ?_⟩
      by_cases qe : n' = m
      ·rw [qe]; exact hm0
      ·exact h6 n' (by lia) q2
     ·refine .inr ⟨h1,fun n' q1 q2 => ?_⟩
      by_cases qe : n' = m
      ·rw [qe]; exact hm0
      ·exact h2 n' (by lia) q2
noncomputable def RI (t : SetTable) (hs : List Int) : Prop := ∀ q ∈ hs.zip t.place.toList,∃ m,(pth t q.1 m).j = q.2 ∧ ∀ m',m' < m → (pth t q.1 m').j ∈ t.place.toList
theorem RI.nil {t : SetTable} : RI t [] := fun q h => by simp at h
theorem ziy {α β : Type} (l : List α) (m : List β) (p : Nat) (x : α) (y : β) (h : l.length = m.length) : ∀ q ∈ (l.take p ++ x :: l.drop p).zip (m.take p ++ y :: m.drop p),q = (x,y) ∨ q ∈ l.zip m := by
 intro q hq
 rw [List.zip_append (by simp [h])] at hq
 rcases List.mem_append.mp hq with hq | hq
 ·refine .inr ?_
  rw [List.zip_eq_zipWith,← List.take_zipWith] at hq
  rw [List.zip_eq_zipWith]
  exact List.mem_of_mem_take hq
 ·rw [List.zip_cons_cons] at hq
  rcases List.mem_cons.mp hq with hq | hq
  ·exact .inl hq
  ·refine .inr ?_
   rw [List.zip_eq_zipWith,← List.drop_zipWith] at hq
   rw [List.zip_eq_zipWith]
   exact List.mem_of_mem_drop hq
theorem RI.put {t : SetTable} {hs : List Int} {h : Int} {N p : Nat} (R : RI t hs) (hl : hs.length = t.place.size) (hd : t.dummies = #[]) (hr : t.place.toList.Pairwise (· < ·)) (hf : ∀ m,m < N → t.slot (pth t h m).j ≠ .empty) :
 RI { t with place := SetTable.insertAt t.place p (pth t h N).j } (hs.take p ++ h :: hs.drop p) := by
 intro q hq
 have em : ({ t with place := SetTable.insertAt t.place p (pth t h N).j } : SetTable).mask = t.mask := rfl
 have hin : ∀ x,x ∈ t.place.toList → x ∈ (SetTable.insertAt t.place p (pth t h N).j).toList := fun x hx => by
  rw [SetTable.toList_insertAt,List.mem_append,List.mem_cons]
  rw [← List.take_append_drop p t.place.toList,List.mem_append] at hx
  rcases hx with hx | hx
  ·exact .inl hx
  ·exact .inr (.inr hx)
 have hq' : q = (h,(pth t h N).j) ∨ q ∈ hs.zip t.place.toList := by
  refine ziy hs t.place.toList p h (pth t h N).j (by simpa using hl) q ?_
  have hq2 := hq
  rw [show (({ t with place := SetTable.insertAt t.place p (pth t h N).j } : SetTable).place.toList) = t.place.toList.take p ++ (pth t h N).j :: t.place.toList.drop p from SetTable.toList_insertAt _ _ _] at hq2
  exact hq2
 rcases hq' with rfl | hq'
 ·refine ⟨N,by rw [uN em],fun m' hm' => ?_⟩
  rw [uN em]
  refine hin _ (Classical.byContradiction fun hn => hf m' hm' ?_)
  exact (wZ hd hr _).mpr hn
 ·obtain ⟨m,h1,h2⟩ := R q hq'
  refine ⟨m,by rw [uN em]; exact h1,fun m' hm' => ?_⟩
  rw [uN em]
  exact hin _ (h2 m' hm')
theorem zdN (t : SetTable) (x : Nat × Nat) : ∀ k,k ≤ (runP t x).more → (advN t k (runP t x)) = { runP t x with j := x.1 + k,more := (runP t x).more - k }
 | 0,_ => rfl
 | k + 1,hk => by
   have ih := zdN t x k (by lia)
   rw [wV t k 1]
   show t.advance (advN t k (runP t x)) = _
   rw [ih]
   unfold SetTable.advance
   rw [if_pos (by show (runP t x).more - k > 0; lia)]
   simp only [SetTable.Probe.mk.injEq,and_true,true_and]
   exact ⟨by lia,by lia⟩
theorem zb0 (t : SetTable) {owner : Array (Option Nat)} : ∀ (fuel : Nat) (x : Nat × Nat) (j : Nat),SetTable.layClean.free t.mask owner fuel x.1 x.2 = some j →
 ∃ m,(advN t m (runP t x)).j = j ∧ ∀ m',m' < m → (owner.getD (advN t m' (runP t x)).j (some 0)).isNone = false
 | 0,x,j,h => by cases h
 | fuel + 1,x,j,h => by
   unfold SetTable.layClean.free at h
   have hmore : (runP t x).more = SetTable.runEnd t.mask x.1 - x.1 := rfl
   have hge : x.1 ≤ SetTable.runEnd t.mask x.1 := by unfold SetTable.runEnd; split <;> lia
   cases hf : (List.range (SetTable.runEnd t.mask x.1 + 1 - x.1)).find? fun k => (owner.getD (x.1 + k) (some 0)).isNone with
   | some k =>
     rw [hf] at h
     dsimp only at h
     cases h
     have hk := List.mem_range.mp (List.mem_of_find?_eq_some hf)
     refine ⟨k,by rw [zdN t x k (by lia)],fun m' hm' => ?_⟩
     rw [zdN t x m' (by lia)]
     have := List.find?_range_eq_some.mp hf
     have q := this.2.2 m' hm'
     simpa using q
   | none =>
     rw [hf] at h
     dsimp only at h
     obtain ⟨m,h1,h2⟩ := zb0 t fuel (SetTable.leap t.mask x.1 x.2) j h
     have hrun := zdq t (runP t x).more (runP t x) rfl rfl
     refine ⟨(runP t x).more + 1 + m,by rw [wV,hrun]; exact h1,fun m' hm' => ?_⟩
     by_cases hlt : m' < (runP t x).more + 1
     ·rw [zdN t x m' (by lia)]
      have := List.find?_eq_none.mp hf m' (List.mem_range.mpr (by lia))
      exact Bool.eq_false_iff.mpr this
     ·have e : m' = (runP t x).more + 1 + (m' - ((runP t x).more + 1)) := by lia
      rw [e,wV,hrun]
      exact h2 _ (by lia)
end DL
namespace DL
open PySem PySem.Spec PyProof.Rows L2
theorem uX {mask i : Nat} (h : i ≤ mask) : SetTable.runEnd mask i ≤ mask := by
 unfold SetTable.runEnd; split <;> lia
theorem zia (t : SetTable) (h : Int) : ∀ n,(pth t h n).j + (pth t h n).more ≤ t.mask
 | 0 => by
   have hi : SetTable.bits h % (t.mask + 1) ≤ t.mask := by
    have := Nat.mod_lt (SetTable.bits h) (show 0 < t.mask + 1 by lia)
    lia
   have h1 := uX hi
   show SetTable.bits h % (t.mask + 1) + (SetTable.runEnd t.mask (SetTable.bits h % (t.mask + 1)) - SetTable.bits h % (t.mask + 1)) ≤ t.mask
   lia
 | n + 1 => by
   have ih := zia t h n
   rw [uM]
   unfold SetTable.advance
   split
   ·show (pth t h n).j + 1 + ((pth t h n).more - 1) ≤ t.mask
    lia
   ·show (SetTable.leap t.mask (pth t h n).i (pth t h n).perturb).1 + (SetTable.runEnd t.mask (SetTable.leap t.mask (pth t h n).i (pth t h n).perturb).1 - (SetTable.leap t.mask (pth t h n).i (pth t h n).perturb).1) ≤ t.mask
    have hi : (SetTable.leap t.mask (pth t h n).i (pth t h n).perturb).1 ≤ t.mask := by
     simp only [SetTable.leap]
     have := Nat.mod_lt ((pth t h n).i * 5 + 1 + (pth t h n).perturb / 32) (show 0 < t.mask + 1 by lia)
     lia
    have h1 := uX hi
    lia
noncomputable def zkN (t : SetTable) (all : List Int) (owner : Array (Option Nat)) : Prop := ∀ j k,owner[j]? = some (some k) → ∃ h m,all[k]? = some h ∧ (pth t h m).j = j ∧ ∀ m',m' < m → (owner.getD (pth t h m').j (some 0)).isNone = false
theorem zbT (t : SetTable) (ht : t.mask = 31) (all : List Int) : ∀ (hs : List Int) (owner : Array (Option Nat)) (k : Nat) (owner' : Array (Option Nat)) (k' : Nat),all.drop k = hs → zkN t all owner →
 (hs.foldl (init := some (owner,k)) fun acc h => do
  let (owner,k) ← acc
  let j ← SetTable.layClean.free 31 owner (SetTable.turns 31) (SetTable.bits h % (31 + 1)) (SetTable.bits h)
  pure (owner.setIfInBounds j (some k),k + 1)) = some (owner',k') → zkN t all owner' := by
 intro hs
 induction hs with
 | nil => intro owner k owner' k' _ ho e; cases e; exact ho
 | cons h hs ih =>
   intro owner k owner' k' hall ho e
   rw [List.foldl_cons] at e
   have hk : all[k]? = some h := by
    have : (all.drop k)[0]? = some h := by rw [hall]; rfl
    simpa using this
   cases hj : SetTable.layClean.free 31 owner (SetTable.turns 31) (SetTable.bits h % (31 + 1)) (SetTable.bits h) with
   | none =>
     exfalso
     have z : (do
      let (owner,k) ← some (owner,k)
      let j ← SetTable.layClean.free 31 owner (SetTable.turns 31) (SetTable.bits h % (31 + 1)) (SetTable.bits h)
      pure (owner.setIfInBounds j (some k),k + 1)) = (none : Option (Array (Option Nat) × Nat)) := by
      show (SetTable.layClean.free 31 owner (SetTable.turns 31) (SetTable.bits h % (31 + 1)) (SetTable.bits h)).bind _ = _
      rw [hj]
      rfl
     rw [z] at e
     have dead : ∀ l : List Int,(l.foldl (init := (none : Option (Array (Option Nat) × Nat))) fun acc h => do
      let (owner,k) ← acc
      let j ← SetTable.layClean.free 31 owner (SetTable.turns 31) (SetTable.bits h % (31 + 1)) (SetTable.bits h)
      pure (owner.setIfInBounds j (some k),k + 1)) = none := by
      intro l
      induction l with
      | nil => rfl
      | cons a l ih => exact ih
     rw [dead] at e
     cases e
   | some j =>
     have z : (do
      let (owner,k) ← some (owner,k)
      let j ← SetTable.layClean.free 31 owner (SetTable.turns 31) (SetTable.bits h % (31 + 1)) (SetTable.bits h)
      pure (owner.setIfInBounds j (some k),k + 1)) = some (owner.setIfInBounds j (some k),k + 1) := by
      show (SetTable.layClean.free 31 owner (SetTable.turns 31) (SetTable.bits h % (31 + 1)) (SetTable.bits h)).bind _ = _
      rw [hj]
      rfl
     rw [z] at e
     refine ih (owner.setIfInBounds j (some k)) (k + 1) owner' k' ?_ ?_ e
     ·have : all.drop (k + 1) = (all.drop k).drop 1 := by rw [List.drop_drop]
      rw [this,hall]
      rfl
     ·have grow : ∀ x,(owner.getD x (some 0)).isNone = false → ((owner.setIfInBounds j (some k)).getD x (some 0)).isNone = false := by
       intro x hx
       rw [Array.getD_eq_getD_getElem?,Array.getElem?_setIfInBounds]
       split
       ·split <;> rfl
       ·rw [← Array.getD_eq_getD_getElem?]; exact hx
      intro j' k1 hjk
      rw [Array.getElem?_setIfInBounds] at hjk
      split at hjk
      ·rename_i hjj
       split at hjk
       ·cases hjk
        subst hjj
        have hj' : SetTable.layClean.free t.mask owner (SetTable.turns 31) (SetTable.bits h % (t.mask + 1),SetTable.bits h).1 (SetTable.bits h % (t.mask + 1),SetTable.bits h).2 = some j := by rw [ht]; exact hj
        obtain ⟨m,h1,h2⟩ := zb0 t _ _ _ hj'
        exact ⟨h,m,hk,h1,fun m' hm' => grow _ (h2 m' hm')⟩
       ·cases hjk
      ·obtain ⟨h0,m,q1,q2,q3⟩ := ho j' k1 hjk
       exact ⟨h0,m,q1,q2,fun m' hm' => grow _ (q3 m' hm')⟩
theorem zft (t : SetTable) (es : Array (Int × Value)) (hp : t.plain = true) (hn : es.size = 5) :
 ∃ es' t' order,t.relaid (es.map (·.1)) (SetTable.grown 5) = some (t',order) ∧ order.filterMap (es[·]?) = es' ∧ TabOk t' es'.size ∧ t'.led = t.led ∧ List.Perm es'.toList es.toList ∧ es'.size = 5 ∧ RI t' (es'.toList.map (·.1)) := by
 have hw : SetTable.sizeAbove (SetTable.grown 5) - 1 = 31 := by decide
 have h0 : (Array.replicate 32 (none : Option Nat)).toList.filterMap id = [] := by decide
 obtain ⟨owner,e1,e2,e3⟩ := tj (es.map (·.1)).toList (Array.replicate 32 none) 0 (by simp) (by rw [h0]; exact .nil) (by simp; lia)
 have hl : SetTable.layClean 31 (es.map (·.1)) = some owner := by
  unfold SetTable.layClean
  rw [← Array.foldl_toList]
  rw [e1]
  rfl
 have h5 : 0 + (es.map (·.1)).toList.length = 5 := by simp [hn]
 rw [h5] at e3
 obtain ⟨live,hlive⟩ : ∃ live,live = (List.range 32).filterMap fun j => (owner.getD j none).map (j,·) := ⟨_,rfl⟩
 obtain ⟨t',ht'⟩ : ∃ t' : SetTable,t' = { mask := 31,place := (live.map (·.1)).toArray,dummies := #[],finger := t.finger,led := t.led,moves := t.movedTo 31,plain := t.plain } := ⟨_,rfl⟩
 have hr : t.relaid (es.map (·.1)) (SetTable.grown 5) = some (t',(live.map (·.2)).toArray) := by
  unfold SetTable.relaid SetTable.laid
  rw [hw,hl,ht',hlive]
  rfl
 have h2 := zdV owner
 rw [e2,← hlive] at h2
 have hlen : live.length = 5 := by
  have : (live.map (·.2)).length = 5 := by rw [h2,e3.length_eq,List.length_range]
  simpa using this
 have hown := zbT t' (by rw [ht']) (es.map (·.1)).toList (es.map (·.1)).toList (Array.replicate 32 none) 0 owner _ (by simp) (fun j k hjk => by
  exfalso
  rw [Array.getElem?_replicate] at hjk
  split at hjk <;> cases hjk) e1
 have hk5 : ∀ q ∈ live,q.2 < 5 ∧ owner[q.1]? = some (some q.2) := by
  intro q hq
  have hm : q.2 ∈ owner.toList.filterMap id := by rw [← h2]; exact List.mem_map_of_mem hq
  refine ⟨List.mem_range.mp (e3.mem_iff.mp hm),?_⟩
  rw [hlive] at hq
  obtain ⟨j,hj,hjq⟩ := List.mem_filterMap.mp hq
  have hj32 : j < owner.size := by rw [e2]; exact List.mem_range.mp hj
  cases ho : owner.getD j none with
  | none => rw [ho] at hjq; cases hjq
  | some k =>
    rw [ho] at hjq
    cases hjq
    rw [Array.getElem?_eq_getElem hj32]
    simp only [Array.getD,hj32,dite_true] at ho
    exact congrArg some ho
 have hperm : List.Perm (((live.map (·.2)).toArray.filterMap (es[·]?)).toList) es.toList := by
  rw [Array.toList_filterMap]
  show List.Perm ((live.map (·.2)).filterMap (es[·]?)) es.toList
  rw [h2]
  exact ((e3.filterMap _).trans (by rw [← hn]; exact List.Perm.of_eq (filterMap_getElem?_range es)))
 have hsz : ((live.map (·.2)).toArray.filterMap (es[·]?)).size = 5 := by
  rw [← Array.length_toList,hperm.length_eq,Array.length_toList,hn]
 have hmap : (((live.map (·.2)).toArray.filterMap (es[·]?)).toList) = live.map fun q => es.getD q.2 (0,.none) := by
  rw [Array.toList_filterMap]
  show (live.map (·.2)).filterMap (es[·]?) = _
  clear hlive h2 hr ht' hown hperm hsz hlen
  induction live with
  | nil => rfl
  | cons q l ih =>
    have hq := (hk5 q (.head _)).1
    have hq' : q.2 < es.size := by lia
    simp only [List.map_cons,List.filterMap_cons,Array.getElem?_eq_getElem hq']
    rw [ih fun q hq => hk5 q (.tail _ hq)]
    simp [Array.getD,hq']
 refine ⟨_,t',_,hr,rfl,?_,by rw [ht'],hperm,hsz,?_⟩
 ·rw [hsz,ht']
  exact ⟨hp,rfl,by simpa using hlen,by rw [hlive]; simpa using zdW owner 32,.inr ⟨rfl,by lia⟩⟩
 ·rw [hmap]
  have hpl : t'.place.toList = live.map (·.1) := by rw [ht']
  intro q hq
  rw [hpl,List.map_map] at hq
  rw [List.zip_map'] at hq
  obtain ⟨x,hx,rfl⟩ := List.mem_map.mp hq
  obtain ⟨h1,h3⟩ := hk5 x hx
  obtain ⟨h,m,q1,q2,q3⟩ := hown x.1 x.2 h3
  have hh : (es.getD x.2 (0,.none)).1 = h := by
   have hx5 : x.2 < es.size := by lia
   simp [hx5] at q1
   simp [Array.getD,hx5,q1]
  show ∃ m,(pth t' (es.getD x.2 (0,.none)).1 m).j = x.1 ∧ ∀ m',m' < m → (pth t' (es.getD x.2 (0,.none)).1 m').j ∈ t'.place.toList
  rw [hh]
  refine ⟨m,q2,fun m' hm' => ?_⟩
  have q4 := q3 m' hm'
  have hle := zia t' h m'
  have hmask : t'.mask = 31 := by rw [ht']
  have hlt : (pth t' h m').j < owner.size := by lia
  simp only [Array.getD,hlt,dite_true] at q4
  cases ho : owner[(pth t' h m').j]'hlt with
  | none =>
    have : (owner[(pth t' h m').j]'hlt).isNone = true := by rw [ho]; rfl
    rw [show (owner.getInternal (pth t' h m').j hlt) = owner[(pth t' h m').j]'hlt from rfl,this] at q4
    cases q4
  | some k =>
    rw [hpl]
    refine List.mem_map.mpr ⟨((pth t' h m').j,k),?_,rfl⟩
    rw [hlive]
    refine List.mem_filterMap.mpr ⟨(pth t' h m').j,List.mem_range.mpr (by lia),?_⟩
    simp [Array.getD,hlt,ho]
end DL
namespace DL
open PySem PySem.Spec PyProof.Rows L2
section
variable {prog : Program} {w : World} {A : Around} {E : Value → Shared → Prop} {s : Shared}
noncomputable abbrev PKey (prog : Program) (w : World) (h : Heap) (k : List Int) (a : Addr) : Prop := IsTupleKey (intKind prog w) h k a
noncomputable def pHash (prog : Program) (w : World) (k : List Int) : Int := (tupleKind (intKind prog w)).hash k
theorem zbU {k : List Int} {vs : List Value} (h : ItemsAre (intKind prog w) k vs) : ∀ v ∈ vs,∃ i t,v = Value.int i t := by
 induction h with
 | nil => intro v hv; simp at hv
 | @cons k v ks vs h1 _ ih =>
   intro u hu
   rcases List.mem_cons.mp hu with rfl | hu
   ·obtain ⟨t,e⟩ := Value.isInt_shape h1
    exact ⟨_,t,e⟩
   ·exact ih u hu
theorem zd2 {a : Addr} {o : Obj} {items : Array Value} {n : Nat} {Q : Option (Array Value) → Shared → Prop} (ho : s.heap.get? a = some o) (hd : o.data = .seq items n) (h : Q (some items) s) : wpAny (model prog w) A (seqItems? (.ref a)) Q E s := by
 unfold seqItems?
 refine wpAny_bind (wpAny_load ho ?_)
 rw [hd]
 exact wpAny_pure h
theorem zcm {k : List Int} {a : Addr} {Q : Bool → Shared → Prop} (hk : PKey prog w s.heap k a) (h : Q true s) : wpAny (model prog w) A (hashByValue 8 (.ref a)) Q E s := by
 have hT := hk.typeIs
 obtain ⟨o,items,n,ho,_,hd,hi⟩ := hk
 have hints := zbU hi
 unfold hashByValue
 refine wpAny_bind (wpAny_specialOf hT F.slot_tuple_hash.lookup ?_)
 dsimp only
 refine wpAny_bind (zd2 ho hd ?_)
 refine wpAny_bind ?_
 show wpAny _ _ (forIn items _ _) _ _ s
 rw [← Array.forIn_toList]
 refine wpAny_forIn_list _ (fun rest r s' => r.1 = none ∧ s' = s ∧ ∀ v ∈ rest,∃ i t,v = Value.int i t) _ ?_ ?_ _ _ ⟨rfl,rfl,hints⟩
 ·rintro v rest r s' ⟨hr,rfl,hall⟩
  obtain ⟨i,t,rfl⟩ := hall v List.mem_cons_self
  have e : hashByValue 7 (Value.int i t) = pure true := rfl
  rw [e]
  refine wpAny_bind (wpAny_pure ?_)
  simp only [Bool.not_true,Bool.false_eq_true,if_false]
  exact wpAny_pure ⟨rfl,rfl,fun u hu => hall u (List.mem_cons_of_mem _ hu)⟩
 ·rintro ⟨r1,r2⟩ s' ⟨hr,rfl,_⟩
  simp only at hr
  subst hr
  exact wpAny_pure h
theorem zaF {k : List Int} {a : Addr} {Q : Bool → Shared → Prop} (hk : PKey prog w s.heap k a) (h : Q false s) : wpAny (model prog w) A (ofAClassStatement 8 (.ref a)) Q E s := by
 have hT := hk.typeIs
 obtain ⟨o,items,n,ho,_,hd,hi⟩ := hk
 have hints := zbU hi
 unfold ofAClassStatement
 refine wpAny_bind (wpAny_typeOf hT ?_)
 dsimp only
 rw [if_pos (by rfl)]
 refine wpAny_bind (wpAny_pure ?_)
 simp only [Bool.not_true,Bool.false_eq_true,if_false]
 refine wpAny_bind (zd2 ho hd ?_)
 dsimp only
 refine wpAny_bind ?_
 rw [← Array.forIn_toList]
 refine wpAny_forIn_list _ (fun rest r s' => r.1 = none ∧ s' = s ∧ ∀ v ∈ rest,∃ i t,v = Value.int i t) _ ?_ ?_ _ _ ⟨rfl,rfl,hints⟩
 ·rintro v rest r s' ⟨hr,rfl,hall⟩
  obtain ⟨i,t,rfl⟩ := hall v List.mem_cons_self
  have e : ofAClassStatement 7 (Value.int i t) = pure false := rfl
  rw [e]
  refine wpAny_bind (wpAny_pure ?_)
  simp only [Bool.false_eq_true,if_false]
  exact wpAny_pure ⟨rfl,rfl,fun u hu => hall u (List.mem_cons_of_mem _ hu)⟩
 ·rintro ⟨r1,r2⟩ s' ⟨hr,rfl,_⟩
  simp only at hr
  subst hr
  exact wpAny_pure h
theorem zcx {k : List Int} {a : Addr} {l : List Value} {Q : Bool → Shared → Prop} (hk : PKey prog w s.heap k a) (hl : ∀ v ∈ l,∃ k' b,v = .ref b ∧ PKey prog w s.heap k' b) (h : Q false s) : wpAny (model prog w) A (searchCouldBeSeen (.ref a) l) Q E s := by
 unfold searchCouldBeSeen
 refine wpAny_bind ?_
 refine wpAny_forIn_list _ (fun rest r s' => r.1 = none ∧ s' = s ∧ ∀ v ∈ rest,∃ k' b,v = .ref b ∧ PKey prog w s.heap k' b) _ ?_ ?_ _ _ ⟨rfl,rfl,hl⟩
 ·rintro v rest r s' ⟨hr,rfl,hall⟩
  obtain ⟨k',b,rfl,hb⟩ := hall v List.mem_cons_self
  have go : ∀ u ∈ rest,∃ k' b,u = .ref b ∧ PKey prog w s'.heap k' b := fun u hu => hall u (List.mem_cons_of_mem _ hu)
  dsimp only
  by_cases hab : (a == b || (carriedByValue (.ref a) && carriedByValue (.ref b))) = true
  ·rw [if_pos hab]
   exact wpAny_pure ⟨rfl,rfl,go⟩
  ·rw [if_neg hab]
   refine wpAny_bind ((tupleKind (intKind prog w)).quiet hk ?_)
   simp only [Bool.not_true,Bool.false_eq_true,if_false]
   refine wpAny_bind ((tupleKind (intKind prog w)).quiet hb ?_)
   simp only [Bool.not_true,Bool.false_eq_true,if_false]
   refine wpAny_bind (zaF hk ?_)
   simp only [Bool.false_eq_true,if_false]
   refine wpAny_bind (zaF hb ?_)
   simp only [Bool.false_eq_true,if_false]
   exact wpAny_pure ⟨rfl,rfl,go⟩
 ·rintro ⟨r1,r2⟩ s' ⟨hr,rfl,_⟩
  simp only at hr
  subst hr
  exact wpAny_pure h
end
structure EsP (prog : Program) (w : World) (h : Heap) (es : List (Int × Value)) (S : List (List Int)) : Prop where
 all : ∀ e ∈ es,∃ k a,e = (pHash prog w k,.ref a) ∧ PKey prog w h k a
 mem : ∀ k,k ∈ S ↔ ∃ e ∈ es,∃ a,e = (pHash prog w k,.ref a) ∧ PKey prog w h k a
 len : es.length = S.length
structure PSet (prog : Program) (w : World) (h : Heap) (sa : Addr) (S : List (List Int)) (es : Array (Int × Value)) (ep : Nat) (tb : SetTable) : Prop where
 at_ : SetAt w h sa es ep tb
 ri : RI tb (es.toList.map (·.1))
 es : EsP prog w h es.toList S
section
variable {prog : Program} {w : World} {A : Around} {E : Value → Shared → Prop} {s : Shared}
theorem zcB {sa a : Addr} {S : List (List Int)} {es : Array (Int × Value)} {ep : Nat} {tb : SetTable} {k : List Int} {N : Nat} {Q : SetFound → Shared → Prop} (P : PSet prog w s.heap sa S es ep tb) (hk : PKey prog w s.heap k a) (hu : A.units < cLine)
 (hN : N < 10 * SetTable.turns tb.mask) (he : tb.slot (pth tb (pHash prog w k) N).j = .empty) (hf : ∀ m,m < N → tb.slot (pth tb (pHash prog w k) m).j ≠ .empty)
 (h1 : k ∈ S → Q (.there none) s) (h2 : k ∉ S → Q (.free (pth tb (pHash prog w k) N).j false) s) : ∀ (d m fuel : Nat) (stand : Option SetTable.Probe),N - m = d → m ≤ N → d < fuel → stand.getD (tb.probeStart (pHash prog w k)) = pth tb (pHash prog w k) m →
  (k ∈ S → ∃ n i b,m ≤ n ∧ n < N ∧ tb.slot (pth tb (pHash prog w k) n).j = .live i ∧ es[i]? = some (pHash prog w k,.ref b) ∧ PKey prog w s.heap k b) →
  wpAny (model prog w) A (setSearchFrom sa (.ref a) (pHash prog w k) true fuel stand) Q E s := by
 intro d
 induction d using Nat.strongRecOn with
 | _ d ih =>
   intro m fuel stand hd hm hfu hst hin
   cases fuel with
   | zero => exact absurd hfu (Nat.not_lt_zero _)
   | succ fuel =>
     unfold setSearchFrom
     refine wpAny_bind (yV P.at_ ?_)
     dsimp only
     have hgw : tb.gaveWay = false := by
      unfold SetTable.gaveWay
      rcases P.at_.tab.mask with ⟨q,_⟩ | ⟨q,_⟩ <;> rw [q] <;> rfl
     rw [if_neg (by rw [hgw]; exact Bool.false_ne_true),hst]
     have live_e : ∀ n i,tb.slot (pth tb (pHash prog w k) n).j = .live i → ∃ e,es[i]? = some e := fun n i hl => by
      have hp := zfg hl
      have hlt : i < es.size := by rw [← P.at_.tab.size]; exact (Array.getElem?_eq_some_iff.mp hp).1
      exact ⟨_,Array.getElem?_eq_getElem hlt⟩
     have next_pair : ∀ (n i : Nat) (k' : List Int) (b : Addr),m ≤ n → n < N → tb.slot (pth tb (pHash prog w k) n).j = .live i → (∀ n',m ≤ n' → n' < n → ∀ i',tb.slot (pth tb (pHash prog w k) n').j = .live i' → (es[i']?.map (·.1)).getD 0 ≠ pHash prog w k) →
      es[i]? = some (pHash prog w k',.ref b) → PKey prog w s.heap k' b → k' ≠ k → wpAny (model prog w) A (setSearchFrom sa (.ref a) (pHash prog w k) true fuel (some (pth tb (pHash prog w k) (n + 1)))) Q E s := by
      intro n i k' b q1 q2 q3 q6 hei hb hkk
      refine ih (N - (n + 1)) (by lia) (n + 1) fuel (some (pth tb (pHash prog w k) (n + 1))) rfl (by lia) (by lia) rfl fun hks => ?_
      obtain ⟨n',i',b',r1,r2,r3,r4,r5⟩ := hin hks
      refine ⟨n',i',b',?_,r2,r3,r4,r5⟩
      rcases Nat.lt_or_ge n n' with hlt | hge
      ·exact hlt
      ·exfalso
       rcases Nat.lt_or_eq_of_le hge with hlt | heq
       ·refine q6 n' r1 hlt i' r3 ?_
        simp only [r4,Option.map_some,Option.getD_some]
       ·subst heq
        rw [q3] at r3
        cases r3
        rw [hei] at r4
        have e2 := (Prod.mk.inj (Option.some.inj r4)).2
        have e3 : b = b' := by injection e2
        subst e3
        exact hkk (hb.inj r5)
     rcases zf8 (ha := fun i => (es[i]?.map (·.1)).getD 0) P.at_.tab.dummies he hf d m (10 * SetTable.turns tb.mask) hd hm (by lia) with ⟨n,i,q1,q2,q3,q4,q5,q6⟩ | ⟨q5,q6⟩
     ·split
      rotate_left
      ·rename_i hp
       exact (hp _ q5).elim
      ·rename_i met hp
       have em : met = .candidate (pth tb (pHash prog w k) n).j i (pth tb (pHash prog w k) (n + 1)) := Option.some.inj (hp.symm.trans q5)
       subst em
       dsimp only
       obtain ⟨e,hei⟩ := live_e n i q3
       have hme : e ∈ es.toList := by
        rw [← Array.getElem?_toList] at hei
        exact List.mem_of_getElem? hei
       obtain ⟨k',b,rfl,hb⟩ := P.es.all e hme
       have hstored : ∀ v ∈ (es.filter fun x => x.1 == pHash prog w k).toList.map (·.2),∃ k' b,v = .ref b ∧ PKey prog w s.heap k' b := fun v hv => by
        obtain ⟨e,he',rfl⟩ := List.mem_map.mp hv
        rw [Array.toList_filter,List.mem_filter] at he'
        obtain ⟨k2,b2,rfl,hb2⟩ := P.es.all e he'.1
        exact ⟨k2,b2,rfl,hb2⟩
       have hsm : tb.sameMemory tb.moves tb.mask = some true := by unfold SetTable.sameMemory; simp
       refine wpAny_ite_split (fun hl => wpAny_bind (zcx hk hstored ?_)) fun hl => ?_
       ·rw [if_neg Bool.false_ne_true,hei]
        refine wpAny_bind (wpAny_holding ((tupleKind (intKind prog w)).eqBool hu hb hk ?_))
        refine wpAny_bind (yV P.at_ ?_)
        by_cases hkk : k' = k
        ·subst hkk
         rw [if_pos (by simp)]
         exact wpAny_pure (h1 ((P.es.mem k').mpr ⟨_,hme,b,rfl,hb⟩))
        ·rw [if_neg (by simp [hkk])]
         dsimp only
         rw [hsm]
         dsimp only
         rw [if_pos rfl,q3]
         dsimp only
         rw [hei]
         refine wpAny_bind (wpAny_isSame_ref_self ?_)
         refine wpAny_bind (wpAny_pure ?_)
         rw [if_pos rfl]
         dsimp only
         rw [if_neg (by simp [hkk])]
         exact next_pair n i k' b q1 q2 q3 q6 hei hb hkk
       ·rw [hei]
        refine wpAny_bind (wpAny_holding ((tupleKind (intKind prog w)).eqBool hu hb hk ?_))
        refine wpAny_bind (yV P.at_ ?_)
        by_cases hkk : k' = k
        ·subst hkk
         rw [if_pos (by simp)]
         exact wpAny_pure (h1 ((P.es.mem k').mpr ⟨_,hme,b,rfl,hb⟩))
        ·rw [if_neg (by simp [hkk])]
         dsimp only
         rw [hsm]
         dsimp only
         rw [if_pos rfl,q3]
         dsimp only
         rw [hei]
         refine wpAny_bind (wpAny_isSame_ref_self ?_)
         refine wpAny_bind (wpAny_pure ?_)
         rw [if_pos rfl]
         dsimp only
         rw [if_neg (by simp [hkk])]
         exact next_pair n i k' b q1 q2 q3 q6 hei hb hkk
     ·have hns : k ∉ S := fun hks => by
       obtain ⟨n,i,b,r1,r2,r3,r4,_⟩ := hin hks
       refine q6 n r1 r2 i r3 ?_
       simp only [r4,Option.map_some,Option.getD_some]
      split
      rotate_left
      ·rename_i hp
       exact (hp _ q5).elim
      ·rename_i met hp
       have em : met = .empty (pth tb (pHash prog w k) N).j none := Option.some.inj (hp.symm.trans q5)
       subst em
       exact wpAny_pure (h2 hns)
theorem zeS {sa : Addr} {S : List (List Int)} {es : Array (Int × Value)} {ep : Nat} {tb : SetTable} {k : List Int} {N : Nat} (P : PSet prog w s.heap sa S es ep tb)
 (he : tb.slot (pth tb (pHash prog w k) N).j = .empty) (hf : ∀ m,m < N → tb.slot (pth tb (pHash prog w k) m).j ≠ .empty) (hks : k ∈ S) :
 ∃ n i b,0 ≤ n ∧ n < N ∧ tb.slot (pth tb (pHash prog w k) n).j = .live i ∧ es[i]? = some (pHash prog w k,.ref b) ∧ PKey prog w s.heap k b := by
 obtain ⟨e,hme,b,rfl,hb⟩ := (P.es.mem k).mp hks
 obtain ⟨i,hi⟩ := List.getElem?_of_mem hme
 have hlt : i < es.toList.length := (List.getElem?_eq_some_iff.mp hi).1
 rw [Array.length_toList] at hlt
 have hlt2 : i < tb.place.size := by rw [P.at_.tab.size]; exact hlt
 have hp : tb.place[i]? = some tb.place[i] := Array.getElem?_eq_getElem hlt2
 have hz : (pHash prog w k,tb.place[i]) ∈ (es.toList.map (·.1)).zip tb.place.toList := by
  refine List.mem_of_getElem? (i := i) ?_
  rw [List.getElem?_zip_eq_some]
  refine ⟨by rw [List.getElem?_map,hi]; rfl,by rw [Array.getElem?_toList]; exact hp⟩
 obtain ⟨m,h1,h2⟩ := P.ri _ hz
 have hs := vD P.at_.tab.rise hp
 have hmN : m < N := by
  rcases Nat.lt_or_ge m N with hlt' | hge
  ·exact hlt'
  ·exfalso
   rcases Nat.lt_or_eq_of_le hge with hlt' | heq
   ·exact (wZ P.at_.tab.dummies P.at_.tab.rise _).mp he (h2 N hlt')
   ·subst heq
    rw [h1,hs] at he
    cases he
 refine ⟨m,i,b,Nat.zero_le _,hmN,by rw [h1]; exact hs,by rw [← Array.getElem?_toList]; exact hi,hb⟩
theorem PKey.stay {h h' : Heap} {k : List Int} {a sa : Addr} {es : Array (Int × Value)} {ep : Nat} {tb : SetTable} (hk : PKey prog w h k a) (S : SetAt w h sa es ep tb) (hs : Heap.SameBut sa h h') : PKey prog w h' k a := by
 obtain ⟨o,items,n,ho,hc,hd,hi⟩ := hk
 obtain ⟨o2,ho2,_,hd2⟩ := S.ex
 have hne : a ≠ sa := by
  rintro rfl
  rw [ho] at ho2
  cases ho2
  rw [hd] at hd2
  cases hd2
 exact ⟨o,items,n,(hs.2 a hne).trans ho,hc,hd,hi⟩
theorem EsP.stay {h h' : Heap} {l : List (Int × Value)} {T : List (List Int)} {sa : Addr} {es : Array (Int × Value)} {ep : Nat} {tb : SetTable} (X : EsP prog w h l T) (S : SetAt w h sa es ep tb) (hs : Heap.SameBut sa h h') : EsP prog w h' l T where
 all := fun e he => let ⟨k,a,q,r⟩ := X.all e he; ⟨k,a,q,r.stay S hs⟩
 mem := fun k => by
  rw [X.mem k]
  constructor
  ·rintro ⟨e,he,a,q,r⟩
   exact ⟨e,he,a,q,r.stay S hs⟩
  ·rintro ⟨e,he,a,q,r⟩
   obtain ⟨k2,a2,q2,r2⟩ := X.all e he
   have e2 : a2 = a := by
    have := (Prod.mk.inj (q2.symm.trans q)).2
    injection this
   subst e2
   have : k2 = k := (r2.stay S hs).inj r
   subst this
   exact ⟨e,he,a2,q,r2⟩
 len := X.len
theorem EsP.of_perm {h : Heap} {l l' : List (Int × Value)} {T : List (List Int)} (X : EsP prog w h l T) (p : l'.Perm l) : EsP prog w h l' T where
 all := fun e he => X.all e (p.mem_iff.mp he)
 mem := fun k => by
  rw [X.mem k]
  constructor
  ·rintro ⟨e,he,r⟩; exact ⟨e,p.mem_iff.mpr he,r⟩
  ·rintro ⟨e,he,r⟩; exact ⟨e,p.mem_iff.mp he,r⟩
 len := p.length_eq.trans X.len
theorem EsP.push {h : Heap} {l : List (Int × Value)} {T : List (List Int)} (X : EsP prog w h l T) {k : List Int} {a : Addr} (hk : PKey prog w h k a) : EsP prog w h (l ++ [(pHash prog w k,.ref a)]) (T ++ [k]) where
 all := fun e he => by
  rcases List.mem_append.mp he with he | he
  ·exact X.all e he
  ·rw [List.mem_singleton] at he; exact ⟨k,a,he,hk⟩
 mem := fun k2 => by
  rw [List.mem_append,List.mem_singleton,X.mem k2]
  constructor
  ·rintro (⟨e,he,r⟩ | rfl)
   ·exact ⟨e,List.mem_append_left _ he,r⟩
   ·exact ⟨_,List.mem_append_right _ (List.mem_singleton.mpr rfl),a,rfl,hk⟩
  ·rintro ⟨e,he,a2,q,r⟩
   rcases List.mem_append.mp he with he | he
   ·exact .inl ⟨e,he,a2,q,r⟩
   ·rw [List.mem_singleton] at he
    rw [he] at q
    have e2 : a = a2 := by
     have := (Prod.mk.inj q).2
     injection this
    subst e2
    exact .inr (r.inj hk)
 len := by simp [X.len]
theorem zet {sa : Addr} {o : Obj} {es : Array (Int × Value)} {ep : Nat} {tb : SetTable} {Q : Unit → Shared → Prop} (ho : s.heap.get? sa = some o) (hx : o.ExactSet) (hd : o.data = .set es ep tb) (hf : tb.fits es.size = true) (hp : tb.plain = true)
 (hled : tb.led = !w.params.followText "set-order") (hn : es.size = 5)
 (h : ∀ h' es' ep' tb',Heap.SameBut sa s.heap h' → SetAt w h' sa es' ep' tb' → RI tb' (es'.toList.map (·.1)) → List.Perm es'.toList es.toList → Q () { s with heap := h' }) :
 wpAny (model prog w) A (setRelay sa (SetTable.grown 5)) Q E s := by
 obtain ⟨es2,t2,order,e1,e2,T2,l2,p2,z2,r2⟩ := zft tb es hp hn
 unfold setRelay
 refine wpAny_bind (wpAny_setState_of ho hd hf ?_)
 dsimp only
 rw [if_neg (by decide)]
 rw [e1]
 refine wpAny_bind ?_
 have hz : ((order.filterMap (es[·]?)).size != es.size) = false := by rw [e2,z2,hn]; rfl
 refine wpAny_of_eq (a := (es2,t2)) (by
  show (if ((order.filterMap (es[·]?)).size != es.size) = true then _ else pure (order.filterMap (es[·]?),t2)) = _
  rw [hz,if_neg Bool.false_ne_true,e2]) ?_
 refine wpAny_storeSet_of ho hd ?_ (by rw [z2,sizeLine_eq]; lia)
 have hg : (s.heap.update sa (Obj.putSet es2 t2)).get? sa = some { o with data := .set es2 (ep + 1) t2 } := by
  have := Heap.get?_update_self (Obj.putSet es2 t2) ho (by rw [putSet_of _ _ hd]; rfl)
  rw [putSet_of _ _ hd] at this
  exact this
 exact h _ es2 (ep + 1) t2 (Heap.SameBut.update s.heap sa _) ⟨⟨_,hg,hx,rfl⟩,T2,l2.trans hled⟩ r2 p2
theorem zg8 {sa a : Addr} {S : List (List Int)} {es : Array (Int × Value)} {ep : Nat} {tb : SetTable} {k : List Int} {Q : Bool → Shared → Prop} (P : PSet prog w s.heap sa S es ep tb) (hk : PKey prog w s.heap k a) (hu : A.units < cLine) (hn : S.length < 18)
 (h : ∀ b h' tk es' ep' tb',s.toks ≤ tk → Heap.SameBut sa s.heap h' → PSet prog w h' sa (if k ∈ S then S else S ++ [k]) es' ep' tb' → (∀ e ∈ es'.toList,e ∈ es.toList ∨ e.2 = .ref a) → Q b { s with heap := h',toks := tk }) :
 wpAny (model prog w) A (setAdd sa (.ref a)) Q E s := by
 have hsz : es.size = S.length := by rw [← Array.length_toList]; exact P.es.len
 unfold setAdd
 refine wpAny_holding ?_
 refine wpAny_bind ((tupleKind (intKind prog w)).pyHash (k := k) hu hk ?_)
 obtain ⟨tk,htk⟩ : ∃ tk,tk = s.toks + (tupleKind (intKind prog w)).draws k := ⟨_,rfl⟩
 have hle : s.toks ≤ tk := by lia
 rw [← htk]
 show wpAny (model prog w) A (setAddHashed sa (.ref a) (pHash prog w k)) Q E _
 obtain ⟨N,hN,he,hf⟩ := zc0 P.at_.tab (pHash prog w k)
 have P1 : PSet prog w ({ s with toks := tk } : Shared).heap sa S es ep tb := P
 have hk1 : PKey prog w ({ s with toks := tk } : Shared).heap k a := hk
 unfold setAddHashed setAddHashedIn
 refine wpAny_holding (wpAny_bind (yV P1.at_ ?_))
 dsimp only
 have hbs : byScan (.ref a) es = false := rfl
 rw [if_neg (by rw [hbs]; exact Bool.false_ne_true)]
 refine wpAny_bind ?_
 unfold setSearch
 refine zcB P1 hk1 hu hN he hf (fun hks => ?_) (fun hks => ?_) N 0 100000 none (by lia) (Nat.zero_le _) (by
  have : SetTable.turns tb.mask ≤ 46 := by unfold SetTable.turns; rcases P.at_.tab.mask with ⟨q,_⟩ | ⟨q,_⟩ <;> lia
  lia) rfl fun hks => zeS P1 he hf hks
 ·refine wpAny_pure ?_
  rw [if_pos hks] at h
  exact h false s.heap tk es ep tb hle (Heap.SameBut.refl sa s.heap) P fun e he => .inl he
 ·rw [if_neg hks] at h
  refine wpAny_bind (yV P1.at_ ?_)
  dsimp only
  obtain ⟨p1,p2,p3⟩ := zh9 P.at_.tab he
  obtain ⟨p,hp⟩ : ∃ p,p = (tb.put (pth tb (pHash prog w k) N).j).2 := ⟨_,rfl⟩
  rw [← hp] at p1 p2 p3
  rw [p1,← hp]
  obtain ⟨o,ho,hx,hd⟩ := P.at_.ex
  obtain ⟨tb1,htb⟩ : ∃ x,x = ({ tb with place := SetTable.insertAt tb.place p (pth tb (pHash prog w k) N).j } : SetTable) := ⟨_,rfl⟩
  have z1 : (SetTable.insertAt es p (pHash prog w k,.ref a)).size = es.size + 1 := by
   have := (SetTable.insertAt_perm es p (pHash prog w k,Value.ref a)).length_eq
   simpa using this
  have z2 : (SetTable.insertAt tb.place p (pth tb (pHash prog w k) N).j).size = es.size + 1 := by
   have := (SetTable.insertAt_perm tb.place p (pth tb (pHash prog w k) N).j).length_eq
   rw [← P.at_.tab.size]
   simpa using this
  have y1 : tb1.plain = true := by rw [htb]; exact P.at_.tab.plain
  have y2 : tb1.dummies = #[] := by rw [htb]; exact P.at_.tab.dummies
  have y3 : tb1.mask = tb.mask := by rw [htb]
  have y4 : tb1.led = tb.led := by rw [htb]
  have y5 : tb1.place.size = es.size + 1 := by rw [htb]; exact z2
  have y6 : tb1.place.toList.Pairwise (· < ·) := by rw [htb]; exact p2
  have y7 : RI tb1 ((SetTable.insertAt es p (pHash prog w k,.ref a)).toList.map (·.1)) := by
   rw [SetTable.toList_insertAt,List.map_append,List.map_cons,List.map_take,List.map_drop,htb]
   exact P.ri.put (by simp [P.at_.tab.size]) P.at_.tab.dummies P.at_.tab.rise hf
  rw [← htb]
  rw [if_pos y1]
  refine wpAny_bind (zcm hk1 ?_)
  simp only [if_true]
  have hE1 : EsP prog w s.heap (SetTable.insertAt es p (pHash prog w k,.ref a)).toList (S ++ [k]) := (P.es.push hk).of_perm (by
   have := SetTable.insertAt_perm es p (pHash prog w k,Value.ref a)
   exact this.trans (by
    first
    | exact (List.perm_append_singleton _ _).symm
    | simp))
  have hsub : ∀ e ∈ (SetTable.insertAt es p (pHash prog w k,Value.ref a)).toList,e ∈ es.toList ∨ e.2 = .ref a := fun e he => by
   rw [SetTable.toList_insertAt,List.mem_append,List.mem_cons] at he
   rcases he with he | rfl | he
   ·exact .inl (List.mem_of_mem_take he)
   ·exact .inr rfl
   ·exact .inl (List.mem_of_mem_drop he)
  refine wpAny_bind (wpAny_storeSet_of (s := { s with toks := tk }) ho hd ?_ (by rw [z1,sizeLine_eq]; lia))
  dsimp only
  have sb := Heap.SameBut.update s.heap sa (Obj.putSet (SetTable.insertAt es p (pHash prog w k,.ref a)) tb1)
  have hg : (s.heap.update sa (Obj.putSet (SetTable.insertAt es p (pHash prog w k,.ref a)) tb1)).get? sa = some { o with data := .set (SetTable.insertAt es p (pHash prog w k,.ref a)) (ep + 1) tb1 } := by
   have := Heap.get?_update_self (Obj.putSet (SetTable.insertAt es p (pHash prog w k,Value.ref a)) tb1) ho (by rw [putSet_of _ _ hd]; rfl)
   rw [putSet_of _ _ hd] at this
   exact this
  by_cases h5 : tb.mask = 7 ∧ es.size = 4
  ·have htf : SetTable.tooFull tb1 = true := by
    unfold SetTable.tooFull SetTable.fill
    rw [y5,y2,y3,h5.1,h5.2]
    rfl
   rw [if_pos (by rw [htf]; rfl)]
   have hf1 : tb1.fits (SetTable.insertAt es p (pHash prog w k,.ref a)).size = true := by
    unfold SetTable.fits SetTable.fill
    rw [z1,y5,y2,y3,h5.1,h5.2]
    rfl
   have e5 : es.size + 1 = 5 := by lia
   rw [e5]
   refine wpAny_bind (zet (s := { s with heap := s.heap.update sa (Obj.putSet (SetTable.insertAt es p (pHash prog w k,.ref a)) tb1),toks := tk }) hg hx rfl hf1 y1 (y4.trans P.at_.led) (by rw [z1]; exact e5) fun h' es' ep' tb' sb2 S2 r2 p2' => ?_)
   refine wpAny_pure (h true h' tk es' ep' tb' hle (sb.trans sb2) ⟨S2,r2,?_⟩ fun e he => hsub e (p2'.mem_iff.mp he))
   exact (hE1.stay P.at_ (sb.trans sb2)).of_perm p2'
  ·have htf : SetTable.tooFull tb1 = false := by
    unfold SetTable.tooFull SetTable.fill
    rw [y5,y2,y3]
    rcases P.at_.tab.mask with ⟨q,q2⟩ | ⟨q,q2⟩ <;> rw [q] <;> simp <;> lia
   rw [if_neg (by rw [htf]; simp)]
   have T1 : TabOk tb1 (SetTable.insertAt es p (pHash prog w k,.ref a)).size := ⟨y1,y2,by rw [z1]; exact y5,y6,by
    rw [z1,y3]
    rcases P.at_.tab.mask with ⟨q,q2⟩ | ⟨q,q2⟩
    ·exact .inl ⟨q,by lia⟩
    ·exact .inr ⟨q,by lia⟩⟩
   exact wpAny_pure (h true _ tk _ (ep + 1) tb1 hle sb ⟨P.at_.store T1 y4,y7,hE1.stay P.at_ sb⟩ hsub)
end
end DL
namespace DL
open PySem PySem.Spec PyProof.Rows L2
noncomputable def metP (ks : List (List Int)) : List (List Int) := ks.foldl (fun σ k => if k ∈ σ then σ else σ ++ [k]) []
theorem zbP (ks : List (List Int)) (k : List Int) : metP (ks ++ [k]) = if k ∈ metP ks then metP ks else metP ks ++ [k] := by
 unfold metP
 rw [List.foldl_append]
 rfl
theorem zfQ (ks : List (List Int)) (i : Nat) (h : i < ks.length) : metP (ks.take (i + 1)) = if ks[i] ∈ metP (ks.take i) then metP (ks.take i) else metP (ks.take i) ++ [ks[i]] := by
 rw [List.take_succ_eq_append_getElem h,zbP]
theorem zfR (ks : List (List Int)) : (metP ks).length ≤ ks.length := by
 have : ∀ (l σ : List (List Int)),(l.foldl (fun σ k => if k ∈ σ then σ else σ ++ [k]) σ).length ≤ σ.length + l.length := by
  intro l
  induction l with
  | nil => intro σ; simp
  | cons k l ih =>
    intro σ
    rw [List.foldl_cons]
    refine Nat.le_trans (ih _) ?_
    split <;> simp <;> lia
 have q := this ks []
 simp only [List.length_nil,Nat.zero_add] at q
 exact q
theorem PKey.at {prog : Program} {w : World} {h h' : Heap} {k : List Int} {a : Addr} (x : PKey prog w h k a) (hk : ∀ o,h.get? a = some o → h'.get? a = some o) : PKey prog w h' k a := by
 obtain ⟨o,its,n,ho,r⟩ := x
 exact ⟨o,its,n,hk o ho,r⟩
theorem PSet.keep {prog : Program} {w : World} {h h' : Heap} {sa B : Addr} {S : List (List Int)} {es : Array (Int × Value)} {ep : Nat} {tb : SetTable} (P : PSet prog w h sa S es ep tb) (hB : ∀ e ∈ es.toList,∀ a,e.2 = .ref a → a < B)
 (hk : ∀ b o,b = sa ∨ b < B → h.get? b = some o → h'.get? b = some o) : PSet prog w h' sa S es ep tb where
 at_ := P.at_.keep fun o e => hk sa o (.inl rfl) e
 ri := P.ri
 es := {
  all := fun e he => let ⟨k,a,q,r⟩ := P.es.all e he; ⟨k,a,q,r.at fun o eo => hk a o (.inr (hB e he a (by rw [q]))) eo⟩
  mem := fun k => by
   rw [P.es.mem k]
   constructor
   ·rintro ⟨e,he,a,q,r⟩
    exact ⟨e,he,a,q,r.at fun o eo => hk a o (.inr (hB e he a (by rw [q]))) eo⟩
   ·rintro ⟨e,he,a,q,r⟩
    obtain ⟨k2,a2,q2,r2⟩ := P.es.all e he
    have e2 : a2 = a := by
     have := (Prod.mk.inj (q2.symm.trans q)).2
     injection this
    subst e2
    have : k2 = k := (r2.at fun o eo => hk a2 o (.inr (hB e he a2 (by rw [q2]))) eo).inj r
    subst this
    exact ⟨e,he,a2,q,r2⟩
  len := P.es.len }
section
variable {prog : Program} {w : World} {A : Around} {R : Result → Shared → Prop} {I : Addr} {fp wr : List Addr} {G : Array GenState → Array GenState → Prop} {P : Nat → Value → Prop} {St : Nat → Shared → Prop}
theorem zbr {B : Addr} {ks : List (List Int)} {as : List Addr} (W : WalksS prog w A.in1 I fp wr G ks.length P St) (S : Addr) (hSf : S ∉ fp) (hSB : B ≤ S) (hwr : ∀ b ∈ wr,B ≤ b) (hval : ∀ i v,P i v → ∃ a,as[i]? = some a ∧ v = .ref a) (hlt : ∀ a ∈ as,a < B) (hlen : as.length = ks.length) (hb : ks.length < 18) (hu : A.in1.units < cLine) :
 ∀ (k i : Nat) (s : Shared) (es : Array (Int × Value)) (ep : Nat) (tb : SetTable),ks.length - i = k → i ≤ ks.length → St i s → PSet prog w s.heap S (metP (ks.take i)) es ep tb → (∀ e ∈ es.toList,∀ a,e.2 = .ref a → a < B) → (∀ (j : Nat) (a : Addr) (k : List Int),as[j]? = some a → ks[j]? = some k → PKey prog w s.heap k a) →
   (∀ s' es' ep' tb',Moved (S :: wr) G s s' → PSet prog w s'.heap S (metP ks) es' ep' tb' → R (.ok (.ret .none)) s') →
   codeAny (model prog w) A (.builtin "set.update.loop" ⟨[.ref S,.ref I],[]⟩) R s := by
 have hSw : S ∉ wr := fun h => hSf (W.sub _ h)
 have hsub : ∀ b ∈ wr,b ∈ S :: wr := fun b hb => List.mem_cons_of_mem _ hb
 have low : ∀ b,b < B → b ∉ wr := fun b h1 h2 => absurd (hwr b h2) (Nat.not_le.mpr h1)
 intro k
 induction k with
 | zero =>
   intro i s es ep tb hk hi hst hS hB hks hR
   have hin : i = ks.length := by lia
   subst hin
   refine codeAny_builtin F.entry_set_update_loop ?_
   rw [Around.under_plainId F.plain_set_update_loop _]
   show wpAny _ A.in1 (pyNext (.ref I) >>= _) _ _ s
   refine wpAny_bind (W.done s _ _ hst fun s' hm => ?_)
   show wpAny _ A.in1 (ret Value.none) _ _ s'
   rw [List.take_length] at hS
   exact wpAny_pure (hR s' es ep tb (hm.mono hsub) (hS.keep hB fun b o hb ho => hm.heap b o (by
    rcases hb with rfl | hb
    ·exact hSw
    ·exact low b hb) ho))
 | succ k ih =>
   intro i s es ep tb hk hi hst hS hB hks hR
   have hlt2 : i < ks.length := by lia
   refine codeAny_builtin F.entry_set_update_loop ?_
   rw [Around.under_plainId F.plain_set_update_loop _]
   show wpAny _ A.in1 (pyNext (.ref I) >>= _) _ _ s
   refine wpAny_bind (W.item i s _ _ hlt2 hst fun v s' hP hst' hm => ?_)
   obtain ⟨a,ha,rfl⟩ := hval i v hP
   have haB := hlt a (List.mem_of_getElem? ha)
   have keep : ∀ b o,b = S ∨ b < B → s.heap.get? b = some o → s'.heap.get? b = some o := fun b o hb ho => hm.heap b o (by
    rcases hb with rfl | hb
    ·exact hSw
    ·exact low b hb) ho
   have hS' := hS.keep hB keep
   have hks' : ∀ (j : Nat) (a : Addr) (k : List Int),as[j]? = some a → ks[j]? = some k → PKey prog w s'.heap k a := fun j a k h1 h2 => (hks j a k h1 h2).at fun o ho => keep a o (.inr (hlt a (List.mem_of_getElem? h1))) ho
   show wpAny _ A.in1 (holding [Value.ref a] (setAdd S (.ref a)) >>= _) _ _ s'
   refine wpAny_bind (wpAny_holding ?_)
   have hl := zfR (ks.take i)
   rw [List.length_take] at hl
   refine zg8 hS' (hks' i a _ ha (List.getElem?_eq_getElem hlt2)) hu (by lia) fun b h' tk es' ep' tb' htk hsb hS2 hsub2 => ?_
   rw [← zfQ ks i hlt2] at hS2
   have hB2 : ∀ e ∈ es'.toList,∀ a,e.2 = .ref a → a < B := fun e he a2 h2 => by
    rcases hsub2 e he with h3 | h3
    ·exact hB e h3 a2 h2
    ·rw [h3] at h2
     have : a = a2 := by injection h2
     rw [← this]; exact haB
   refine wpAny_pure ⟨plainId_quiet F.plain_set_update_loop _,ih (i + 1) _ es' ep' tb' (by lia) hlt2 (W.frame _ s' _ _ hst' htk fun b hb o e => ?_) hS2 hB2 (fun j a k h1 h2 => (hks' j a k h1 h2).at fun o ho => ?_) fun s'' es'' ep'' tb'' hm'' hS'' => ?_⟩
   ·rw [hsb.2 b (fun h : b = S => hSf (by rw [← h]; exact hb))]; exact e
   ·have haS : a ≠ S := fun z => by
     have := Nat.lt_of_lt_of_le (hlt a (List.mem_of_getElem? h1)) hSB
     rw [z] at this
     exact Nat.lt_irrefl _ this
    rw [hsb.2 a haS]; exact ho
   ·refine hR s'' es'' ep'' tb'' (Moved.trans W.gtrans ((hm.mono hsub).then_heap htk fun b o hb e => ?_) hm'') hS''
    rw [hsb.2 b (fun h : b = S => hb (by rw [h]; exact List.mem_cons_self))]; exact e
end
section
variable {prog : Program} {w : World} {A : Around} {E : Value → Shared → Prop} {s : Shared}
theorem zgt {l : Addr} {items : Array Value} {ks : List (List Int)} {as : List Addr} {Q : Value → Shared → Prop}
 (hh : A.handled = none) (hu : A.units + 10 < cLine) (hl : s.heap.IsList l items) (hi : items.toList = as.map Value.ref) (hlen : as.length = ks.length) (hkeys : ∀ (j : Nat) (a : Addr) (k : List Int),as[j]? = some a → ks[j]? = some k → PKey prog w s.heap k a) (hb : ks.length < 18)
 (h : ∀ (h' : Heap) (tk : Nat) es ep tb,s.toks ≤ tk → PSet prog w h' s.heap.objs.size (metP ks) es ep tb →
  (∀ b o,b < s.heap.objs.size → s.heap.get? b = some o → h'.get? b = some o) → Q (.ref s.heap.objs.size) { s with heap := h',toks := tk }) :
 wpAny (model prog w) A (call (.type "set") [.ref l]) Q E s := by
 obtain ⟨c,tl,hmro⟩ := F.called_set.mro
 have hmade := F.called_set.made
 have hsub := F.called_set.sub
 refine wpAny_call (codeAny_of_tree ?_)
 show wpAny _ _ (callAny (.type "set") _) _ _ _
 refine wpAny_pure ⟨Code.quiet_builtin _ (by decide +kernel),codeAny_builtin F.entry_type_call ?_⟩
 rw [Around.under_plain (weight_type_call_type "set" [.ref l] []) rfl]
 have h1 := F.called_set.notType
 have h2 := F.called_set.canCreate
 have hct := F.typeCall_set_1 (.ref l)
 repeat (any_goals (first | assumption | wp_step))
 have hlen2 : items.size = ks.length := by rw [← Array.length_toList,hi,List.length_map]; exact hlen
 generalize hled : (!w.params.followText "set-order") = led
 refine codeAny_mono (zdB (.ref l) (E := E) (Q₁ := fun obj s₁ => obj = .ref s.heap.objs.size ∧ s₁ = { s with heap := s.heap.push { cls := .type "set",dict := none,data := .set #[] 0 (.fresh 0 0 led) } }) (by rw [hled]; exact ⟨rfl,rfl⟩)) fun r s₁ hr => ?_
 cases r with
 | error e => exact hr
 | ok fl =>
   cases fl with
   | ret obj =>
     obtain ⟨rfl,rfl⟩ := hr
     have hS : (s.heap.push { cls := .type "set",dict := none,data := .set #[] 0 (.fresh 0 0 led) }).get? s.heap.objs.size = some { cls := .type "set",dict := none,data := .set #[] 0 (.fresh 0 0 led) } := Heap.get?_push_size _ rfl
     have hT : Shared.TypeIs { s with heap := s.heap.push { cls := .type "set",dict := none,data := .set #[] 0 (.fresh 0 0 led) } } (.ref s.heap.objs.size) "set" := ⟨_,hS,rfl⟩
     have hli := F.called_set.init.lookup
     have hbi := F.called_set.init.bind (.ref s.heap.objs.size)
     repeat (any_goals (first | assumption | wp_step))
     refine codeAny_mono (codeAny_call_builtin (R := wants (fun r s₂ => r = .none ∧ ∃ h' tk es ep tb,s₂ = { s with heap := h',toks := tk } ∧ s.toks ≤ tk ∧ PSet prog w h' s.heap.objs.size (metP ks) es ep tb ∧
      (∀ b o,b < s.heap.objs.size → s.heap.get? b = some o → h'.get? b = some o)) E) F.called_set.init.plain F.entry_set_init (check_set_init_1 hT ?_)) fun r₂ s₂ hr₂ => ?_
     ·obtain ⟨ol,hol,hcl,nl,hdl⟩ := hl
      obtain ⟨ocls,odict,odata,oslots⟩ := ol
      simp only at hcl hdl
      subst hcl; subst hdl
      have hol' : (s.heap.push { cls := .type "set",dict := none,data := .set #[] 0 (.fresh 0 0 led) }).get? l = some { cls := .type "list",dict := odict,data := .seq items nl,slots := oslots } := Heap.get?_push_of_some _ hol
      have hsls := F.sub_list_set
      have hslf := F.sub_list_frozenset
      have hne : (Value.type "list" == Value.type "dict") = false := by decide
      have hl1 : (s.heap.push { cls := .type "set",dict := none,data := .set #[] 0 (.fresh 0 0 led) }).IsList l items := ⟨_,hol',rfl,nl,rfl⟩
      unfold Builtin.«set.__init__» noKeywords Builtin.Frozenset.updateFrom
      generalize hPI : pyIter = PI
      wp_walk
      subst hPI
      refine wpAny_pyIter_list hl1 ?_
      refine wpAny_bind (wpAny_runValue ?_)
      have hlS : l < s.heap.objs.size := Heap.lt_size hol
      have hh3 : A.in1.in1.in1.handled = none := by simp [hh]
      have hneI : l ≠ (s.heap.push { cls := .type "set",dict := none,data := .set #[] 0 (.fresh 0 0 led) }).objs.size := by
       rw [Heap.size_push]; exact Nat.ne_of_lt (Nat.lt_succ_of_lt hlS)
      have hSf : s.heap.objs.size ∉ [(s.heap.push { cls := .type "set",dict := none,data := .set #[] 0 (.fresh 0 0 led) }).objs.size,l] := by
       rw [Heap.size_push]; simp only [List.mem_cons,List.mem_singleton,List.not_mem_nil,or_false,not_or]
       exact ⟨Nat.ne_of_lt (Nat.lt_succ_self _),Nat.ne_of_gt hlS⟩
      have hval : ∀ (i : Nat) (v : Value),items[i]? = some v → ∃ a,as[i]? = some a ∧ v = .ref a := fun i v hv => by
       rw [← Array.getElem?_toList,hi,List.getElem?_map] at hv
       cases q : as[i]? with
       | none => rw [q] at hv; cases hv
       | some a => rw [q] at hv; cases hv; exact ⟨a,rfl,rfl⟩
      have W := (Walks.list (prog := prog) (w := w) hh3 (s.heap.push { cls := .type "set",dict := none,data := .set #[] 0 (.fresh 0 0 led) }).objs.size l hneI items).toS
      rw [hlen2] at W
      have hlt : ∀ a ∈ as,a < s.heap.objs.size := fun a ha => by
       obtain ⟨j,hj⟩ := List.getElem?_of_mem ha
       have hjl : j < ks.length := by rw [← hlen]; exact (List.getElem?_eq_some_iff.mp hj).1
       obtain ⟨o,_,_,ho,_⟩ := hkeys j a _ hj (List.getElem?_eq_getElem hjl)
       exact Heap.lt_size ho
      have hA : A.in1.in1.in1.units < cLine := by
       show A.units + 1 + 1 + 1 < cLine
       lia
      refine zbr (B := s.heap.objs.size) W s.heap.objs.size hSf (Nat.le_refl _) (fun b hb => ?hwr) hval hlt hlen hb hA (ks.length - 0) 0 _ #[] 0 (.fresh 0 0 led) (by lia) (Nat.zero_le _)
       ⟨⟨_,Heap.get?_push_size _ rfl,rfl,rfl⟩,(hl1.push _)⟩ ?hS0 (fun e he => by simp at he) (fun j a k h1 h2 => ?hk0) ?hR
      case hwr =>
       have : b = (s.heap.push { cls := .type "set",dict := none,data := .set #[] 0 (.fresh 0 0 led) }).objs.size := by simpa using hb
       rw [this,Heap.size_push]
       exact Nat.le_succ _
      case hk0 =>
       obtain ⟨o,its,n,ho,r⟩ := hkeys j a k h1 h2
       exact ⟨o,its,n,Heap.get?_push_of_some _ (Heap.get?_push_of_some _ ho),r⟩
      case hS0 =>
       have hget : ((s.heap.push { cls := .type "set",dict := none,data := .set #[] 0 (.fresh 0 0 led) }).push { cls := .type "list_iterator",data := .fields #[.ref l,.int 0 0] }).get? s.heap.objs.size
        = some { cls := .type "set",dict := none,data := .set #[] 0 (.fresh 0 0 led) } := Heap.get?_push_of_some _ hS
       exact ⟨⟨⟨_,hget,⟨rfl,rfl,rfl⟩,rfl⟩,zbZ led,hled.symm⟩,RI.nil,⟨fun e he => by simp at he,fun k => by simp [metP],by simp [metP]⟩⟩
      case hR =>
       intro s' es ep tb hm hS'
       obtain ⟨h',g',d',tk',os'⟩ := s'
       have eg : g' = s.gens := hm.gens
       have ed : d' = s.drawn := hm.drawn
       have eo : os' = s.os := hm.os
       have etk : s.toks ≤ tk' := hm.toks
       subst eg; subst ed; subst eo
       show wpAny _ _ _ _ _ _
       refine wpAny_pure ?_
       show wpAny _ _ (ret Value.none) _ _ _
       refine wpAny_pure ⟨rfl,h',tk',es,ep,tb,rfl,etk,hS',fun b o hb e => ?_⟩
       have hb1 : b ≠ s.heap.objs.size := Nat.ne_of_lt hb
       have hb2 : b ≠ (s.heap.push { cls := .type "set",dict := none,data := .set #[] 0 (.fresh 0 0 led) }).objs.size := by
        rw [Heap.size_push]; exact Nat.ne_of_lt (Nat.lt_succ_of_lt hb)
       exact hm.heap b o (by simp only [List.mem_cons,List.mem_singleton,List.not_mem_nil,or_false,not_or]; exact ⟨hb1,hb2⟩) (Heap.get?_push_of_some _ (Heap.get?_push_of_some _ e))
     ·cases r₂ with
      | error e => exact hr₂
      | ok fl₂ =>
        cases fl₂ with
        | ret r =>
          obtain ⟨rfl,h',tk,es,ep,tb,rfl,etk,hS',hk'⟩ := hr₂
          repeat (any_goals (first | assumption | wp_step))
          exact h _ _ _ _ _ etk hS' hk'
        | _ => exact hr₂.elim
   | _ => exact hr.elim
end
end DL
namespace DL
open PySem PySem.Spec PyProof.Rows L2 PySem.W
structure LtOk (n : Nat) (lt : Nat → Nat → Bool) : Prop where
 irr : ∀ i,lt i i = false
 tr : ∀ i j k,lt i j = true → lt j k = true → lt i k = true
 tot : ∀ i j,i < n → j < n → i ≠ j → lt i j = true ∨ lt j i = true
noncomputable def Good {α : Type} (n : Nat) (lt : Nat → Nat → Bool) (Q : α → Prop) : KasT α → Prop
 | .ret a => Q a
 | .ask i j k => i < n ∧ j < n ∧ Good n lt Q (k (lt i j))
theorem Good.mono {α : Type} {n : Nat} {lt : Nat → Nat → Bool} {Q Q' : α → Prop} (h : ∀ a,Q a → Q' a) : ∀ (t : KasT α),Good n lt Q t → Good n lt Q' t
 | .ret a,g => h a g
 | .ask i j k,g => ⟨g.1,g.2.1,Good.mono h _ g.2.2⟩
theorem Good.bind {α β : Type} {n : Nat} {lt : Nat → Nat → Bool} {Q : α → Prop} {Q' : β → Prop} {f : α → KasT β} (h : ∀ a,Q a → Good n lt Q' (f a)) : ∀ (t : KasT α),Good n lt Q t → Good n lt Q' (t.bind f)
 | .ret a,g => h a g
 | .ask i j k,g => ⟨g.1,g.2.1,Good.bind h _ g.2.2⟩
section
variable {n : Nat} {lt : Nat → Nat → Bool}
noncomputable def yp (n : Nat) (p : Array Nat) : Prop := p.toList.Perm (List.range n)
theorem yp.size {p : Array Nat} (h : yp n p) : p.size = n := by
 have := List.Perm.length_eq h
 simpa using this
theorem yp.get {p : Array Nat} (h : yp n p) {i : Nat} (hi : i < n) : p[i]? = some (p.getD i 0) := by
 have hs := h.size
 have : i < p.size := by lia
 simp [Array.getD,this]
theorem yp.bd {p : Array Nat} (h : yp n p) {i : Nat} (hi : i < n) : p.getD i 0 < n := by
 have h1 := h.get hi
 rw [← Array.getElem?_toList] at h1
 exact List.mem_range.mp ((List.Perm.mem_iff h).mp (List.mem_of_getElem? h1))
theorem yp.ne {p : Array Nat} (h : yp n p) {i j : Nat} (hi : i < n) (hj : j < n) (hij : i ≠ j) : p.getD i 0 ≠ p.getD j 0 := by
 intro e
 have h1 := h.get hi
 have h2 := h.get hj
 rw [← Array.getElem?_toList] at h1 h2
 have hnd : p.toList.Nodup := (List.Perm.nodup_iff h).mpr List.nodup_range
 rw [← e] at h2
 have hl : i < p.toList.length := (List.getElem?_eq_some_iff.mp h1).1
 exact hij ((List.getElem?_inj hl hnd).mp (h1.trans h2.symm))
noncomputable def Srt (lt : Nat → Nat → Bool) (p : Array Nat) (m : Nat) : Prop := ∀ i j,i < j → j < m → lt (p.getD i 0) (p.getD j 0) = true
noncomputable def Dsc (lt : Nat → Nat → Bool) (p : Array Nat) (m : Nat) : Prop := ∀ i j,i < j → j < m → lt (p.getD j 0) (p.getD i 0) = true
theorem Srt.one (p : Array Nat) : Srt lt p 1 := fun i j h1 h2 => by lia
theorem Srt.succ (O : LtOk n lt) {p : Array Nat} {m : Nat} (h : Srt lt p m) (hm : 1 ≤ m) (hl : lt (p.getD (m - 1) 0) (p.getD m 0) = true) : Srt lt p (m + 1) := fun i j h1 h2 => by
 by_cases hj : j < m
 ·exact h i j h1 hj
 ·have : j = m := by lia
  subst this
  by_cases hi : i = j - 1
  ·rw [hi]; exact hl
  ·exact O.tr _ _ _ (h i (j - 1) (by lia) (by lia)) hl
theorem Dsc.succ (O : LtOk n lt) {p : Array Nat} {m : Nat} (h : Dsc lt p m) (hm : 1 ≤ m) (hl : lt (p.getD m 0) (p.getD (m - 1) 0) = true) : Dsc lt p (m + 1) := fun i j h1 h2 => by
 by_cases hj : j < m
 ·exact h i j h1 hj
 ·have : j = m := by lia
  subst this
  by_cases hi : i = j - 1
  ·rw [hi]; exact hl
  ·exact O.tr _ _ _ hl (h i (j - 1) (by lia) (by lia))
theorem other (O : LtOk n lt) {p : Array Nat} (hp : yp n p) {i j : Nat} (hi : i < n) (hj : j < n) (hij : i ≠ j) (hf : lt (p.getD i 0) (p.getD j 0) = false) : lt (p.getD j 0) (p.getD i 0) = true := by
 rcases O.tot _ _ (hp.bd hi) (hp.bd hj) (hp.ne hi hj hij) with h | h
 ·rw [h] at hf; cases hf
 ·exact h
theorem za9 (O : LtOk n lt) {p : Array Nat} (hp : yp n p) : ∀ (f m : Nat),m + f = n → 1 ≤ m → Srt lt p m → Good n lt (fun r => m ≤ r ∧ r ≤ n ∧ Srt lt p r ∧ (r = n ∨ lt (p.getD r 0) (p.getD (r - 1) 0) = true)) (kas_asc p f m)
 | 0,m,e,hm,hs => ⟨Nat.le_refl _,by lia,hs,.inl (by lia)⟩
 | f + 1,m,e,hm,hs => by
   unfold kas_asc
   refine ⟨hp.bd (by lia),hp.bd (by lia),?_⟩
   dsimp only
   cases hl : lt (p.getD m 0) (p.getD (m - 1) 0) with
   | true => exact ⟨Nat.le_refl _,by lia,hs,.inr hl⟩
   | false =>
     rw [if_neg Bool.false_ne_true]
     exact (za9 O hp f (m + 1) (by lia) (by lia) (hs.succ O hm (other O hp (by lia) (by lia) (by lia) hl))).mono fun r hr => ⟨by lia,hr.2⟩
theorem zbX (O : LtOk n lt) {p : Array Nat} (hp : yp n p) : ∀ (f m : Nat),m + f = n → 1 ≤ m → Dsc lt p m → Good n lt (fun r => r.1 = p ∧ r.2.2 = 0 ∧ m ≤ r.2.1 ∧ r.2.1 ≤ n ∧ Dsc lt p r.2.1) (kas_desc f p m 0)
 | 0,m,e,hm,hs => ⟨rfl,rfl,Nat.le_refl _,by show m ≤ n; lia,hs⟩
 | f + 1,m,e,hm,hs => by
   unfold kas_desc
   refine ⟨hp.bd (by lia),hp.bd (by lia),?_⟩
   dsimp only
   cases hl : lt (p.getD m 0) (p.getD (m - 1) 0) with
   | true =>
     rw [if_pos rfl,if_neg (by lia)]
     exact (zbX O hp f (m + 1) (by lia) (by lia) (hs.succ O hm hl)).mono fun r hr => ⟨hr.1,hr.2.1,by lia,hr.2.2.2⟩
   | false =>
     rw [if_neg Bool.false_ne_true]
     refine ⟨hp.bd (by lia),hp.bd (by lia),?_⟩
     dsimp only
     rw [other O hp (show m < n by lia) (show m - 1 < n by lia) (by lia) hl,if_pos rfl]
     exact ⟨rfl,rfl,Nat.le_refl _,by show m ≤ n; lia,hs⟩
theorem zaS {p : Array Nat} (hp : yp n p) (i j : Nat) : yp n (kas_rev p i j) := (mirror_perm p i j _).toList.trans hp
theorem ziG {p : Array Nat} (hp : yp n p) {m : Nat} (hm : m ≤ n) (h : Dsc lt p m) : Srt lt (kas_rev p 0 m) m := fun i j h1 h2 => by
 have hs := hp.size
 have g : ∀ k,k < m → (kas_rev p 0 m).getD k 0 = p.getD (m - 1 - k) 0 := fun k hk => by
  have := getElem?_mirror_all (xs := p) (i := 0) (j := m) (by lia) k
  have e := (zaS hp 0 m).get (show k < n by lia)
  unfold kas_rev at e ⊢
  rw [this,if_pos ⟨Nat.zero_le _,hk⟩] at e
  have e2 := hp.get (show 0 + m - 1 - k < n by lia)
  rw [e2] at e
  rw [← Option.some.inj e]
  congr 1
  lia
 rw [g i (by lia),g j h2]
 exact h (m - 1 - j) (m - 1 - i) (by lia) (by lia)
theorem zeP (O : LtOk n lt) {p : Array Nat} (hp : yp n p) {m : Nat} (h1 : 1 ≤ m) (hm : m ≤ n) (hd : Dsc lt p m) : Good n lt (fun r => 1 ≤ r.1 ∧ r.1 ≤ n ∧ yp n r.2 ∧ Srt lt r.2 r.1) (kas_tail3 m n p) := by
 unfold kas_tail3
 refine Good.bind (fun r hr => ?_) _ (za9 O (zaS hp 0 m) (n - m) m (by lia) h1 (ziG hp hm hd))
 exact ⟨by show 1 ≤ r; lia,hr.2.1,zaS hp 0 m,hr.2.2.1⟩
theorem zeQ (O : LtOk n lt) {p : Array Nat} (hp : yp n p) (h2 : 2 ≤ n) : Good n lt (fun r => 1 ≤ r.1 ∧ r.1 ≤ n ∧ yp n r.2 ∧ Srt lt r.2 r.1) (kas_count n p) := by
 unfold kas_count
 refine Good.bind (fun r hr => ?_) _ (za9 O hp (n - 1) 1 (by lia) (Nat.le_refl _) (Srt.one p))
 obtain ⟨r1,r2,r3,r4⟩ := hr
 by_cases e : r = n
 ·rw [if_pos (by simpa using e)]
  exact ⟨r1,r2,hp,r3⟩
 ·rw [if_neg (by simpa using e)]
  have hl : lt (p.getD r 0) (p.getD (r - 1) 0) = true := r4.resolve_left e
  by_cases hr1 : r > 1
  ·rw [if_pos hr1]
   refine ⟨hp.bd (by lia),hp.bd (by lia),?_⟩
   dsimp only
   rw [r3 0 (r - 1) (by lia) (by lia),if_pos rfl]
   exact ⟨r1,r2,hp,r3⟩
  ·rw [if_neg hr1]
   have : r = 1 := by lia
   subst this
   unfold kas_descPart
   refine Good.bind (fun q hq => ?_) _ (zbX O hp (n - (1 + 1)) (1 + 1) (by lia) (by lia) fun i j h1 h2 => ?_)
   ·obtain ⟨q1,q2,q3,q4,q5⟩ := hq
    rw [if_neg (by lia),q1]
    exact zeP O hp (by lia) q4 q5
   ·have : i = 0 := by lia
    have : j = 1 := by lia
    subst i; subst j
    exact hl
theorem uf (O : LtOk n lt) {p : Array Nat} (hp : yp n p) {k : Nat} (hk : k < n) (hs : Srt lt p k) : ∀ (f l r : Nat),r - l ≤ f → l ≤ r → r ≤ k → (∀ i,i < l → lt (p.getD i 0) (p.getD k 0) = true) → (∀ i,r ≤ i → i < k → lt (p.getD k 0) (p.getD i 0) = true) →
 Good n lt (fun q => q ≤ k ∧ (∀ i,i < q → lt (p.getD i 0) (p.getD k 0) = true) ∧ ∀ i,q ≤ i → i < k → lt (p.getD k 0) (p.getD i 0) = true) (kas_place p k f l r)
 | 0,l,r,hf,hl,hr,h1,h2 => by
   have : l = r := by lia
   subst this
   exact ⟨hr,h1,h2⟩
 | f + 1,l,r,hf,hl,hr,h1,h2 => by
   unfold kas_place
   by_cases hge : l ≥ r
   ·rw [if_pos hge]
    have : l = r := by lia
    subst this
    exact ⟨hr,h1,h2⟩
   ·rw [if_neg hge]
    have hmk : (l + r) / 2 < k := by lia
    refine ⟨hp.bd hk,hp.bd (by lia),?_⟩
    dsimp only
    cases hc : lt (p.getD k 0) (p.getD ((l + r) / 2) 0) with
    | true =>
      rw [if_pos rfl]
      refine uf O hp hk hs f l ((l + r) / 2) (by lia) (by lia) (by lia) h1 fun i hi hik => ?_
      by_cases e : i = (l + r) / 2
      ·rw [e]; exact hc
      ·exact O.tr _ _ _ hc (hs _ i (by lia) hik)
    | false =>
      rw [if_neg Bool.false_ne_true]
      have hl2 := other O hp hk (show (l + r) / 2 < n by lia) (by lia) hc
      refine uf O hp hk hs f ((l + r) / 2 + 1) r (by lia) (by lia) hr (fun i hi => ?_) h2
      by_cases e : i = (l + r) / 2
      ·rw [e]; exact hl2
      ·exact O.tr _ _ _ (hs i ((l + r) / 2) (by lia) hmk) hl2
theorem zd3 (O : LtOk n lt) : ∀ (f : Nat) (p : Array Nat) (k : Nat),k + f = n → yp n p → Srt lt p k → Good n lt (fun q => yp n q ∧ Srt lt q n) (kas_bin f p k)
 | 0, p, k, e, hp, hs => ⟨hp, by have : k = n := by lia
                                 subst this; exact hs⟩
 | f + 1,p,k,e,hp,hs => by
   unfold kas_bin
   have hk : k < n := by lia
   refine Good.bind (fun l hl => ?_) _ (uf O hp hk hs k 0 k (by lia) (Nat.zero_le _) (Nat.le_refl _) (fun i hi => by lia) (fun i h1 h2 => by lia))
   obtain ⟨l1,l2,l3⟩ := hl
   have hp2 : yp n (bubble p k (k - l)) := (bubble_perm p k (k - l)).toList.trans hp
   refine zd3 O f (bubble p k (k - l)) (k + 1) (by lia) hp2 fun i j hij hj => ?_
   have hsz := hp.size
   have g : ∀ x,x < n → (bubble p k (k - l)).getD x 0 = if x = l then p.getD k 0 else if l < x ∧ x ≤ k then p.getD (x - 1) 0 else p.getD x 0 := fun x hx => by
    have e1 := hp2.get hx
    have e2 := getElem?_bubble (xs := p) (src := k) (by lia) (k - l) (by lia) x
    rw [e1,show k - (k - l) = l by lia] at e2
    split at e2
    ·rename_i hh
     rw [if_pos hh]
     rw [hp.get hk] at e2
     exact Option.some.inj e2
    ·rename_i hh
     rw [if_neg hh]
     split at e2
     ·rename_i hh2
      rw [if_pos hh2]
      rw [hp.get (show x - 1 < n by lia)] at e2
      exact Option.some.inj e2
     ·rename_i hh2
      rw [if_neg hh2]
      rw [hp.get hx] at e2
      exact Option.some.inj e2
   rw [g i (by lia),g j (by lia)]
   by_cases i1 : i = l
   ·rw [if_pos i1]
    have hj1 : ¬ j = l := by lia
    rw [if_neg hj1,if_pos (by lia)]
    exact l3 (j - 1) (by lia) (by lia)
   ·rw [if_neg i1]
    by_cases i2 : l < i ∧ i ≤ k
    ·rw [if_pos i2,if_neg (by lia),if_pos (by lia)]
     exact hs (i - 1) (j - 1) (by lia) (by lia)
    ·rw [if_neg i2]
     by_cases j1 : j = l
     ·rw [if_pos j1]
      exact l2 i (by lia)
     ·rw [if_neg j1]
      by_cases j2 : l < j ∧ j ≤ k
      ·rw [if_pos j2]
       by_cases e3 : i = j - 1
       ·lia
       ·exact hs i (j - 1) (by lia) (by lia)
      ·rw [if_neg j2]
       exact hs i j hij (by lia)
theorem zf7 (O : LtOk n lt) (h2 : 2 ≤ n) : Good n lt (fun q => yp n q ∧ Srt lt q n) (kas_sort n) := by
 unfold kas_sort
 refine Good.bind (fun r hr => ?_) _ (zeQ O (p := List.toArray (List.range n)) (by show ((List.range n).toArray).toList.Perm _; exact List.Perm.refl _) h2)
 obtain ⟨r1,r2,r3,r4⟩ := hr
 by_cases h : r.1 < n
 ·rw [if_pos h,show max r.1 1 = r.1 by lia]
  exact zd3 O (n - r.1) r.2 r.1 (by lia) r3 r4
 ·rw [if_neg h]
  have : r.1 = n := by lia
  rw [this] at r4
  exact ⟨r3,r4⟩
end
theorem Good.wp {α : Type} {n : Nat} {lt : Nat → Nat → Bool} {Q : α → Prop} {R : α → Shared → Prop} {s : Shared} {cmp : Nat → Nat → (Bool → Shared → Prop) → Shared → Prop} (hc : ∀ i j C,i < n → j < n → C (lt i j) s → cmp i j C s) (hR : ∀ a,Q a → R a s) : ∀ (t : KasT α),Good n lt Q t → t.kasWp cmp R s
 | .ret a,g => hR a g
 | .ask i j k,g => hc i j _ g.1 g.2.1 (Good.wp hc hR _ g.2.2)
end DL
namespace DL
open PySem PySem.Spec PyProof.Rows L2 PySem.W
noncomputable def xw (h : Heap) (a : Addr) (p : Int × Int) : Prop := ∃ o n t u,h.get? a = some o ∧ o.cls = .type "tuple" ∧ o.data = .seq #[.int p.1 t,.int p.2 u] n
theorem xw.keep {h h' : Heap} {a : Addr} {p : Int × Int} (x : xw h a p) (k : ∀ o,h.get? a = some o → h'.get? a = some o) : xw h' a p := by
 obtain ⟨o,n,t,u,q,r⟩ := x
 exact ⟨o,n,t,u,k o q,r⟩
noncomputable def pkey (p : Int × Int) : List Int := [p.1,p.2]
theorem xw.key {prog : Program} {w : World} {h : Heap} {a : Addr} {p : Int × Int} (x : xw h a p) : PKey prog w h (pkey p) a := by
 obtain ⟨o,n,t,u,q,c,d⟩ := x
 exact ⟨o,_,n,q,c,d,.cons (intKind_is _ _ _ _) (.cons (intKind_is _ _ _ _) .nil)⟩
noncomputable def pLt (p q : Int × Int) : Bool := decide (p.1 < q.1 ∨ (p.1 = q.1 ∧ p.2 < q.2))
theorem zfG (p : Int × Int) : pLt p p = false := by simp [pLt]
theorem zfE {p q r : Int × Int} (h1 : pLt p q = true) (h2 : pLt q r = true) : pLt p r = true := by
 simp only [pLt,decide_eq_true_eq] at *
 lia
theorem zfF {p q : Int × Int} (h : p ≠ q) : pLt p q = true ∨ pLt q p = true := by
 obtain ⟨a,b⟩ := p
 obtain ⟨c,d⟩ := q
 simp only [pLt,decide_eq_true_eq]
 by_cases e : a = c
 ·subst e
  have : b ≠ d := fun z => h (by rw [z])
  lia
 ·lia
theorem zeI {ps : List (Int × Int)} (hn : ps.Nodup) : LtOk ps.length (fun i j => pLt (ps.getD i (0,0)) (ps.getD j (0,0))) where
 irr := fun i => zfG _
 tr := fun i j k h1 h2 => zfE h1 h2
 tot := fun i j hi hj hij => zfF fun e => by
  have e1 : ps[i]? = some (ps.getD i (0,0)) := by simp [hi]
  have e2 : ps[j]? = some (ps.getD j (0,0)) := by simp [hj]
  rw [← e] at e2
  exact hij ((List.getElem?_inj hi hn).mp (e1.trans e2.symm))
section
variable {prog : Program} {w : World} {A : Around} {E : Value → Shared → Prop} {s : Shared}
theorem zhU {a b : Addr} {p q : Int × Int} {C : Bool → Shared → Prop} (ha : xw s.heap a p) (hb : xw s.heap b q) (h : C (pLt p q) s) : wpAny (model prog w) A (keyLt' (tuples' true) (.ref a) (.ref b)) C E s := by
 obtain ⟨o1,n1,t1,u1,q1,_,d1⟩ := ha
 obtain ⟨o2,n2,t2,u2,q2,_,d2⟩ := hb
 refine kat_lt q1 d1 q2 d2 (kat_cons ((intKind prog w).eqBool (intKind_is _ _ _ _) (intKind_is _ _ _ _) (kat_go (fun e1 => kat_yes (kat_cons ((intKind prog w).eqBool (intKind_is _ _ _ _) (intKind_is _ _ _ _) (kat_go (fun e2 => kat_yes (kat_nil ?_)) fun e2 => kat_no ?_)))) fun e1 => kat_no ?_)))
 ·have f1 : p.1 = q.1 := by simpa using e1
  have f2 : p.2 = q.2 := by simpa using e2
  have : pLt p q = decide ((2 : Nat) < 2) := by simp [pLt,f1,f2]
  rw [this] at h
  exact h
 ·have f1 : p.1 = q.1 := by simpa using e1
  refine kat_one _ _ (lt_int ?_)
  have : pLt p q = decide (p.2 < q.2) := by simp [pLt,f1]
  rw [this] at h
  exact h
 ·have f1 : ¬ p.1 = q.1 := by simpa using e1
  refine oneLt_int ?_
  have : pLt p q = decide (p.1 < q.1) := by simp [pLt,f1]
  rw [this] at h
  exact h
theorem zb1 : ∀ {as : List Addr} {ps : List (Int × Int)} {h : Heap},as.length = ps.length → (∀ (i : Nat) a p,as[i]? = some a → ps[i]? = some p → xw h a p) → ∃ fs,KatTups h (as.map Value.ref) fs ∧ fs.length = as.length ∧ ∀ v ∈ fs,∃ i t,v = Value.int i t
 | [],[],h,_,_ => ⟨[],trivial,rfl,fun v hv => by simp at hv⟩
 | [],_ :: _,_,e,_ => by simp at e
 | _ :: _,[],_,e,_ => by simp at e
 | a :: as,p :: ps,h,e,hp => by
   obtain ⟨fs,k1,k2,k3⟩ := zb1 (as := as) (ps := ps) (h := h) (by simpa using e) fun i a p h1 h2 => hp (i + 1) a p (by simpa using h1) (by simpa using h2)
   obtain ⟨o,n,t,u,q,c,d⟩ := hp 0 a p rfl rfl
   refine ⟨.int p.1 t :: fs,⟨⟨a,o,_,n,rfl,q,c,d,rfl⟩,k1⟩,by simp [k2],fun v hv => ?_⟩
   rcases List.mem_cons.mp hv with rfl | hv
   ·exact ⟨_,_,rfl⟩
   ·exact k3 v hv
theorem zgT (l : List Value) : (l.toArray.zip l.toArray).map (·.2) = ((List.range l.length).map fun i => l.getD i Value.none).toArray := by
 have h1 : ∀ m : List Value,(m.zip m).map Prod.snd = m := by
  intro m
  induction m with
  | nil => rfl
  | cons a m ih => simp [ih]
 have h2 : (List.range l.length).map (fun i => l.getD i Value.none) = l := by
  apply List.ext_getElem
  ·simp
  ·intro i h3 h4
   simp [h4]
 rw [h2]
 apply Array.toList_inj.mp
 rw [Array.toList_map,Array.toList_zip]
 exact h1 l
theorem zen {la : Addr} {as : List Addr} {ps : List (Int × Int)} {n : Nat} {P : PySem.Fin → Shared → Prop} (hob : s.heap.get? la = some (seqObj "list" (as.map Value.ref).toArray n)) (hlen : as.length = ps.length) (hps : ∀ (i : Nat) a p,as[i]? = some a → ps[i]? = some p → xw s.heap a p)
 (hla : ∀ a ∈ as,a ≠ la) (hn : ps.Nodup) (hz : as.length < 64)
 (h : ∀ (is : List Nat),is.Perm (List.range ps.length) → (is.map fun i => ps.getD i (0,0)).Pairwise (fun p q => pLt p q = true) →
  P (.done (.ret .none)) { s with heap := sortedHeap s.heap la (as.map Value.ref) (is.map fun i => (as.map Value.ref).getD i Value.none).toArray }) :
 wpAny (model prog w) A (Builtin.«list.sort» ⟨[.ref la],[]⟩) P E s := by
 have hsz : (as.map Value.ref).toArray.size = ps.length := by simp [hlen]
 have hlt := Heap.lt_size hob
 obtain ⟨ep,hob1⟩ : ∃ ep,(s.heap.update la (Obj.mapSeq fun _ => #[])).get? la = some (seqObj "list" #[] ep) := ⟨_,get?_update_seq hob (fun _ => #[])⟩
 have hob2 : (((s.heap.update la (Obj.mapSeq fun _ => #[])).push (seqObj "tuple" (as.map Value.ref).toArray 0)).push (seqObj "list" #[] 0)).get? la = some (seqObj "list" #[] ep) :=
  Heap.get?_push_of_some _ (Heap.get?_push_of_some _ hob1)
 rw [list_sort_plain]
 refine wpAny_bind (listItems_at hob rfl ?_)
 refine wpAny_bind (listUpdate_at hob rfl ?_ (by rw [hsz,sizeLine_eq]; lia) (Nat.zero_le _))
 refine wpAny_bind (seqEpoch_at hob1 rfl ?_)
 refine wpAny_bind (wpAny_newTuple ?_ (by show (as.map Value.ref).length ≤ _; rw [List.length_map,sizeLine_eq]; lia))
 refine wpAny_bind (wpAny_newList ?_ (Nat.zero_le _))
 refine wpAny_holding ?_
 show wpAny (model prog w) A _ P E { s with heap := ((s.heap.update la (Obj.mapSeq fun _ => #[])).push (seqObj "tuple" (as.map Value.ref).toArray 0)).push (seqObj "list" #[] 0) }
 dsimp only
 by_cases hs2 : (as.map Value.ref).toArray.size < 2
 ·rw [if_pos hs2,if_pos hs2]
  refine wpAny_bind (wpAny_pure ?_)
  rw [StateT.run_pure]
  refine wpAny_bind (wpAny_pure ?_)
  dsimp only
  refine wpAny_bind (seqEpoch_at hob2 rfl ?_)
  have harr : (arrOf (SortSt.mk' general' ((as.map Value.ref).toArray.zip (as.map Value.ref).toArray) #[] 7 none)).map (·.2) = ((List.range ps.length).map fun i => (as.map Value.ref).getD i Value.none).toArray := by
   have e := zgT (as.map Value.ref)
   rw [List.length_map,hlen] at e
   exact e
  rw [harr]
  refine wpAny_bind (listUpdate_at hob2 rfl ?_ (Nat.zero_le _) (by rw [List.size_toArray,List.length_map,List.length_range,sizeLine_eq]; lia))
  simp only [bne_self_eq_false,Bool.false_eq_true,if_false]
  refine wpAny_pure (h (List.range ps.length) (List.Perm.refl _) ?_)
  rw [hsz] at hs2
  match ps,hs2 with
  | [],_ => exact List.Pairwise.nil
  | [p],_ => exact List.pairwise_singleton _ _
 ·rw [if_neg hs2,if_neg hs2]
  have h2 : 2 ≤ (as.map Value.ref).length := by rw [hsz] at hs2; rw [List.length_map]; lia
  have hold : ∀ a p,a ≠ la → xw s.heap a p → xw (((s.heap.update la (Obj.mapSeq fun _ => #[])).push (seqObj "tuple" (as.map Value.ref).toArray 0)).push (seqObj "list" #[] 0)) a p := fun a p hne x =>
   x.keep fun o ho => Heap.get?_push_of_some _ (Heap.get?_push_of_some _ (by rw [Heap.get?_update_ne _ _ _ _ hne]; exact ho))
  have hps2 : ∀ (i : Nat) a p,as[i]? = some a → ps[i]? = some p → xw (((s.heap.update la (Obj.mapSeq fun _ => #[])).push (seqObj "tuple" (as.map Value.ref).toArray 0)).push (seqObj "list" #[] 0)) a p := fun i a p h1 h2 => hold a p (hla a (List.mem_of_getElem? h1)) (hps i a p h1 h2)
  obtain ⟨fs,k1,k2,k3⟩ := zb1 hlen hps2
  refine wpAny_bind (kat_kind (T := .type "int") k1 (by rw [k2]; rw [List.length_map] at h2; lia) (fun v hv => ?_) (by decide) ?_)
  ·obtain ⟨i,t,rfl⟩ := k3 v hv
   exact Looks.of_pure rfl
  ·have hb : (Value.type "int" != Value.type "tuple") = true := by decide
   rw [hb]
   have good := zf7 (zeI hn) (by rw [hsz] at hs2; lia)
   refine wpAny_bind (wpAny_mono (kat_run (Q := fun st' s' => s' = { s with heap := ((s.heap.update la (Obj.mapSeq fun _ => #[])).push (seqObj "tuple" (as.map Value.ref).toArray 0)).push (seqObj "list" #[] 0) } ∧ failedOf st' = none ∧ ∃ p : Array Nat,yp ps.length p ∧ Srt (fun i j => pLt (ps.getD i (0,0)) (ps.getD j (0,0))) p ps.length ∧ (arrOf st').map (·.2) = List.toArray (p.toList.map fun i => (as.map Value.ref).getD i Value.none))
    (G := fun p s' => s' = { s with heap := ((s.heap.update la (Obj.mapSeq fun _ => #[])).push (seqObj "tuple" (as.map Value.ref).toArray 0)).push (seqObj "list" #[] 0) } ∧ yp ps.length p ∧ Srt (fun i j => pLt (ps.getD i (0,0)) (ps.getD j (0,0))) p ps.length)
    rfl h2 (by rw [List.length_map]; exact hz) (fun p st' s' a1 a2 a3 a4 => ⟨a4.1,a3,p,a4.2.1,a4.2.2,kat_snds rfl a2⟩) ?_) ?_ fun _ _ e => e)
   ·rw [List.length_map,hlen]
    refine Good.wp (fun i j C hi hj hC => ?_) (fun p hp => ⟨rfl,hp.1,hp.2⟩) _ good
    have gi : as[i]? = some (as.getD i 0) := by simp [hlen,hi]
    have gj : as[j]? = some (as.getD j 0) := by simp [hlen,hj]
    have pi : ps[i]? = some (ps.getD i (0,0)) := by simp [hi]
    have pj : ps[j]? = some (ps.getD j (0,0)) := by simp [hj]
    have vi : (as.map Value.ref).getD i Value.none = .ref (as.getD i 0) := by simp [hlen,hi]
    have vj : (as.map Value.ref).getD j Value.none = .ref (as.getD j 0) := by simp [hlen,hj]
    unfold kas_ask
    rw [vi,vj]
    exact zhU (hps2 i _ _ gi pi) (hps2 j _ _ gj pj) hC
   ·rintro ⟨⟨⟩,st'⟩ s' ⟨rfl,hf,p,hp1,hp2,hout⟩
    dsimp only
    refine wpAny_bind (seqEpoch_at hob2 rfl ?_)
    rw [hout]
    have hpz : p.toList.length = ps.length := by rw [Array.length_toList]; exact hp1.size
    refine wpAny_bind (listUpdate_at hob2 rfl ?_ (Nat.zero_le _) (by rw [List.size_toArray,List.length_map,hpz,sizeLine_eq]; lia))
    rw [hf]
    simp only [bne_self_eq_false,Bool.false_eq_true,if_false]
    refine wpAny_pure (h p.toList hp1 ?_)
    rw [List.pairwise_iff_getElem]
    intro i j hi hj hij
    simp only [List.getElem_map]
    have hj2 : j < ps.length := by rw [List.length_map] at hj; lia
    have e := hp2 i j hij hj2
    have hsz2 := hp1.size
    have g1 : p.getD i 0 = p.toList[i]'(by rw [List.length_map] at hi; exact hi) := by simp [Array.getD,show i < p.size by lia]
    have g2 : p.getD j 0 = p.toList[j]'(by rw [List.length_map] at hj; exact hj) := by simp [Array.getD,show j < p.size by lia]
    rw [g1,g2] at e
    exact e
end
end DL
namespace DL
open PySem PySem.Spec PyProof.Rows L2
noncomputable def LenO (a : Addr) (n : Nat) : HO := .ext fun h => ∃ o es ep t,h.get? a = some o ∧ o.ExactSet ∧ o.data = .set es ep t ∧ t.fits es.size = true ∧ es.size = n ∧ n < 1000
theorem zi3 {P : Program} {w : World} {H : Hp} {h : Heap} {a : Addr} {n : Nat} {es : Array (Int × Value)} {ep : Nat} {tb : SetTable} (S : SetAt w h a es ep tb) (hn : es.size = n) (hz : n < 1000) : xx P w H h a (LenO a n) := by
 obtain ⟨o,ho,hx,hd⟩ := S.ex
 exact ⟨⟨o,es,ep,tb,ho,hx,hd,S.tab.fits,hn,hz⟩,⟨o,ho⟩,fun h1 h2 ⟨o,es,ep,t,q,r⟩ hk => ⟨o,es,ep,t,hk o q,r⟩⟩
theorem zeL {h : Heap} {a : Addr} {p : Int × Int} {its : List Value} (r : Vals [V.int p.1,V.int p.2] its) (t : IsTup h a its.toArray) : xw h a p := by
 obtain ⟨o,ho,hc,n,hd⟩ := t
 cases r with
 | cons r1 r2 =>
   cases r2 with
   | cons r3 r4 =>
     cases r4
     obtain ⟨t1,rfl⟩ := r1
     obtain ⟨t2,rfl⟩ := r3
     exact ⟨o,n,t1,t2,ho,hc,hd⟩
theorem zcM {X : Cx} {pins : List (Addr × Obj)} {σ : St} {H : Hp} {s : Shared} {a : Addr} {p : Int × Int} (I : Inv X pins σ H s) (h : H a = some (.tup [.int p.1,.int p.2])) : xw s.heap a p := by
 obtain ⟨_,its,rv,t⟩ := I.hok a _ h
 exact zeL rv t
theorem uS : ∀ {as : List Addr} {us : List Value},Vals (as.map V.ref) us → us = as.map Value.ref
 | [],us,r => by cases r; rfl
 | a :: as,us,r => by
   cases r with
   | cons r1 r2 =>
     rw [uS r2]
     cases (show _ = Value.ref a from r1)
     rfl
noncomputable def uD (H : Hp) (as : List Addr) (ps : List (Int × Int)) : Prop := as.length = ps.length ∧ ∀ (i : Nat) (a : Addr) (q : Int × Int),as[i]? = some a → ps[i]? = some q → H a = some (.tup [.int q.1,.int q.2])
theorem ze1 {X : Cx} (hc : X.calm = true) (hu : X.A.units + 20 < cLine) : wj X (.type "set") (fun xs H Q => ∃ (p : Addr) (as : List Addr) (ps : List (Int × Int)),xs = [.ref p] ∧ H p = some (.lst (as.map V.ref)) ∧ uD H as ps ∧ ps.length < 18 ∧ ∀ l,H l = none → Q (.ref l) (upd H l (LenO l (metP (ps.map pkey)).length))) := by
 intro pins s σ H xs us Q I r h
 obtain ⟨p,as,ps,rfl,hp,hP,hl,q⟩ := h
 obtain ⟨u,rfl,r1⟩ := wk r
 cases (show u = .ref p from r1)
 obtain ⟨z,its,n,rv,hlen,e⟩ := I.lstM hp
 have hits := uS rv
 subst hits
 refine zgt (items := (as.map Value.ref).toArray) (ks := ps.map pkey) (as := as) (I.ok.hd hc) (by lia) ⟨_,e,rfl,_,rfl⟩ rfl (by rw [List.length_map]; exact hP.1) (fun j a k h1 h2 => ?_) (by rw [List.length_map]; exact hl) fun h' tk es ep tb _ S hk => ?_
 ·rw [List.getElem?_map] at h2
  cases hq : ps[j]? with
  | none => rw [hq] at h2; cases h2
  | some q' => rw [hq] at h2; cases h2; exact (zcM I (hP.2 j a q' h1 hq)).key
 ·have hk' : ∀ b o,s.heap.get? b = some o → h'.get? b = some o := fun b o eb => hk b o (Heap.lt_size eb) eb
  have hsz : es.size = (metP (ps.map pkey)).length := by rw [← Array.length_toList]; exact S.es.len
  have hml := zfR (ps.map pkey)
  rw [List.length_map] at hml
  exact ⟨.ref s.heap.objs.size,_,I.laid (t' := tk) (o := LenO s.heap.objs.size (metP (ps.map pkey)).length) hk' (Nat.le_refl _) (zi3 S.at_ hsz (by lia)),rfl,q _ (I.hok.fresh (Nat.le_refl _))⟩
theorem zgv {X : Cx} : wj X (.builtin "len") (fun xs H Q => ∃ (p : Addr) (n : Nat),xs = [.ref p] ∧ H p = some (LenO p n) ∧ Q (.int n) H) := by
 intro pins s σ H xs us Q I r h
 obtain ⟨p,n,rfl,hp,q⟩ := h
 obtain ⟨u,rfl,r1⟩ := wk r
 cases (show u = .ref p from r1)
 obtain ⟨⟨o,es,ep,t,ho,hx,hd,hf,hn,hz⟩,_⟩ := I.hok p _ hp
 refine call_len_set ho hx hd hf (by lia) ?_
 exact ⟨.int n,H,I.tok _,⟨_,by rw [hn]⟩,q⟩
noncomputable def zee : D → Option (Int × Int)
 | .tup [.int x,.int y] => some (x,y)
 | _ => none
noncomputable def zd (p : Int × Int) : D := .tup [.int p.1,.int p.2]
theorem zgH {d : D} {p : Int × Int} (h : zee d = some p) : d = zd p := by
 unfold zee at h
 split at h
 ·cases h; rfl
 ·cases h
noncomputable def xG : List D → Option (List (Int × Int))
 | [] => some []
 | d :: ds => match zee d,xG ds with
   | some p,some ps => some (p :: ps)
   | _,_ => none
theorem xM : ∀ {ds : List D} {ps : List (Int × Int)},xG ds = some ps → ds = ps.map zd
 | [],ps,h => by cases h; rfl
 | d :: ds,ps,h => by
   unfold xG at h
   split at h
   ·rename_i p ps' h1 h2
    cases h
    rw [zgH h1,xM h2]
    rfl
   ·cases h
theorem yT : ∀ ps : List (Int × Int),xG (ps.map zd) = some ps
 | [] => rfl
 | p :: ps => by simp [xG,zee,zd,yT ps]
theorem u0 {K : PySem.W.Frag} {G : Hp} : ∀ {ps : List (Int × Int)} {vs : List V},RepL K G (ps.map zd) vs → ∃ as : List Addr,vs = as.map V.ref ∧ uD G as ps
 | [],vs,h => ⟨[],h,rfl,fun i a q h1 => by simp at h1⟩
 | p :: ps,vs,h => by
   obtain ⟨v,r,rfl,h1,h2⟩ := h
   obtain ⟨as,rfl,hl,hP⟩ := u0 h2
   obtain ⟨a,ws,rfl,g,hw⟩ := h1
   have : ws = [.int p.1,.int p.2] := by
    obtain ⟨v1,r1,rfl,e1,e2⟩ := hw
    obtain ⟨v2,r2,rfl,e3,e4⟩ := e2
    cases (show v1 = .int p.1 from e1)
    cases (show v2 = .int p.2 from e3)
    cases (show r2 = [] from e4)
    rfl
   subst this
   refine ⟨a :: as,rfl,by simp [hl],fun i b q h1 h2 => ?_⟩
   cases i with
   | zero => simp at h1 h2; subst h1; subst h2; exact g
   | succ i => exact hP i b q (by simpa using h1) (by simpa using h2)
theorem uD.mono {G H : Hp} {as : List Addr} {ps : List (Int × Int)} (h : uD G as ps) (s : Same G H) : uD H as ps := ⟨h.1,fun i a q h1 h2 => s _ _ (h.2 i a q h1 h2)⟩
@[simp] noncomputable def gLenSet : D → Out Val
  | .lst ds => match wI ds with
    | some ns => if ns.length < 18 then .ok (.pers (.int (met ns).length)) else .bad
    | none => match xG ds with
      | some ps => if ps.length < 18 then .ok (.pers (.int (metP (ps.map pkey)).length)) else .bad
      | none => .bad
  | _ => .bad
@[simp] noncomputable def wQ : D → Out Val
  | .lst ds => match xG ds with
    | some ps => if ps.length < 18 then .ok (.pers (.int (metP (ps.map pkey)).length)) else .bad
    | none => .bad
  | _ => .bad
theorem zeZ {X : Cx} {G₀ H₀ : Hp} {p p2 pos pos2 : Pos} {e : Expr} {f : FE} (hu : X.A.units + 20 < cLine) (he : DE X G₀ H₀ e f) (hm : X.mg "len" = none) (hm2 : X.mg "set" = none)
 (hc : X.calm = true := by rfl) (hg : Gl X "len" := by rfl) (hg2 : Gl X "set" := by rfl)
 (hs : starEach [.Call (.Name "set" p2) [e] [] pos2] X.env = [(false,eval (.Call (.Name "set" p2) [e] [] pos2) X.env)] := by rfl) (hs2 : starEach [e] X.env = [(false,eval e X.env)] := by rfl) :
 DE X G₀ H₀ (.Call (.Name "len" p) [.Call (.Name "set" p2) [e] [] pos2] [] pos) (f1 wQ f) :=
 (vK zgv hg hm PySem.boot_len (zU (vJ (ze1 hc hu) hg2 hm2 boot_set (zU he yF hs2) (by decide) (by decide) hs2 rfl) yF hs) (by decide) (by decide) hs rfl).imp fun σ H Q q => by
  obtain ⟨env,G,val,I,e,k⟩ := q
  obtain ⟨x,e1,e⟩ := zk e
  refine xn I e1 fun v G' H' g l I' o => ?_
  unfold wQ at e
  split at e
  ·rename_i ds hd
   rw [hd] at o
   obtain ⟨a,vs,rfl,h1,r1⟩ := Opd.lst I' o
   split at e
   ·rename_i ps hps
    split at e
    ·rename_i hl
     cases e
     rw [xM hps] at r1
     obtain ⟨as,rfl,hP⟩ := u0 r1
     refine ⟨a,as,ps,rfl,h1,hP.mono l,hl,fun b hb => ?_⟩
     have g1 := Grow.laidL (o := LenO b (metP (ps.map pkey)).length) l hb
     exact ⟨b,(metP (ps.map pkey)).length,rfl,zC,k _ G' _ (g.trans g1.1) g1.2 rfl⟩
    ·cases e
   ·cases e
  ·cases e
theorem zcg {X : Cx} : wj X (.builtin "sorted") (fun xs H Q => ∃ (p : Addr) (as : List Addr) (ps : List (Int × Int)),xs = [.ref p] ∧ H p = some (.lst (as.map V.ref)) ∧ uD H as ps ∧ ps.Nodup ∧ ps.length < 64 ∧
 ∀ (l : Addr) (is : List Nat),H l = none → is.Perm (List.range ps.length) → (is.map fun i => ps.getD i (0,0)).Pairwise (fun p q => pLt p q = true) → Q (.ref l) (upd H l (.lst ((is.map fun i => as.getD i 0).map V.ref)))) := by
 intro pins s σ H xs us Q I r h
 obtain ⟨p,as,ps,rfl,hp,hP,hnd,hl,q⟩ := h
 obtain ⟨u,rfl,r1⟩ := wk r
 cases (show u = .ref p from r1)
 obtain ⟨z,its,n,rv,hlen,e⟩ := I.lstM hp
 have hits := uS rv
 subst hits
 have hal : as.length < 64 := by rw [hP.1]; exact hl
 refine Calls.call_function_entry kind_sorted plain_sorted entry_sorted (args_sorted1 _) ?_
 unfold Builtin.«sorted»
 refine wpAny_bind (m := checkCount "sorted" 1 1 _) (wpAny_pure ?_)
 refine wpAny_bind (collect_list (vs := as.map Value.ref) ⟨_,e,rfl,_,rfl⟩ ?_ (by rw [List.length_map,sizeLine_eq]; lia))
 refine wpAny_bind (wpAny_newList ?_ (by rw [List.length_map,sizeLine_eq]; lia))
 obtain ⟨h1,hh1⟩ : ∃ h1,h1 = (s.heap.push (seqObj "list" #[] 0)).update s.heap.objs.size (Obj.mapSeq (· ++ (as.map Value.ref).toArray)) := ⟨_,rfl⟩
 have k1 : ∀ b o,s.heap.get? b = some o → h1.get? b = some o := fun b o q => by
  have hlt := Heap.lt_size q
  rw [hh1,Heap.get?_update_ne _ _ _ _ (Nat.ne_of_lt hlt),Heap.get?_push_ne _ _ _ (Nat.ne_of_lt hlt)]
  exact q
 show wpAny _ _ _ _ _ { s with heap := ((s.heap.push (seqObj "list" #[] 0)).update s.heap.objs.size (Obj.mapSeq (· ++ (as.map Value.ref).toArray))).push (seqObj "list" (as.map Value.ref).toArray 0) }
 rw [← hh1]
 have hoL : (h1.push (seqObj "list" (as.map Value.ref).toArray 0)).get? h1.objs.size = some (seqObj "list" (as.map Value.ref).toArray 0) := Heap.get?_push_size _ rfl
 have k2 : ∀ b o,s.heap.get? b = some o → (h1.push (seqObj "list" (as.map Value.ref).toArray 0)).get? b = some o := fun b o q => Heap.get?_push_of_some _ (k1 b o q)
 have hps : ∀ (i : Nat) a q,as[i]? = some a → ps[i]? = some q → xw (h1.push (seqObj "list" (as.map Value.ref).toArray 0)) a q := fun i a q' e1 e2 => (zcM I (hP.2 i a q' e1 e2)).keep fun o eo => k2 a o eo
 have hne : ∀ a ∈ as,a ≠ h1.objs.size := fun a ha => by
  obtain ⟨j,hj⟩ := List.getElem?_of_mem ha
  have hjl : j < ps.length := by rw [← hP.1]; exact (List.getElem?_eq_some_iff.mp hj).1
  obtain ⟨o,_,_,_,ho,_⟩ := zcM I (hP.2 j a _ hj (List.getElem?_eq_getElem hjl))
  exact Nat.ne_of_lt (Heap.lt_size (k1 a o ho))
 refine wpAny_bind (wpAny_holding (wpAny_call_entry slot_list_sort ⟨_,hoL,rfl⟩ entry_list_sort (zen (s := { s with heap := h1.push (seqObj "list" (as.map Value.ref).toArray 0) }) hoL hP.1 hps hne hnd hal fun is p1 p2 => ⟨_,rfl,?_⟩) (args_list_sort _)))
 obtain ⟨c,he⟩ := sortedHeap_at (out := (is.map fun i => (as.map Value.ref).getD i Value.none).toArray) hoL
 have I1 : Inv X pins σ H { s with heap := h1,toks := s.toks } := I.kept (t' := s.toks) k1
 have keep : ∀ b o,h1.get? b = some o → (sortedHeap (h1.push (seqObj "list" (as.map Value.ref).toArray 0)) h1.objs.size (as.map Value.ref) (is.map fun i => (as.map Value.ref).getD i Value.none).toArray).get? b = some o := fun b o eb => by
  have hlt := Heap.lt_size eb
  rw [sortedHeap_old (Nat.ne_of_lt hlt) (by rw [size_push']; exact Nat.lt_succ_of_lt hlt),Heap.get?_push_ne _ _ _ (Nat.ne_of_lt hlt)]
  exact eb
 have hout : is.map (fun i => (as.map Value.ref).getD i Value.none) = (is.map fun i => as.getD i 0).map Value.ref := by
  rw [List.map_map]
  refine List.map_congr_left fun i hi => ?_
  have hil : i < as.length := by rw [hP.1]; exact List.mem_range.mp (p1.mem_iff.mp hi)
  simp [hil]
 have hisl : is.length = ps.length := by rw [p1.length_eq,List.length_range]
 have vr : ∀ l : List Addr,Vals (l.map V.ref) (l.map Value.ref) := by
  intro l
  induction l with
  | nil => exact .nil
  | cons a l ih => exact .cons rfl ih
 have hz : ((is.map fun i => as.getD i 0).map V.ref).length ≤ sizeLine := by rw [List.length_map,List.length_map,hisl,sizeLine_eq]; lia
 refine wpAny_pure ⟨_,rfl,.ref h1.objs.size,_,I1.laid (t' := s.toks) (o := .lst ((is.map fun i => as.getD i 0).map V.ref)) keep (Nat.le_refl _) ⟨hz,_,c,vr _,?_⟩,rfl,q _ is (I1.hok.fresh (Nat.le_refl _)) p1 p2⟩
 rw [← hout]
 simpa [seqObj] using he
end DL
namespace DL
open PySem PySem.Spec PyProof.Rows L2
section
variable {prog : Program} {w : World} {K : Type} [DecidableEq K] {knd : PySem.KeyKind prog w K} {A : Around} {E : Value → Shared → Prop} {s : Shared}
theorem uF {d : Addr} {kvs : List (K × Value)} {k : K} {key dflt : Value} {Q : Value → Shared → Prop} (hkey : knd.is k key = true) (hm : s.heap.DictOf knd d kvs) (hsz : kvs.length ≤ sizeLine)
 (h1 : ∀ v,valueAt kvs k = some v → Q v { s with toks := s.toks + 1 })
 (h2 : valueAt kvs k = none → ∀ h',h'.DictOf knd d (kvs ++ [(k,dflt)]) → Heap.SameBut d s.heap h' → Q dflt { s with heap := h',toks := s.toks + 1 }) :
 wpAny (model prog w) A (dictSetDefault d key dflt) Q E s := by
 obtain ⟨o,es,ep,hob,hc,hd,hk,hp,hn⟩ := hm
 have hes : es.size ≤ sizeLine := by
  have e1 := hp.length
  have e2 : es.toList.length = es.size := by simp
  lia
 have hfind : ∀ x,findBy knd.is es x = valueAt kvs x := fun x => by
  rw [← hp.find x]
  obtain ⟨l⟩ := es
  simp [findBy]
 unfold dictSetDefault
 try with_reducible refine wpAny_holding ?_
 refine wpAny_bind (knd.pyHash hkey ?_)
 refine wpAny_bind (wpAny_dictFind_of (s := { s with toks := s.toks + 1 }) hkey hob hd hk ?_)
 cases hi : es.findIdx? fun e => knd.is k e.key with
 | some i =>
   have hv : valueAt kvs k = (es[i]?).map (·.val) := by rw [← hfind k,findBy_of_findIdx?,hi]
   refine wpAny_bind (wpAny_dictEntries (s := { s with toks := s.toks + 1 }) hob hd ?_)
   have hlt : i < es.size := (Array.findIdx?_eq_some_iff_findIdx_eq.mp hi).1
   rw [Array.getElem?_eq_getElem hlt] at hv ⊢
   exact wpAny_bind (wpAny_rule (wpAny_pure (h1 _ hv)))
 | none =>
   have hv : valueAt kvs k = none := by rw [← hfind k,findBy_of_findIdx?,hi]
   have hidx : (es.findIdx? fun e => knd.is k e.key) = kvs.findIdx? fun kv => decide (kv.1 = k) := by
    rw [← hp.findIdx k]; obtain ⟨l⟩ := es; simp
   have hnot : k ∉ kvs.map (·.1) := not_mem_of_findIdx_none (hidx ▸ hi)
   refine wpAny_bind (wpAny_rule (wpAny_bind (wpAny_updateDictKeys (hz := hes) (s := { s with toks := s.toks + 1 }) hob hd (wpAny_pure (h2 hv _ ⟨_,_,ep + 1,Heap.get?_update_self _ hob (Obj.isFreed_of_dict (Obj.data_mapDictKeys hd _)),
    hc.mapDictKeys _,Obj.data_mapDictKeys hd _,hk.push hkey _,?_,?_⟩ (Heap.SameBut.update ..))))))
   ·have := hp.append hkey (knd.hash k) dflt
    obtain ⟨l⟩ := es
    simpa using this
   ·rw [List.map_append,List.nodup_append]
    refine ⟨hn,by simp,fun a ha b hb => ?_⟩
    simp only [List.map_cons,List.map_nil,List.mem_singleton] at hb
    subst hb
    exact fun e => hnot (e ▸ ha)
theorem uI {d : Addr} {k : K} {key : Value} (hkey : knd.is k key = true) (hd : (d == sysModules) = false) (dflt : Value) :
 MeetsIn prog w (Builtin.«dict.setdefault» ⟨[.ref d,key,dflt],[]⟩) (fun _ R s => ∃ kvs,s.heap.DictOf knd d kvs ∧ kvs.length ≤ sizeLine ∧
  (∀ v,valueAt kvs k = some v → R (.ok (.ret v)) { s with toks := s.toks + 1 }) ∧
  (valueAt kvs k = none → ∀ h',h'.DictOf knd d (kvs ++ [(k,dflt)]) → Heap.SameBut d s.heap h' → R (.ok (.ret dflt)) { s with heap := h',toks := s.toks + 1 })) :=
 .of_wp fun A R s ⟨kvs,hm,hz,h1,h2⟩ => by
  unfold Builtin.«dict.setdefault» Builtin.Dict.keyAndDefault
  refine wpAny_bind (wpAny_bind (wpAny_notOrdered_dict hm.typeIs ?_))
  show wpAny _ _ (pure (d,key,some dflt)) _ _ s
  refine wpAny_pure ?_
  show wpAny _ _ (if (d == sysModules) = true then _ else (dictSetDefault d key dflt >>= _)) _ _ s
  rw [if_neg (by rw [hd]; exact Bool.false_ne_true)]
  exact wpAny_bind (uF hkey hm hz (fun v hv => wpAny_pure ⟨v,rfl,h1 v hv⟩) fun hn h' hm' hs' => wpAny_pure ⟨dflt,rfl,h2 hn h' hm' hs'⟩)
end
theorem zjs {P : Program} {w : World} {H : Hp} {h : Heap} {a : Addr} {kvs : List (Key × V)} (ok : HOk P w H h) (e : H a = some (.dK kvs)) : kvs.length ≤ sizeLine ∧ (a == sysModules) = false ∧ ∃ vs,KV kvs vs ∧ h.DictOf (ww P w) a vs := ok a _ e
theorem zbG {α β : Type} {F : α → β → Prop} : ∀ {l₁ l₃ : List α} {l₂ l₄ : List β},Paired F l₁ l₂ → Paired F l₃ l₄ → Paired F (l₁ ++ l₃) (l₂ ++ l₄)
 | _,_,_,_,.nil,q => q
 | _,_,_,_,.cons r t,q => .cons r (zbG t q)
noncomputable def lkI (kvs : List (Key × V)) (k : Int) : Option V := (kvs.find? fun kv => decide (kv.1 = Sum.inl k)).map (·.2)
theorem KV.valueAt : ∀ {kvs : List (Key × V)} {vs : List (Key × Value)} (k : Int),KV kvs vs → RelO (lkI kvs k) (valueAt vs (Sum.inl k))
 | [],vs,k,r => by cases r; exact trivial
 | (k',v) :: kvs,vs,k,r => by
   cases r with
   | @cons _ q _ vs' r1 r2 =>
     obtain ⟨k2,u⟩ := q
     obtain ⟨e1,e2⟩ := r1
     cases (show k' = k2 from e1)
     have ih := KV.valueAt k r2
     unfold PySem.valueAt lkI at ih ⊢
     rw [List.find?_cons,List.find?_cons]
     by_cases hk : k' = Sum.inl k
     ·simp only [decide_eq_true hk]
      exact e2
     ·simp only [decide_eq_false hk]
      exact ih
noncomputable def zcH : V → List V → Hp → VK → Prop := fun x vs H Q => ∃ (d : Addr) (k : Int) (y : V) (kvs : List (Key × V)),x = .ref d ∧ vs = [.int k,y] ∧ H d = some (.dK kvs) ∧ kvs.length < sizeLine ∧
 ((∃ v,lkI kvs k = some v ∧ Q v H) ∨ (lkI kvs k = none ∧ Q y (upd H d (.dK (kvs ++ [(Sum.inl k,y)])))))
theorem zfO {X : Cx} : MtR X "dict.setdefault" zcH := by
 intro pins s σ H x vs v us Q I rx rv h
 obtain ⟨d,k,y,kvs,rfl,rfl,hH,hz,q⟩ := h
 cases rx
 obtain ⟨u1,u2,rfl,r1,r2⟩ := zfa rv
 obtain ⟨t,rfl⟩ := r1
 obtain ⟨_,hsm,ws,rel,dd⟩ := zjs I.hok hH
 have hl : ws.length = kvs.length := (Paired.length rel).symm
 have hv := KV.valueAt k rel
 refine call_meetsIn PySem.F.slot_dict_setdefault dd.typeIs PySem.F.entry_dict_setdefault (PySem.F.args_dict_setdefault_3 _ _ _) (uI (knd := ww X.prog X.w) (k := Sum.inl k) (show (ww X.prog X.w).is (Sum.inl k) (.int k t) = true from zf0 k t) hsm u2) ⟨ws,dd,by lia,fun v' e' => ?_,fun e' h' dd' sb => ?_⟩
 ·rw [e'] at hv
  rcases q with ⟨v2,e2,q⟩ | ⟨e2,_⟩
  ·rw [e2] at hv
   exact ⟨v2,H,I.tok _,hv,q⟩
  ·rw [e2] at hv; exact hv.elim
 ·rw [e'] at hv
  rcases q with ⟨v2,e2,_⟩ | ⟨e2,q⟩
  ·rw [e2] at hv; exact hv.elim
  ·have ho : ∃ o,h'.get? d = some o := let ⟨o,_,_,e,_⟩ := dd'; ⟨o,e⟩
   refine ⟨y,_,I.write (t' := s.toks + 1) (x := d) (e := d) (o := .dK (kvs ++ [(Sum.inl k,y)])) (by rw [hH]; trivial) (.inl rfl) (fun b o hb e => (sb.2 b hb).trans e) ho ⟨?_,hsm,_,zbG rel (.cons ⟨rfl,r2⟩ .nil),dd'⟩,r2,q⟩
   rw [List.length_append,List.length_singleton]
   lia
end DL
namespace DL
open PySem PySem.Spec PyProof.Rows L2
theorem I_big {X : Cx} {pins : List (Addr × Obj)} {σ : St} {H : Hp} {s : Shared} (I : Inv X pins σ H s) : ∀ {a : Addr},s.heap.objs.size ≤ a → (a == sysModules) = false := by
 intro a ha
 have h : mainGlobals < s.heap.objs.size := (I.mod.glob.keeps I.bk).lt
 exact beq_eq_false_iff_ne.mpr (Ne.symm (Nat.ne_of_lt (Nat.lt_of_lt_of_le (Nat.lt_trans (by decide) h) ha)))
noncomputable def zh1 : TE := fun _ H Q => ∀ p,H p = none → Q (.ref p) (upd H p (.dK []))
theorem zho {X : Cx} {pos : Pos} : PE X (.Dict [] [] pos) zh1 := fun pins s σ H Q I h =>
 wpAny_Dict_empty ⟨.ref s.heap.objs.size,_,I.laid (a := s.heap.objs.size) (o := .dK []) (t' := s.toks) (fun _ _ q => Heap.get?_push_of_some _ q) (Nat.le_refl _) ⟨Nat.zero_le _,I_big I (Nat.le_refl _),[],.nil,Heap.DictOf.new _⟩,rfl,h _ (I.hok.fresh (Nat.le_refl _))⟩
noncomputable def zaJ (r d : Addr) : HO := .ext fun h => h.IsItemsView r d
noncomputable def zh8 : V → List V → Hp → VK → Prop := fun x vs H Q => ∃ (d : Addr) (kvs : List (Key × V)),x = .ref d ∧ vs = [] ∧ H d = some (.dK kvs) ∧ ∀ r,H r = none → Q (.ref r) (upd H r (zaJ r d))
theorem zhx {X : Cx} : MtR X "dict.items" zh8 := by
 intro pins s σ H x vs v us Q I rx rv h
 obtain ⟨d,kvs,rfl,rfl,hH,q⟩ := h
 cases rx
 cases rv
 obtain ⟨_,hsm,ws,rel,dd⟩ := zjs I.hok hH
 refine call_meetsIn PySem.F.slot_dict_items dd.typeIs PySem.F.entry_dict_items (PySem.F.args_dict_items_1 _) (meets_dict_items (ww X.prog X.w) d hsm) ⟨⟨ws,dd⟩,?_⟩
 have hv : (s.heap.push { cls := .type "dict_items",data := .fields #[.ref d] }).IsItemsView s.heap.objs.size d := ⟨_,Heap.get?_push_size _ rfl,rfl,rfl⟩
 refine ⟨.ref s.heap.objs.size,_,I.laid (t' := s.toks) (o := zaJ s.heap.objs.size d) (fun _ _ e => Heap.get?_push_of_some _ e) (Nat.le_refl _) ⟨hv,⟨_,Heap.get?_push_size _ rfl⟩,fun h1 h2 ⟨o,e,r⟩ hk => ⟨o,hk o e,r⟩⟩,rfl,q _ (I.hok.fresh (Nat.le_refl _))⟩
theorem Inv.many {X : Cx} {pins : List (Addr × Obj)} {σ : St} {H H' : Hp} {s : Shared} {h' : Heap} {t' : Nat} (I : Inv X pins σ H s) (k : ∀ b o,s.heap.get? b = some o → h'.get? b = some o) (hs : Same H H') (hn : ∀ b,b < s.heap.objs.size → H b = none → H' b = none)
 (hok : ∀ b o,s.heap.objs.size ≤ b → H' b = some o → xx X.prog X.w H' h' b o) : Inv X pins σ H' { s with heap := h',toks := t' } := by
 refine I.un ⟨fun b o e _ _ _ => k b o e,fun b o e _ _ _ => ⟨o.slots,k b o e⟩,fun b o e n _ => hn b (Heap.lt_size e) n,fun b o e _ => ⟨o,k b o e⟩,fun b xs e => hs _ _ e,fun b o u e => hs _ _ e,fun b ps e => ⟨#[],by rw [hs _ _ e]; simp⟩⟩ fun b o e => ?_
 cases q : H b with
 | some u =>
   have e2 := hs _ _ q
   rw [e2] at e
   have e3 : u = o := Option.some.inj e
   subst e3
   exact (I.hok b u q).stay (fun c v _ x => k c v x) (fun c x => hs _ _ x) fun c xs x => hs _ _ x
 | none =>
   rcases Nat.lt_or_ge b s.heap.objs.size with hlt | hge
   ·rw [hn b hlt q] at e; cases e
   ·exact hok b o hge e
noncomputable def layT (H : Hp) : List Addr → List (Key × V) → Hp
 | a :: as,kv :: kvs => upd (layT H as kvs) a (.tup [kV kv.1,kv.2])
 | _,_ => H
theorem wO {H : Hp} : ∀ {as : List Addr} {kvs : List (Key × V)} {b : Addr},b ∉ as → layT H as kvs b = H b
 | [],_,b,_ => rfl
 | a :: as,[],b,_ => rfl
 | a :: as,kv :: kvs,b,h => by
   have h1 : b ≠ a := fun z => h (by rw [z]; exact List.mem_cons_self)
   have h2 : b ∉ as := fun z => h (List.mem_cons_of_mem _ z)
   unfold layT
   rw [zu h1,wO h2]
theorem zcV {H : Hp} : ∀ {as : List Addr} {kvs : List (Key × V)} {j : Nat} {a : Addr} {kv : Key × V},as.Nodup → as[j]? = some a → kvs[j]? = some kv → layT H as kvs a = some (.tup [kV kv.1,kv.2])
 | [],_,j,a,kv,_,h,_ => by simp at h
 | a' :: as,[],j,a,kv,_,_,h => by simp at h
 | a' :: as,kv' :: kvs,0,a,kv,hn,h1,h2 => by
   simp at h1 h2
   subst h1; subst h2
   exact zC
 | a' :: as,kv' :: kvs,j + 1,a,kv,hn,h1,h2 => by
   have hn' := List.nodup_cons.mp hn
   have hm : a ∈ as := List.mem_of_getElem? (by simpa using h1)
   have hne : a ≠ a' := fun z => hn'.1 (z ▸ hm)
   unfold layT
   rw [zu hne]
   exact zcV hn'.2 (by simpa using h1) (by simpa using h2)
theorem zim : ∀ {kvs : List (Key × V)} {ws : List (Key × Value)} {j : Nat} {k : Key} {u : Value},KV kvs ws → ws[j]? = some (k,u) → ∃ v,kvs[j]? = some (k,v) ∧ RelV v u
 | _,_,j,k,u,.nil,h => by simp at h
 | _,_,0,k,u,.cons (a := p) (b := q) r t,h => by
   simp at h
   subst h
   obtain ⟨k',v⟩ := p
   exact ⟨v,by simp; exact r.1,r.2⟩
 | _,_,j + 1,k,u,.cons r t,h => by
   obtain ⟨v,e,r'⟩ := zim (j := j) t (by simpa using h)
   exact ⟨v,by simpa using e,r'⟩
theorem zah {X : Cx} (hc : X.calm = true) : wj X (.type "list") (fun xs H Q => ∃ (r d : Addr) (kvs : List (Key × V)),xs = [.ref r] ∧ H r = some (zaJ r d) ∧ H d = some (.dK kvs) ∧
 ∀ (l : Addr) (as : List Addr),H l = none → as.length = kvs.length → as.Nodup → (∀ a ∈ as,H a = none ∧ a ≠ l) → Q (.ref l) (upd (layT H as kvs) l (.lst (as.map V.ref)))) := by
 intro pins s σ H xs us Q I r h
 obtain ⟨rv,d,kvs,rfl,hr,hH,q⟩ := h
 obtain ⟨u,rfl,r1⟩ := wk r
 cases (show u = .ref rv from r1)
 obtain ⟨hz,hsm,ws,rel,dd⟩ := zjs I.hok hH
 obtain ⟨hview,_⟩ := I.hok rv _ hr
 obtain ⟨ep,dat⟩ := dd.dictAt
 have hwl : ws.length = kvs.length := (Paired.length rel).symm
 refine PySem.W.kdx_call (knd := ww X.prog X.w) (I.ok.hd hc) hview dat (by lia) fun h' tk acc c as hk hS hl hG hacc => ?_
 have hnd : as.Nodup := hG.rise.imp fun h => Nat.ne_of_lt h
 have hab : ∀ a ∈ as,s.heap.objs.size < a := hG.above
 have hn : ∀ a,s.heap.objs.size ≤ a → H a = none := fun a ha => I.hok.fresh ha
 have hnl : ∀ a ∈ as,H a = none ∧ a ≠ s.heap.objs.size := fun a ha => ⟨hn a (Nat.le_of_lt (hab a ha)),Nat.ne_of_gt (hab a ha)⟩
 have fin := q s.heap.objs.size as (hn _ (Nat.le_refl _)) (by lia) hnd hnl
 have hlow : ∀ b,b < s.heap.objs.size → upd (layT H as kvs) s.heap.objs.size (.lst (as.map V.ref)) b = H b := fun b hb => by
  rw [zu (Nat.ne_of_lt hb),wO fun hm => absurd (hab b hm) (Nat.not_lt.mpr (Nat.le_of_lt hb))]
 have vr : ∀ l : List Addr,Vals (l.map V.ref) (l.map Value.ref) := by
  intro l
  induction l with
  | nil => exact .nil
  | cons a l ih => exact .cons rfl ih
 have hsame : Same H (upd (layT H as kvs) s.heap.objs.size (.lst (as.map V.ref))) := fun b o e => by
  have hb : b < s.heap.objs.size := by
   rcases Nat.lt_or_ge b s.heap.objs.size with hlt | hge
   ·exact hlt
   ·rw [hn b hge] at e; cases e
  rw [hlow b hb]; exact e
 refine ⟨.ref s.heap.objs.size,_,Inv.many I hk hsame (fun b hb e => by rw [hlow b hb]; exact e) fun b o hb e => ?_,rfl,fin⟩
 by_cases hbl : b = s.heap.objs.size
 ·subst hbl
  rw [zC] at e
  cases e
  refine ⟨by rw [List.length_map]; lia,as.map Value.ref,c,vr as,?_⟩
  rw [← hacc]
  simpa using hS
 ·rw [zu hbl] at e
  by_cases hm : b ∈ as
  ·obtain ⟨j,hj⟩ := List.getElem?_of_mem hm
   obtain ⟨key,k,x,hw,hkey,ht⟩ := hG.pairs j b hj
   obtain ⟨v,hv,rvx⟩ := zim rel hw
   rw [zcV hnd hj hv] at e
   cases e
   refine ⟨by show 2 ≤ sizeLine; rw [sizeLine_eq]; lia,[key,x],.cons ?_ (.cons rvx .nil),⟨_,ht,rfl,_,rfl⟩⟩
   rcases z0 (k := k) (v := key) hkey with ⟨i,t,rfl,rfl⟩ | ⟨z,t,rfl,rfl⟩
   ·exact ⟨t,rfl⟩
   ·exact ⟨t,rfl⟩
  ·rw [wO hm,hn b hb] at e
   cases e
end DL
namespace DL
open PySem PySem.Spec PyProof.Rows L2
noncomputable def zcK (p : Int × Int) : List (Int × Int) → List (Int × Int)
 | [] => [p]
 | q :: r => if pLt p q = true then p :: q :: r else q :: zcK p r
noncomputable def we : List (Int × Int) → List (Int × Int)
 | [] => []
 | p :: r => zcK p (we r)
theorem uZ (p : Int × Int) : ∀ l,(zcK p l).Perm (p :: l)
 | [] => List.Perm.refl _
 | q :: r => by
   unfold zcK
   split
   ·exact List.Perm.refl _
   ·exact ((uZ p r).cons q).trans (List.Perm.swap p q r)
theorem xJ : ∀ l,(we l).Perm l
 | [] => List.Perm.refl _
 | p :: r => (uZ p (we r)).trans ((xJ r).cons p)
theorem uY {p : Int × Int} : ∀ {l : List (Int × Int)},p ∉ l → l.Pairwise (fun p q => pLt p q = true) → (zcK p l).Pairwise (fun p q => pLt p q = true)
 | [],_,_ => by simp [zcK]
 | q :: r,hp,h => by
   unfold zcK
   have h' := List.pairwise_cons.mp h
   have hpq : p ≠ q := fun z => hp (by rw [z]; exact List.mem_cons_self)
   split
   ·rename_i hl
    refine List.pairwise_cons.mpr ⟨fun x hx => ?_,h⟩
    rcases List.mem_cons.mp hx with rfl | hx
    ·exact hl
    ·exact zfE hl (h'.1 x hx)
   ·rename_i hl
    have hl' : pLt q p = true := (zfF hpq).resolve_left hl
    refine List.pairwise_cons.mpr ⟨fun x hx => ?_,uY (fun z => hp (List.mem_cons_of_mem _ z)) h'.2⟩
    rcases List.mem_cons.mp ((uZ p r).mem_iff.mp hx) with rfl | hx
    ·exact hl'
    ·exact h'.1 x hx
theorem wu : ∀ {l : List (Int × Int)},l.Nodup → (we l).Pairwise (fun p q => pLt p q = true)
 | [],_ => List.Pairwise.nil
 | p :: r,h => by
   have h' := List.nodup_cons.mp h
   exact uY (fun z => h'.1 ((xJ r).mem_iff.mp z)) (wu h'.2)
theorem w6 : ∀ {a b : List (Int × Int)},a.Perm b → a.Pairwise (fun p q => pLt p q = true) → b.Pairwise (fun p q => pLt p q = true) → a = b
 | [],b,p,_,_ => by rw [List.Perm.nil_eq p]
 | x :: a,[],p,_,_ => by have := p.length_eq; simp at this
 | x :: a,y :: b,p,ha,hb => by
   have ha' := List.pairwise_cons.mp ha
   have hb' := List.pairwise_cons.mp hb
   have e : x = y := by
    have h1 : x ∈ y :: b := p.mem_iff.mp List.mem_cons_self
    have h2 : y ∈ x :: a := p.mem_iff.mpr List.mem_cons_self
    rcases List.mem_cons.mp h1 with h1 | h1
    ·exact h1
    ·rcases List.mem_cons.mp h2 with h2 | h2
     ·exact h2.symm
     ·have q1 := ha'.1 y h2
      have q2 := hb'.1 x h1
      have := zfE q1 q2
      rw [zfG] at this
      cases this
   subst e
   rw [w6 ((List.perm_cons x).mp p) ha'.2 hb'.2]
noncomputable abbrev Grp := Int × List Int
noncomputable def addG (gs : List Grp) (p : Int × Int) : List Grp := if gs.any (fun g => decide (g.1 = p.1)) = true then gs.map (fun g => if g.1 = p.1 then (g.1,g.2 ++ [p.2]) else g) else gs ++ [(p.1,[p.2])]
noncomputable def xL (ps : List (Int × Int)) : List Grp := ps.foldl addG []
noncomputable def grpD (g : Grp) : D := .tup [.int g.1,.lst (g.2.map .int)]
noncomputable abbrev GA := Int × List Int × Addr
noncomputable def addA (gs : List GA) (p : Int × Int) (a : Addr) : List GA := if gs.any (fun g => decide (g.1 = p.1)) = true then gs.map (fun g => if g.1 = p.1 then (g.1,g.2.1 ++ [p.2],g.2.2) else g) else gs ++ [(p.1,[p.2],a)]
noncomputable def offA (gs : List GA) : List Grp := gs.map fun g => (g.1,g.2.1)
theorem ziY (gs : List GA) (p : Int × Int) (a : Addr) : offA (addA gs p a) = addG (offA gs) p := by
 unfold addA addG offA
 have e : (gs.map fun g => ((g.1,g.2.1) : Grp)).any (fun g => decide (g.1 = p.1)) = gs.any (fun g => decide (g.1 = p.1)) := by rw [List.any_map]; rfl
 rw [e]
 split
 ·rw [List.map_map,List.map_map]
  refine List.map_congr_left fun g _ => ?_
  simp only [Function.comp]
  split <;> rfl
 ·simp
noncomputable def kvA (gs : List GA) : List (Key × V) := gs.map fun g => (Sum.inl g.1,V.ref g.2.2)
theorem zfW : ∀ (gs : List GA) (x : Int),lkI (kvA gs) x = (gs.find? fun g => decide (g.1 = x)).map fun g => V.ref g.2.2
 | [],x => rfl
 | g :: gs,x => by
   have ih := zfW gs x
   unfold lkI kvA at ih ⊢
   rw [List.map_cons,List.find?_cons,List.find?_cons]
   by_cases h : g.1 = x
   ·have h' : (Sum.inl g.1 : Key) = Sum.inl x := by rw [h]
    simp only [decide_eq_true h,decide_eq_true h']
    rfl
   ·have h' : ¬ (Sum.inl g.1 : Key) = Sum.inl x := fun z => h (Sum.inl.inj z)
    simp only [decide_eq_false h,decide_eq_false h']
    exact ih
structure DicOk (Hs H : Hp) (d l : Addr) (gs : List GA) : Prop where
 same : Same Hs H
 nd : Hs d = none
 at_ : H d = some (.dK (kvA gs))
 lists : ∀ g ∈ gs,H g.2.2 = some (.lst (g.2.1.map V.int)) ∧ Hs g.2.2 = none ∧ g.2.2 ≠ l
 apart : (gs.map (·.2.2)).Nodup
 keys : (gs.map (·.1)).Nodup
theorem DicOk.old {Hs H : Hp} {d l : Addr} {gs : List GA} {x y : Int} {g : GA} (I : DicOk Hs H d l gs) (hf : gs.find? (fun g => decide (g.1 = x)) = some g) (a : Addr) :
 DicOk Hs (upd H g.2.2 (.lst (g.2.1.map V.int ++ [.int y]))) d l (addA gs (x,y) a) := by
 have hg : g ∈ gs := List.mem_of_find?_eq_some hf
 have hx : g.1 = x := by simpa using List.find?_some hf
 obtain ⟨h1,h2,h3⟩ := I.lists g hg
 have hany : gs.any (fun g => decide (g.1 = x)) = true := List.any_eq_true.mpr ⟨g,hg,by simp [hx]⟩
 have hdne : d ≠ g.2.2 := ne_of I.at_ h1 (by intro z; cases z)
 have uniq : ∀ g' ∈ gs,g'.1 = x → g' = g := fun g' hg' e => by
  obtain ⟨i,hi⟩ := List.getElem?_of_mem hg
  obtain ⟨j,hj⟩ := List.getElem?_of_mem hg'
  have e1 : (gs.map (·.1))[i]? = some x := by rw [List.getElem?_map,hi,← hx]; rfl
  have e2 : (gs.map (·.1))[j]? = some x := by rw [List.getElem?_map,hj,← e]; rfl
  have hij : i = j := (List.getElem?_inj (List.getElem?_eq_some_iff.mp e1).1 I.keys).mp (e1.trans e2.symm)
  rw [hij,hj] at hi
  exact (Option.some.inj hi)
 have apart2 : ∀ g' ∈ gs,g' ≠ g → g'.2.2 ≠ g.2.2 := fun g' hg' hne e => by
  obtain ⟨i,hi⟩ := List.getElem?_of_mem hg
  obtain ⟨j,hj⟩ := List.getElem?_of_mem hg'
  have e1 : (gs.map (·.2.2))[i]? = some g.2.2 := by rw [List.getElem?_map,hi]; rfl
  have e2 : (gs.map (·.2.2))[j]? = some g.2.2 := by rw [List.getElem?_map,hj,← e]; rfl
  have hij : i = j := (List.getElem?_inj (List.getElem?_eq_some_iff.mp e1).1 I.apart).mp (e1.trans e2.symm)
  rw [hij,hj] at hi
  exact hne (Option.some.inj hi)
 have hadd : addA gs (x,y) a = gs.map (fun g => if g.1 = x then (g.1,g.2.1 ++ [y],g.2.2) else g) := by unfold addA; rw [if_pos hany]
 have m1 : ((addA gs (x,y) a).map (·.2.2)) = gs.map (·.2.2) := by
  rw [hadd,List.map_map]
  refine List.map_congr_left fun g' _ => ?_
  simp only [Function.comp]
  split <;> rfl
 have m2 : ((addA gs (x,y) a).map (·.1)) = gs.map (·.1) := by
  rw [hadd,List.map_map]
  refine List.map_congr_left fun g' _ => ?_
  simp only [Function.comp]
  split <;> rfl
 have m3 : kvA (addA gs (x,y) a) = kvA gs := by
  unfold kvA
  rw [hadd,List.map_map]
  refine List.map_congr_left fun g' _ => ?_
  simp only [Function.comp]
  split <;> rfl
 refine ⟨fun b o e => ?_,I.nd,?_,fun g' hg' => ?_,by rw [m1]; exact I.apart,by rw [m2]; exact I.keys⟩
 ·rw [zu (zo e h2)]; exact I.same b o e
 ·rw [zu hdne,m3]; exact I.at_
 ·rw [hadd] at hg'
  obtain ⟨g2,hg2,rfl⟩ := List.mem_map.mp hg'
  by_cases e : g2.1 = x
  ·have := uniq g2 hg2 e
   subst this
   rw [if_pos e]
   refine ⟨?_,h2,h3⟩
   show upd H g2.2.2 _ g2.2.2 = _
   rw [zC]
   simp
  ·rw [if_neg e]
   obtain ⟨q1,q2,q3⟩ := I.lists g2 hg2
   refine ⟨?_,q2,q3⟩
   rw [zu (apart2 g2 hg2 fun z => e (by rw [z]; exact hx))]
   exact q1
theorem DicOk.laid {Hs H : Hp} {d l p : Addr} {gs : List GA} {o : HO} (I : DicOk Hs H d l gs) (hp : H p = none) : DicOk Hs (upd H p o) d l gs where
 same := fun b u e => by rw [zu (zo (I.same b u e) hp)]; exact I.same b u e
 nd := I.nd
 at_ := by rw [zu (zo I.at_ hp)]; exact I.at_
 lists := fun g hg => let ⟨h1,h2,h3⟩ := I.lists g hg; ⟨by rw [zu (zo h1 hp)]; exact h1,h2,h3⟩
 apart := I.apart
 keys := I.keys
theorem DicOk.new {Hs H : Hp} {d l p : Addr} {gs : List GA} {x y : Int} (I : DicOk Hs H d l gs) (hp : H p = none) (hl : H l ≠ none) (hf : gs.find? (fun g => decide (g.1 = x)) = none) :
 DicOk Hs (upd (upd (upd H p (.lst [])) d (.dK (kvA gs ++ [(Sum.inl x,.ref p)]))) p (.lst ([] ++ [.int y]))) d l (addA gs (x,y) p) := by
 have hpd : p ≠ d := fun z => by rw [z,I.at_] at hp; cases hp
 have hany : ¬ gs.any (fun g => decide (g.1 = x)) = true := fun h => by
  obtain ⟨g,hg,e⟩ := List.any_eq_true.mp h
  have := List.find?_eq_none.mp hf g hg
  exact this e
 have hadd : addA gs (x,y) p = gs ++ [(x,[y],p)] := by unfold addA; rw [if_neg hany]
 have hsp : Hs p = none := I.same.free hp
 have hpl : p ≠ l := fun z => hl (z ▸ hp)
 have hne : ∀ g ∈ gs,g.2.2 ≠ p := fun g hg => zo (I.lists g hg).1 hp
 have hned : ∀ g ∈ gs,g.2.2 ≠ d := fun g hg z => by
  have := (I.lists g hg).1
  rw [z,I.at_] at this
  cases this
 refine ⟨fun b o e => ?_,I.nd,?_,fun g hg => ?_,?_,?_⟩
 ·rw [zu (zo e hsp),zu (zo e I.nd),zu (zo e hsp)]
  exact I.same b o e
 ·rw [zu hpd.symm,zC,hadd]
  unfold kvA
  simp
 ·rw [hadd] at hg
  rcases List.mem_append.mp hg with hg | hg
  ·obtain ⟨q1,q2,q3⟩ := I.lists g hg
   refine ⟨?_,q2,q3⟩
   rw [zu (hne g hg),zu (hned g hg),zu (hne g hg)]
   exact q1
  ·rw [List.mem_singleton] at hg
   subst hg
   exact ⟨by rw [zC]; rfl,hsp,hpl⟩
 ·rw [hadd,List.map_append,List.nodup_append]
  refine ⟨I.apart,by simp,fun a ha b hb => ?_⟩
  obtain ⟨g,hg,rfl⟩ := List.mem_map.mp ha
  simp only [List.map_cons,List.map_nil,List.mem_singleton] at hb
  subst hb
  exact hne g hg
 ·rw [hadd,List.map_append,List.nodup_append]
  refine ⟨I.keys,by simp,fun a ha b hb => ?_⟩
  obtain ⟨g,hg,rfl⟩ := List.mem_map.mp ha
  simp only [List.map_cons,List.map_nil,List.mem_singleton] at hb
  subst hb
  intro z
  exact hany (List.any_eq_true.mpr ⟨g,hg,by simpa using z⟩)
end DL
namespace DL
open PySem PySem.Spec PyProof.Rows L2
noncomputable def zjP : List V → Hp → VK → Prop := fun xs H Q => ∃ (p : Addr) (as : List Addr) (ps : List (Int × Int)),xs = [.ref p] ∧ H p = some (.lst (as.map V.ref)) ∧ uD H as ps ∧ ps.Nodup ∧ ps.length < 64 ∧
    ∀ (l : Addr) (is : List Nat),H l = none → is.Perm (List.range ps.length) → (is.map fun i => ps.getD i (0,0)).Pairwise (fun p q => pLt p q = true) → Q (.ref l) (upd H l (.lst ((is.map fun i => as.getD i 0).map V.ref)))
noncomputable def zjQ : List V → Hp → VK → Prop := fun xs H Q => ∃ (r d : Addr) (kvs : List (Key × V)),xs = [.ref r] ∧ H r = some (zaJ r d) ∧ H d = some (.dK kvs) ∧
    ∀ (l : Addr) (as : List Addr),H l = none → as.length = kvs.length → as.Nodup → (∀ a ∈ as,H a = none ∧ a ≠ l) → Q (.ref l) (upd (layT H as kvs) l (.lst (as.map V.ref)))
noncomputable def zjI (K : PySem.W.Frag) : TS :=
 tSeq (tAsg zh1 (zf9 1)) (tSeq (tFor (zkt K (tCB zjP (zac (tVar 0) tNil))) (gTup K 2 (zjm (zf9 2) (zjm (zf9 3) gNil))) (zg4 (tBM K "list" zcI (tBM K "dict" zcH (tVar 1) (zac (tVar 2) (zac (tLst tNil) tNil))) (zac (tVar 3) tNil))))
  (tRet (tCB zjQ (zac (tBM0 K "dict" zh8 (tVar 1)) tNil))))
@[simp] noncomputable def zas : FS := fun (env : List Slot) => match env[0]? with
  | some (Slot.pers (.lst ds)) => match xG ds with
    | some ps => if ps.length < 18 ∧ ps.Nodup then .ok (.ret (.fresh ((xL (we ps)).map grpD))) else .bad
    | none => .bad
  | _ => .bad
theorem tt (ps : List (Int × Int)) (p : Int × Int) : xL (ps ++ [p]) = addG (xL ps) p := by
 unfold xL
 rw [List.foldl_append]
 rfl
theorem zeK {K : PySem.W.Frag} {Hs H : Hp} {d l : Addr} {gs : List GA} {σ : St} {x y : Int} {D : Ends} (I : DicOk Hs H d l gs) (hl : H l ≠ none) (hld : l ≠ d) (hgl : gs.length < 1000) (hll : ∀ g ∈ gs,g.2.1.length < 1000) (s1 : σ[1]? = some (some (.ref d))) (s2 : σ[2]? = some (some (.int x))) (s3 : σ[3]? = some (some (.int y)))
 (h : ∀ H' a,DicOk Hs H' d l (addA gs (x,y) a) → H' l = H l → D.nx σ H') :
 zg4 (tBM K "list" zcI (tBM K "dict" zcH (tVar 1) (zac (tVar 2) (zac (tLst tNil) tNil))) (zac (tVar 3) tNil)) D σ H := by
 refine ⟨.ref d,s1,.inr (.inr (.inl ⟨rfl,.inl ⟨_,I.at_⟩⟩)),.int x,s2,⟨Nat.zero_le _,fun p hp => ?_⟩⟩
 have hpd : d ≠ p := zo I.at_ hp
 have hlp : l ≠ p := fun z => hl (z ▸ hp)
 have hkl : (kvA gs).length < sizeLine := by unfold kvA; rw [List.length_map,sizeLine_eq]; lia
 refine ⟨d,x,.ref p,kvA gs,rfl,rfl,by rw [zu hpd]; exact I.at_,hkl,?_⟩
 cases hf : gs.find? (fun g => decide (g.1 = x)) with
 | some g =>
   have hg := List.mem_of_find?_eq_some hf
   have hL := I.lists g hg
   have hgp : g.2.2 ≠ p := zo hL.1 hp
   have hat : upd H p (.lst []) g.2.2 = some (.lst (g.2.1.map V.int)) := by rw [zu hgp]; exact hL.1
   refine .inl ⟨.ref g.2.2,by rw [zfW,hf]; rfl,.inl ⟨rfl,_,SqL.of hat⟩,.int y,s3,g.2.2,_,.int y,rfl,rfl,hat,by rw [List.length_map,sizeLine_eq]; have := hll g hg; lia,?_⟩
   refine h _ p ((I.laid (o := .lst []) hp).old (y := y) hf p) ?_
   rw [zu hL.2.2.symm,zu hlp]
 | none =>
   have hat : upd (upd H p (.lst [])) d (.dK (kvA gs ++ [(Sum.inl x,.ref p)])) p = some (.lst []) := by rw [zu hpd.symm,zC]
   refine .inr ⟨by rw [zfW,hf]; rfl,.inl ⟨rfl,_,SqL.of hat⟩,.int y,s3,p,_,.int y,rfl,rfl,hat,by rw [sizeLine_eq]; simp,?_⟩
   refine h _ p (I.new (y := y) hp hl hf) ?_
   rw [zu hlp,zu hld,zu hlp]
theorem zf6 (ps : List (Int × Int)) : (xL ps).length ≤ ps.length ∧ ∀ g ∈ xL ps,g.2.length ≤ ps.length := by
 have : ∀ (l : List (Int × Int)) (gs : List Grp) (n : Nat),gs.length ≤ n → (∀ g ∈ gs,g.2.length ≤ n) → (l.foldl addG gs).length ≤ n + l.length ∧ ∀ g ∈ l.foldl addG gs,g.2.length ≤ n + l.length := by
  intro l
  induction l with
  | nil => intro gs n h1 h2; exact ⟨by simpa using h1,fun g hg => by simpa using h2 g hg⟩
  | cons p l ih =>
    intro gs n h1 h2
    have q := ih (addG gs p) (n + 1) (by
     unfold addG
     split
     ·simp; lia
     ·simp; lia) (fun g hg => by
     unfold addG at hg
     split at hg
     ·obtain ⟨g',hg',rfl⟩ := List.mem_map.mp hg
      have := h2 g' hg'
      split
      ·simp; lia
      ·lia
     ·rcases List.mem_append.mp hg with hg | hg
      ·have := h2 g hg; lia
      ·rw [List.mem_singleton] at hg; rw [hg]; simp)
    rw [List.foldl_cons,List.length_cons]
    exact ⟨by lia,fun g hg => by have := q.2 g hg; lia⟩
 have q := this ps [] 0 (Nat.le_refl _) (by simp)
 simp only [Nat.zero_add] at q
 exact q
theorem zd5 {α : Type} {l : List α} {i : Nat} {x : α} (h : i < l.length) : l[i]? = some (l.getD i x) := by simp [h]
theorem zeJ {K : PySem.W.Frag} {G₀ H₀ : Hp} {D : Ends} {σ : St} {Hs : Hp} (q : tS K G₀ H₀ zas D σ Hs) (hσ : σ.length = 4) : zjI K D σ Hs := by
 obtain ⟨env,G,r,I,e,k⟩ := q
 unfold zas at e
 split at e
 rotate_left
 ·cases e
 rename_i ds hd
 split at e
 rotate_left
 ·cases e
 rename_i ps hps
 split at e
 rotate_left
 ·cases e
 rename_i hb
 obtain ⟨hpl,hnd⟩ := hb
 cases e
 obtain ⟨v0,s0,rep⟩ := I.pers hd
 obtain ⟨pa,vs,rfl,gp,rl⟩ := rep
 rw [xM hps] at rl
 obtain ⟨as,rfl,hP⟩ := u0 rl
 intro d hdn
 have hHd : upd Hs d (.dK []) pa = some (.lst (as.map V.ref)) := by
  have := I.le _ _ gp
  rw [zu (zo this hdn)]
  exact this
 have hPd : uD (upd Hs d (.dK [])) as ps := ⟨hP.1,fun i a q h1 h2 => by
  have := I.le _ _ (hP.2 i a q h1 h2)
  rw [zu (zo this hdn)]
  exact this⟩
 have hσ0 : (σ.set 1 (some (.ref d)))[0]? = some (some (.ref pa)) := by rw [List.getElem?_set_ne (by lia)]; exact s0
 have hσ1 : (σ.set 1 (some (V.ref d)))[1]? = some (some (.ref d)) := by rw [List.getElem?_set]; simp [hσ]
 refine ⟨.ref pa,hσ0,pa,as,ps,rfl,hHd,hPd,hnd,by lia,fun l is hl hperm hsort => ⟨l,rfl,⟨_,SqL.of zC⟩,?_⟩⟩
 have hord : is.map (fun i => ps.getD i (0,0)) = we ps := by
  refine w6 (List.Perm.trans ?_ (xJ ps).symm) hsort (wu hnd)
  have : (List.range ps.length).map (fun i => ps.getD i (0,0)) = ps := by
   apply List.ext_getElem
   ·simp
   ·intro i h3 h4
    simp [h4]
  have h2 := hperm.map (fun i => ps.getD i (0,0))
  rw [this] at h2
  exact h2
 have hisl : is.length = ps.length := by rw [hperm.length_eq,List.length_range]
 have hld : l ≠ d := fun z => by rw [z,zC] at hl; cases hl
 have hsl : Hs l = none := by rw [zu hld] at hl; exact hl
 have hN : (we ps).length = ps.length := (xJ ps).length_eq
 have zx : DicOk Hs (upd (upd Hs d (.dK [])) l (.lst ((is.map fun i => as.getD i 0).map V.ref))) d l [] := by
  refine ⟨fun b o e => ?_,hdn,?_,fun g hg => (List.not_mem_nil hg).elim,List.nodup_nil,List.nodup_nil⟩
  ·rw [zu (zo e hsl),zu (zo e hdn)]; exact e
  ·rw [zu hld.symm,zC]; rfl
 refine ⟨fun i m σ' H => m = ps.length - i ∧ i ≤ ps.length ∧ σ'.length = 4 ∧ σ'[1]? = some (some (.ref d)) ∧ H l = some (.lst ((is.map fun i => as.getD i 0).map V.ref)) ∧ ∃ gs,DicOk Hs H d l gs ∧ offA gs = xL ((we ps).take i),⟨ps.length,by simp,Nat.zero_le _,by simp [hσ],hσ1,zC,[],zx,rfl⟩,?_⟩
 rintro i m σ' H ⟨rfl,hi,hσl,hs1,hHl,gs,J,hoff⟩
 have hgl := zf6 ((we ps).take i)
 have htl : ((we ps).take i).length ≤ ps.length := by rw [List.length_take,hN]; lia
 have hgsl : gs.length ≤ ps.length := by
  have : (offA gs).length = gs.length := by unfold offA; simp
  rw [hoff] at this
  lia
 have hlsl : ∀ g ∈ gs,g.2.1.length ≤ ps.length := fun g hg => by
  have hm : ((g.1,g.2.1) : Grp) ∈ offA gs := List.mem_map.mpr ⟨g,hg,rfl⟩
  rw [hoff] at hm
  have := hgl.2 _ hm
  simp only at this
  lia
 by_cases hlt : i < ps.length
 ·
  have hii : is[i]? = some (is.getD i 0) := by simp [hisl,hlt]
  have hai : ((is.map fun i => as.getD i 0).map V.ref)[i]? = some (.ref (as.getD (is.getD i 0) 0)) := by
   rw [List.getElem?_map,List.getElem?_map,hii]; rfl
  refine .inr ⟨⟨_,_,SqL.of hHl,hai⟩,fun σ2 H2 => σ2.length = 4 ∧ σ2[1]? = some (some (.ref d)) ∧ H2 l = some (.lst ((is.map fun i => as.getD i 0).map V.ref)) ∧ ∃ gs,DicOk Hs H2 d l gs ∧ offA gs = xL ((we ps).take (i + 1)),fun σ2 H2 ⟨a1,a2,a3,a4⟩ => ⟨ps.length - (i + 1),by lia,rfl,by lia,a1,a2,a3,a4⟩,fun x H2 y => ?_⟩
  obtain ⟨rfl,yy⟩ := y
  have hx := yy _ (SqL.of hHl)
  rw [hai] at hx
  cases hx
  have hin : is.getD i 0 < ps.length := List.mem_range.mp (hperm.mem_iff.mp (List.mem_of_getElem? hii))
  have ha : as[is.getD i 0]? = some (as.getD (is.getD i 0) 0) := zd5 (by rw [hP.1]; exact hin)
  have hp : ps[is.getD i 0]? = some (ps.getD (is.getD i 0) (0,0)) := zd5 hin
  have hpi : (we ps)[i]? = some (ps.getD (is.getD i 0) (0,0)) := by rw [← hord,List.getElem?_map,hii]; rfl
  generalize hpp : ps.getD (is.getD i 0) (0,0) = pp at hp hpi
  have htup : H2 (as.getD (is.getD i 0) 0) = some (.tup [.int pp.1,.int pp.2]) := J.same _ _ (I.le _ _ (hP.2 _ _ _ ha hp))
  refine ⟨_,_,rfl,SqT.of htup,rfl,_,_,rfl,_,_,rfl,rfl,?_⟩
  have z1 : ((σ'.set 2 (some (V.int pp.1))).set 3 (some (V.int pp.2)))[1]? = some (some (.ref d)) := by
   rw [List.getElem?_set_ne (by lia),List.getElem?_set_ne (by lia)]; exact hs1
  have z2 : ((σ'.set 2 (some (V.int pp.1))).set 3 (some (V.int pp.2)))[2]? = some (some (.int pp.1)) := by
   rw [List.getElem?_set_ne (by lia),List.getElem?_set]; simp [hσl]
  have z3 : ((σ'.set 2 (some (V.int pp.1))).set 3 (some (V.int pp.2)))[3]? = some (some (.int pp.2)) := by
   rw [List.getElem?_set]; simp [hσl]
  refine zeK J (by rw [hHl]; simp) hld (by lia) (fun g hg => by have := hlsl g hg; lia) z1 z2 z3 fun H' a J' hl' => ?_
  refine ⟨by simp [hσl],z1,by rw [hl']; exact hHl,_,J',?_⟩
  have hlt2 : i < (we ps).length := by lia
  have : (we ps)[i] = pp := by rw [List.getElem?_eq_getElem hlt2] at hpi; exact Option.some.inj hpi
  rw [ziY,hoff,List.take_succ_eq_append_getElem hlt2,tt,this]
 ·
  have hie : i = ps.length := by lia
  subst hie
  rw [List.take_of_length_le (by lia)] at hoff
  refine .inl ⟨⟨_,SqL.of hHl,by simp [hisl]⟩,?_⟩
  refine ⟨.ref d,hs1,.inr (.inr (.inl ⟨rfl,.inl ⟨_,J.at_⟩⟩)),d,kvA gs,rfl,rfl,J.at_,fun rv hrv => ?_⟩
  have hrd : d ≠ rv := zo J.at_ hrv
  refine ⟨rv,d,kvA gs,rfl,zC,by rw [zu hrd]; exact J.at_,fun z bs hz hbl hbn hbf => ?_⟩
  have J2 := J.laid (o := zaJ rv d) hrv
  obtain ⟨H2,hH2⟩ : ∃ H2,H2 = upd H rv (zaJ rv d) := ⟨_,rfl⟩
  rw [← hH2] at J2 hz hbf ⊢
  obtain ⟨H3,hH3⟩ : ∃ H3,H3 = upd (layT H2 bs (kvA gs)) z (.lst (bs.map V.ref)) := ⟨_,rfl⟩
  rw [← hH3]
  have old : ∀ b,H2 b ≠ none → H3 b = H2 b := fun b hb => by
   have hbz : b ≠ z := fun w => hb (w ▸ hz)
   have hbb : b ∉ bs := fun w => hb (hbf b w).1
   rw [hH3,zu hbz,wO hbb]
  have oldS : ∀ b o,Hs b = some o → H3 b = some o := fun b o e => by
   have e2 := J2.same b o e
   rw [old b (by rw [e2]; simp)]; exact e2
  let In : Addr → Prop := fun b => b ∈ gs.map (·.2.2) ∨ b ∈ bs
  have hIn : ∀ b,In b → Hs b = none := fun b hb => by
   rcases hb with hb | hb
   ·obtain ⟨g,hg,rfl⟩ := List.mem_map.mp hb
    exact (J2.lists g hg).2.1
   ·exact J2.same.free (hbf b hb).1
  classical
  let G' : Hp := fun b => if In b then H3 b else G b
  have gOld : ∀ b o,G b = some o → G' b = some o := fun b o e => by
   have hb : ¬ In b := fun h => by
    have := I.le _ _ e
    rw [hIn b h] at this
    cases this
   show (if In b then H3 b else G b) = some o
   rw [if_neg hb]; exact e
  have gIn : ∀ b,In b → G' b = H3 b := fun b hb => if_pos hb
  refine k (.ref z) G' H3 ⟨fun b o e => gOld b o (I.gr.g b o e),fun b o e => oldS b o (I.gr.h b o e),fun b h1 h2 => ?_⟩ (fun b o e => ?_) ⟨z,bs.map V.ref,rfl,?_,by rw [hH3]; exact zC,?_,?_⟩
  ·have hb : ¬ In b := fun h => by
    have := hIn b h
    cases q : H₀ b with
    | none => exact h1 q
    | some o => rw [I.gr.h b o q] at this; cases this
   show (if In b then H3 b else G b) = none
   rw [if_neg hb]; exact I.gr.n b h1 h2
  ·by_cases hb : In b
   ·rw [gIn b hb] at e; exact e
   ·have e2 : G b = some o := by
     have : (if In b then H3 b else G b) = some o := e
     rwa [if_neg hb] at this
    exact oldS b o (I.le b o e2)
  ·exact I.gr.h.free (J2.same.free hz)
  ·have hb : ¬ In z := fun h => by
    rcases h with h | h
    ·obtain ⟨g,hg,e⟩ := List.mem_map.mp h
     have := (J2.lists g hg).1
     rw [e,hz] at this
     cases this
    ·exact (hbf z h).2 rfl
   show (if In z then H3 z else G z) = none
   rw [if_neg hb]
   exact I.le.free (J2.same.free hz)
  ·rw [← hoff]
   have all : ∀ (gs' : List GA) (bs' : List Addr),bs'.length = gs'.length → (∀ (j : Nat) (b : Addr) (g : GA),bs'[j]? = some b → gs'[j]? = some g → ∃ a,G' b = some (.tup [.int g.1,.ref a]) ∧ G' a = some (.lst (g.2.1.map V.int))) → RepL K G' ((offA gs').map grpD) (bs'.map V.ref) := by
    intro gs'
    induction gs' with
    | nil => intro bs' hl _; rw [List.eq_nil_of_length_eq_zero hl]; rfl
    | cons g gs' ih =>
      intro bs' hl hj
      cases bs' with
      | nil => simp at hl
      | cons b bs' =>
        obtain ⟨a,h1,h2⟩ := hj 0 b g rfl rfl
        refine RepL.cons ⟨b,_,rfl,h1,RepL.cons rfl (RepL.cons ⟨a,_,rfl,h2,RepL.ints _⟩ RepL.nil)⟩ (ih bs' (by simpa using hl) fun j b g e1 e2 => hj (j + 1) b g (by simpa using e1) (by simpa using e2))
   refine all gs bs (by rw [hbl]; unfold kvA; simp) fun j b g e1 e2 => ⟨g.2.2,?_,?_⟩
   ·have hm : b ∈ bs := List.mem_of_getElem? e1
    have hbz : b ≠ z := (hbf b hm).2
    rw [gIn b (.inr hm),hH3,zu hbz]
    exact zcV (kv := (Sum.inl g.1,V.ref g.2.2)) hbn e1 (by unfold kvA; rw [List.getElem?_map,e2]; rfl)
   ·have hg := List.mem_of_getElem? e2
    have hL := (J2.lists g hg).1
    rw [gIn _ (.inl (List.mem_map.mpr ⟨g,hg,rfl⟩)),old _ (by rw [hL]; simp)]
    exact hL
end DL
namespace DL
open PySem PySem.Spec PyProof.Rows L2
theorem zgg {X : Cx} {G₀ H₀ : Hp} {body : List Stmt} (h : PSs X body (zjI X.K)) (hN : X.N.length = 4) : DSs X G₀ H₀ body zas := fun pins s σ H D I q => h pins s σ H D I (zeJ q (I.len.trans hN))
end DL
namespace DL
open PySem PySem.Spec PyProof.Rows L2
theorem Inv.turnedL {X : Cx} {pins : List (Addr × Obj)} {σ : St} {H : Hp} {s : Shared} {h' : Heap} {t' : Nat} {fp : List Addr} {T : Addr} {o : HO} (I : Inv X pins σ H s) (hf : ∀ b ∈ fp,FpOk X pins H b) (k : ∀ b u,b ∉ fp → s.heap.get? b = some u → h'.get? b = some u)
 (hT : s.heap.objs.size ≤ T) (new : xx X.prog X.w (upd H T o) h' T o) : Inv X pins σ (upd H T o) { s with heap := h',toks := t' } := by
 have hn := I.hok.fresh hT
 have nit : ∀ b u,H b = some u → b ∉ fp := fun b u e hb => by rw [(hf b hb).1] at e; cases e
 have neT : ∀ b u,s.heap.get? b = some u → b ≠ T := fun b u e => Nat.ne_of_lt (Nat.lt_of_lt_of_le (Heap.lt_size e) hT)
 refine I.step (g' := s.gens) (d' := s.drawn) (ch := fp) (fun b hb => let ⟨_,a1,_,a3,a4,a5⟩ := hf b hb; ⟨a3,a1,a4,a5⟩) (fun b u _ _ hc e _ => k b u hc e) (fun b u _ _ hc e _ => ⟨u.slots,k b u hc e⟩) (fun b u _ e n => by rw [zu (neT b u e)]; exact n)
  (fun b u hc e => ⟨u,k b u hc e⟩) (fun b xs e => by rw [zu (zo e hn)]; exact e) (fun b u x e => by rw [zu (zo e hn)]; exact e) (fun b ps e => ⟨#[],by rw [zu (zo e hn),e]; simp⟩) (fun m hm => ?_) (fun b u e => ?_) I.bare
 ·obtain ⟨ob,es,ep,ho,r⟩ := hm
  exact ⟨ob,es,ep,k _ ob (fun hb => (hf _ hb).2.1 rfl) ho,r⟩
 ·by_cases hb : b = T
  ·subst hb; rw [zC] at e; cases e; exact new
  ·rw [zu hb] at e
   refine (I.hok b u e).stay (fun c v hc q => k c v ?_ q) (fun c q => by rw [zu (zo q hn)]; exact q) fun c xs q => by rw [zu (zo q hn)]; exact q
   rcases hc with z | z
   ·rw [z]; exact nit b u e
   ·exact nit c _ z
theorem Inv.turnedF {X : Cx} {pins : List (Addr × Obj)} {σ : St} {H : Hp} {s : Shared} {h' : Heap} {t' : Nat} {fp : List Addr} (I : Inv X pins σ H s) (hf : ∀ b ∈ fp,FpOk X pins H b) (k : ∀ b u,b ∉ fp → s.heap.get? b = some u → h'.get? b = some u) : Inv X pins σ H { s with heap := h',toks := t' } := by
 have nit : ∀ b u,H b = some u → b ∉ fp := fun b u e hb => by rw [(hf b hb).1] at e; cases e
 refine I.step (g' := s.gens) (d' := s.drawn) (ch := fp) (fun b hb => let ⟨_,a1,_,a3,a4,a5⟩ := hf b hb; ⟨a3,a1,a4,a5⟩) (fun b u _ _ hc e _ => k b u hc e) (fun b u _ _ hc e _ => ⟨u.slots,k b u hc e⟩) (fun b u _ e n => n)
  (fun b u hc e => ⟨u,k b u hc e⟩) (fun b xs e => e) (fun b u x e => e) (fun b ps e => ⟨#[],by rw [e]; simp⟩) (fun m hm => ?_) (fun b u e => ?_) I.bare
 ·obtain ⟨ob,es,ep,ho,r⟩ := hm
  exact ⟨ob,es,ep,k _ ob (fun hb => (hf _ hb).2.1 rfl) ho,r⟩
 ·refine (I.hok b u e).stay (fun c v hc q => k c v ?_ q) (fun c q => q) fun c xs q => q
  rcases hc with z | z
  ·rw [z]; exact nit b u e
  ·exact nit c _ z
noncomputable def Ite (K : PySem.W.Frag) (l : Addr) : It :=
 ⟨fun i H => ∃ xs x,SqL K H l xs ∧ xs[i]? = some x,fun i H x H' => ∃ T y,x = .ref T ∧ H T = none ∧ H' = upd H T (.tup [.int i,y]) ∧ ∀ xs,SqL K H l xs → xs[i]? = some y,fun i H => ∃ xs,SqL K H l xs ∧ xs.length ≤ i⟩
theorem zfd {P : Program} {w : World} {K : PySem.W.Frag} {elts : List Expr} {kk : Nat} {pos : Pos} (l it e : Addr) (hei : e ≠ it) : Turn P w K (.Tuple elts kk pos) (Ite K l) [e,it] e (fun i h => (∃ old,IsEnum h e it i old) ∧ h.IsListIter it l i) where
 mem := by simp
 obj := fun i h st b hb => by
  obtain ⟨⟨old,h1⟩,o,h2,c,d⟩ := st
  rcases List.mem_cons.mp hb with rfl | hb
  ·exact ⟨_,h1,fun v z => by
    have z' : Data.fields _ = Data.cell v := z
    cases z'⟩
  ·have : b = it := by simpa using hb
   subst this
   exact ⟨o,h2,fun v z => by rw [d] at z; cases z⟩
 keep := fun i h h' st k => by
  obtain ⟨⟨old,h1⟩,h2⟩ := st
  exact ⟨⟨old,k e (by simp) _ h1⟩,h2.at fun o x => k it (by simp) o x⟩
 item := by
  intro X hP hw hK hc i pins s σ H E I hf st hg
  subst hP hw hK
  obtain ⟨xs,x,hq,hx⟩ := hg
  obtain ⟨its,rv,p,hz⟩ := I.list hq
  obtain ⟨u,hu,ru⟩ := rv.get hx
  obtain ⟨⟨old,h1⟩,h2⟩ := st
  have hle : l ≠ e := fun z => by
   obtain ⟨o,ho,hcl,_⟩ := p.isList
   rw [z,h1] at ho
   cases ho
   exact absurd (show Value.type "enumerate" = Value.type "list" from hcl) (by decide)
  have hli : l ≠ it := fun z => by
   obtain ⟨o,ho,hcl,_⟩ := p.isList
   obtain ⟨o2,ho2,hcl2,_⟩ := h2
   rw [z,ho2] at ho
   cases ho
   rw [hcl2] at hcl
   exact absurd hcl (by decide)
  have hil : i < its.toArray.size := by
   have := (List.getElem?_eq_some_iff.mp hu).1
   simpa using this
  have W := WalksT.enumerate (prog := X.prog) (w := X.w) (I.ok.hd hc) e it l hei hle hli its.toArray
  refine W.item i s _ _ hil ⟨⟨old,h1⟩,h2,p.isList⟩ fun T vals h' tk hPt hT ht mid k1 => ?_
  obtain ⟨t,u2,hu2,rfl⟩ := hPt
  have eu : u2 = u := by
   rw [show its.toArray[i]? = its[i]? from by simp] at hu2
   rw [hu] at hu2
   exact (Option.some.inj hu2).symm
  subst eu
  refine ⟨.ref T,rfl,W.go elts kk pos i T { s with heap := h',toks := tk } _ _ mid fun h3 st3 k3 => ?_⟩
  have hTw : T ∉ [e,it] := W.apart i T h' mid
  have hkeep : ∀ b o,b ∉ [e,it] → s.heap.get? b = some o → h3.get? b = some o := fun b o hb eb => k3 b o hb (k1 b o hb eb)
  obtain ⟨ot,hot,hct,nt,hdt⟩ := ht
  have hnew : xx X.prog X.w (upd H T (.tup [.int i,x])) h3 T (.tup [.int i,x]) := ⟨by show 2 ≤ sizeLine; rw [sizeLine_eq]; lia,[.int i t,u2],.cons ⟨t,rfl⟩ (.cons ru .nil),ot,k3 T ot hTw hot,hct,nt,hdt⟩
  have hHT : H T = none := I.hok.fresh hT
  refine ⟨.ref T,_,Inv.turnedL (s := s) (h' := h3) (t' := tk) I hf hkeep hT hnew,rfl,⟨T,x,rfl,hHT,rfl,fun ys hy => by rw [I.list_inj hy hq]; exact hx⟩,⟨⟨_,st3.1.choose_spec⟩,st3.2.1⟩,fun b hb => ?_⟩
  have hbT : b ≠ T := fun z => by rw [z] at hb; exact hTw hb
  rw [zu hbT]
  exact (hf b hb).1
 done := by
  intro X hP hw hK hc i pins s σ H E I hf st hg
  subst hP hw hK
  obtain ⟨xs,hq,hx⟩ := hg
  obtain ⟨its,rv,p,hz⟩ := I.list hq
  obtain ⟨⟨old,h1⟩,h2⟩ := st
  have hl := rv.length
  refine wpAny_pyNext_enum_end (I.ok.hd hc) h1 h2 p.isList (Array.getElem?_eq_none (by simp; lia)) fun h' eb => ⟨rfl,Inv.turnedF (t' := s.toks) I hf fun b o hb e => ?_⟩
  exact eb b o (fun z => hb (by simp [z])) e
 self := fun _ _ _ _ _ st h => wpAny_pyIter_enum st.1.choose_spec h
noncomputable def iEnum (K : PySem.W.Frag) (ta : TA) : TI := fun σ H R => ta σ H fun vs H1 => ∃ a,vs = [.ref a] ∧ (∃ xs,SqL K H1 a xs) ∧ R (Ite K a) H1
theorem ziR {X : Cx} {elts : List Expr} {kk : Nat} {pos p cpos : Pos} {l : Expr} {ta : TA} (hm : X.mg "enumerate" = none) (ha : PA X [l] ta) (hg : Gl X "enumerate" := by rfl) (hs : starEach [l] X.env = [(false,eval l X.env)] := by rfl) : PI X (.Tuple elts kk pos) (.Call (.Name "enumerate" p) [l] [] cpos) (iEnum X.K ta) := by
 intro pins s σ H R I h
 refine Call_ (wb I hg hm boot_enumerate (PyProof.Rows.callWith_type1 (thn (ha cpos pins s σ H _ I h) fun us s1 ⟨vs,H1,I1,r1,q1⟩ => ?_) hs rfl))
 obtain ⟨a,rfl,⟨xs,hq⟩,q⟩ := q1
 obtain ⟨u,rfl,r2⟩ := wk r1
 cases (show u = .ref a from r2)
 obtain ⟨its,rv,pl,hz⟩ := I1.list hq
 refine call_enumerate_list pl.isList fun h' h1 h2 hsz hk => ?_
 refine wpAny_pyIter_enum h1 ?_
 have I2 : Inv X pins σ H1 { s1 with heap := h',toks := s1.toks } := I1.kept (t' := s1.toks) hk
 refine ⟨s1.heap.objs.size + 1,[s1.heap.objs.size + 1,s1.heap.objs.size],_,Ite X.K a,H1,rfl,I2,zfd a s1.heap.objs.size (s1.heap.objs.size + 1) (Nat.succ_ne_self _),⟨⟨_,h1⟩,h2⟩,fun b hb => ?_,q⟩
 have hb' : s1.heap.objs.size ≤ b := by
  rcases List.mem_cons.mp hb with rfl | hb
  ·exact Nat.le_succ _
  ·rw [List.mem_singleton.mp hb]; exact Nat.le_refl _
 exact I1.fpOk hb' (I1.hok.fresh hb')
noncomputable def vV : Nat → List D → List D
 | _,[] => []
 | i,d :: ds => .tup [.int i,d] :: vV (i + 1) ds
theorem zb6 : ∀ (ds : List D) (k i : Nat),(vV k ds)[i]? = ds[i]?.map fun d => .tup [.int ((k + i : Nat) : Int),d]
 | [],k,i => by simp [vV]
 | d :: ds,k,0 => by simp [vV]
 | d :: ds,k,i + 1 => by
   have := zb6 ds (k + 1) i
   simp only [vV,List.getElem?_cons_succ,this]
   congr 1
   funext d
   rw [show k + 1 + i = k + (i + 1) by lia]
theorem tJ : ∀ (ds : List D) (k : Nat),(vV k ds).length = ds.length
 | [],k => rfl
 | d :: ds,k => by simp [vV,tJ ds (k + 1)]
theorem zhC {K : PySem.W.Frag} {G : Hp} {a : Addr} {ds : List D} {vs : List V} (h : SqL K G a vs) (r : RepL K G ds vs) : JOk K (Ite K a) G (vV 0 ds) where
 go := fun i G' H' s l hi => by
  rw [tJ] at hi
  exact ⟨vs,vs[i]'(by rw [← r.length]; exact hi),l.seq (s.seq h),List.getElem?_eq_getElem _⟩
 stop := fun i G' H' s l hi => by
  rw [tJ] at hi
  exact ⟨vs,l.seq (s.seq h),by rw [← r.length]; exact hi⟩
 yld := fun i G' H' x H1 s l hi y => by
  obtain ⟨T,y,rfl,hT,rfl,hy⟩ := y
  have hx := hy vs (l.seq (s.seq h))
  obtain ⟨d,h1,h2⟩ := r.get' hx
  have g := Grow.laidT (o := .tup [.int i,y]) l hT
  refine ⟨.tup [.int i,d],_,by rw [zb6,h1]; simp,g.1,g.2,T,_,rfl,zC,RepL.cons rfl (RepL.cons ?_ RepL.nil)⟩
  exact (h2.mono s).mono g.1.g
@[simp] noncomputable def fEnm (f : FE) : FI := fun env => (f env).bind fun x => x.hold.bind fun d => match d with
  | .lst ds => .ok (vV 0 ds)
  | _ => .bad
theorem zgi {X : Cx} {G₀ H₀ : Hp} {elts : List Expr} {kk : Nat} {pos p cpos : Pos} {l : Expr} {f : FE} (hm : X.mg "enumerate" = none) (hl : DE X G₀ H₀ l f) (hg : Gl X "enumerate" := by rfl) (hs : starEach [l] X.env = [(false,eval l X.env)] := by rfl) :
 DIt X G₀ H₀ (.Tuple elts kk pos) (.Call (.Name "enumerate" p) [l] [] cpos) (fEnm f) := (ziR hm (zU hl yF hs) hg hs).imp fun σ H R q => by
 obtain ⟨env,G,ds,I,e,k⟩ := q
 obtain ⟨x,e1,e⟩ := zk e
 obtain ⟨d,e2,e⟩ := zk e
 refine ⟨env,G,x,I,e1,fun v G' H' g l h => ?_⟩
 obtain ⟨G2,g2,l2,h2⟩ := held g l h e2
 split at e
 ·cases e
  obtain ⟨a,vs,rfl,h3,r3⟩ := h2
  exact ⟨a,rfl,⟨vs,SqL.of (l2 _ _ h3)⟩,k _ G2 H' g2 l2 (zhC (SqL.of h3) r3)⟩
 ·cases e
end DL
namespace DL
open PySem PySem.Spec PyProof.Rows L2
noncomputable abbrev ZOut (h : Heap) (z ti to t : Addr) (f : Bool) : Prop :=
 h.get? z = some { cls := .type "zip",dict := none,data := .fields #[rawInt t,.bool f,.bool false,.ref ti,.ref to],slots := #[] }
section
variable {prog : Program} {w : World} {A : Around} {E : Value → Shared → Prop} {s : Shared}
theorem zbq {z ti to t : Addr} {f : Bool} {ot : Obj} {Q : Bool → Shared → Prop} (hz : ZOut s.heap z ti to t f) (ht : s.heap.get? t = some ot)
 (q : ∀ h',ZOut h' z ti to t true → Heap.SameBut z s.heap h' → Q false { s with heap := h' }) : wpAny (model prog w) A (Builtin.SmallTypes.ownedTupleIsFree (.ref z)) Q E s := by
 unfold Builtin.SmallTypes.ownedTupleIsFree
 refine wpAny_bind (wpAny_field hz rfl (x := rawInt t) rfl ?_)
 show wpAny _ _ (loadIfAlive ((t : Int).toNat) >>= _) _ _ _
 rw [Int.toNat_natCast]
 refine wpAny_bind (PySem.W.kdx_alive ht ?_)
 simp only [Option.isNone_some,Bool.false_eq_true,if_false]
 refine wpAny_bind (wpAny_field hz rfl (x := .bool f) rfl ?_)
 cases f with
 | true =>
   rw [if_neg (show ¬ ((Value.bool true != Value.bool true) = true) from Bool.false_ne_true)]
   exact wpAny_pure (q s.heap hz (Heap.SameBut.refl _ _))
 | false =>
   rw [if_pos (show (Value.bool false != Value.bool true) = true from rfl)]
   refine wpAny_bind (wpAny_setField_rec hz (by simp) fun h3 e3 s3 => ?_)
   exact wpAny_pure (q h3 e3 s3)
theorem ze6 {z ti to i1 i2 l1 l2 t : Addr} {f : Bool} {ot : Obj} {k1 k2 : Nat} {xs ys : Array Value} {x y : Value} {Q : Option Value → Shared → Prop} (D : ZipApart z ti to i1 i2 l1 l2)
 (hz : ZOut s.heap z ti to t f) (ht : s.heap.get? t = some ot) (hTI : IsPair s.heap ti (.ref i1) (.ref i2))
 (h1 : s.heap.IsListIter i1 l1 k1) (h2 : s.heap.IsListIter i2 l2 k2) (hl1 : s.heap.IsList l1 xs) (hl2 : s.heap.IsList l2 ys) (hx : xs[k1]? = some x) (hy : ys[k2]? = some y)
 (q : ∀ h',ZOut h' z ti to t true → h'.IsListIter i1 l1 (k1 + 1) → h'.IsListIter i2 l2 (k2 + 1) → IsPair h' s.heap.objs.size x y → h'.objs.size = s.heap.objs.size + 1 →
  (∀ c o,c ≠ z → c ≠ i1 → c ≠ i2 → s.heap.get? c = some o → h'.get? c = some o) → Q (some (.ref s.heap.objs.size)) { s with heap := h' }) :
 wpAny (model prog w) A (pyNext (.ref z)) Q E s := by
 have hT : s.TypeIs (.ref z) "zip" := ⟨_,hz,rfl⟩
 unfold pyNext
 refine wpAny_bind (wpAny_attempt (wpAny_callSpecial?_slot (name := Str.ofString "__next__") hT PySem.F.slot_zip_next (wpAny_call_entry PySem.F.slot_zip_next hT PySem.F.entry_zip_next ?_ (PySem.F.args_zip_next_1 _))))
 show wpAny _ _ (field (.ref z) 2 >>= _) _ _ _
 refine wpAny_bind (wpAny_field hz rfl (x := .bool false) rfl ?_)
 show wpAny _ _ (field (.ref z) 3 >>= _) _ _ _
 refine wpAny_bind (wpAny_field hz rfl (x := .ref ti) rfl ?_)
 refine wpAny_bind (wpAny_seqItems hTI rfl ?_)
 show wpAny _ _ (Builtin.SmallTypes.ownedTupleIsFree (.ref z) >>= _) _ _ _
 refine wpAny_bind (zbq hz ht fun ha za sa => ?_)
 simp only [Bool.false_eq_true,if_false]
 show wpAny _ _ (forIn #[Value.ref i1,Value.ref i2] _ _ >>= _) _ _ _
 simp only [← Array.forIn_toList,List.forIn_cons,List.forIn_nil]
 refine wpAny_bind ?_
 refine wpAny_bind ?_
 refine wpAny_bind (wpAny_holding ?_)
 show wpAny _ _ (Builtin.SmallTypes.nextOf (.ref i1) >>= _) _ _ _
 refine wpAny_bind (wpAny_nextOf_list_item (h1.extBut sa.extBut D.i1z) (hl1.extBut sa.extBut D.l1z) hx fun hb ib sb => wpAny_pure ?_)
 refine wpAny_pure ?_
 show wpAny _ _ ((holding (#[x] : Array Value).toList (_ : Sem (Option Value)) >>= _) >>= _) _ _ _
 refine wpAny_bind ?_
 refine wpAny_bind (wpAny_holding ?_)
 show wpAny _ _ (Builtin.SmallTypes.nextOf (.ref i2) >>= _) _ _ _
 have sb' : Heap.SameBut i1 ha hb := sb
 refine wpAny_bind (wpAny_nextOf_list_item ((h2.extBut sa.extBut D.i2z).extBut sb'.extBut D.i12.symm) ((hl2.extBut sa.extBut D.l2z).extBut sb'.extBut D.l2i1) hy fun hc ic sc => wpAny_pure ?_)
 have sc' : Heap.SameBut i2 hb hc := sc
 refine wpAny_pure (wpAny_pure ?_)
 show wpAny _ _ (newTuple [x,y] >>= _) _ _ _
 refine wpAny_bind (wpAny_newTuple ?_)
 have hsz : hc.objs.size = s.heap.objs.size := by rw [sc'.1,sb'.1,sa.1]
 refine wpAny_pure ⟨_,rfl,wpAny_pure ?_⟩
 show Q (some (.ref hc.objs.size)) _
 rw [hsz]
 have hz3 : ZOut hc z ti to t true := sc'.extBut _ _ D.i2z.symm (sb'.extBut _ _ D.i1z.symm za)
 have g1 : hc.IsListIter i1 l1 (k1 + 1) := ib.extBut sc'.extBut D.i12
 refine q _ (Heap.get?_push_of_some _ hz3) (g1.at fun o e => Heap.get?_push_of_some _ e) (ic.at fun o e => Heap.get?_push_of_some _ e) (by rw [← hsz]; exact Heap.get?_push_size _ rfl) (by rw [← hsz]; exact Heap.size_push ..) fun c o c1 c2 c3 e => ?_
 exact Heap.get?_push_of_some _ (sc'.extBut _ _ c3 (sb'.extBut _ _ c2 (sa.extBut _ _ c1 e)))
theorem zgY {z ti to i1 i2 l1 l2 t : Addr} {f : Bool} {ot : Obj} {k1 k2 : Nat} {xs ys : Array Value} {Q : Option Value → Shared → Prop} (hh : A.handled = none) (D : ZipApart z ti to i1 i2 l1 l2)
 (hz : ZOut s.heap z ti to t f) (ht : s.heap.get? t = some ot) (hTI : IsPair s.heap ti (.ref i1) (.ref i2))
 (h1 : s.heap.IsListIter i1 l1 k1) (h2 : s.heap.IsListIter i2 l2 k2) (hl1 : s.heap.IsList l1 xs) (hl2 : s.heap.IsList l2 ys) (he : xs[k1]? = none ∨ ys[k2]? = none)
 (q : ∀ h',(∀ c o,c ≠ z → c ≠ i1 → c ≠ i2 → s.heap.get? c = some o → h'.get? c = some o) → Q none { s with heap := h' }) :
 wpAny (model prog w) A (pyNext (.ref z)) Q E s := by
 have hT : s.TypeIs (.ref z) "zip" := ⟨_,hz,rfl⟩
 unfold pyNext
 refine wpAny_bind (wpAny_attempt (wpAny_callSpecial?_slot (name := Str.ofString "__next__") hT PySem.F.slot_zip_next (wpAny_call_entry PySem.F.slot_zip_next hT PySem.F.entry_zip_next ?_ (PySem.F.args_zip_next_1 _))))
 show wpAny _ _ (field (.ref z) 2 >>= _) _ _ _
 refine wpAny_bind (wpAny_field hz rfl (x := .bool false) rfl ?_)
 show wpAny _ _ (field (.ref z) 3 >>= _) _ _ _
 refine wpAny_bind (wpAny_field hz rfl (x := .ref ti) rfl ?_)
 refine wpAny_bind (wpAny_seqItems hTI rfl ?_)
 show wpAny _ _ (Builtin.SmallTypes.ownedTupleIsFree (.ref z) >>= _) _ _ _
 refine wpAny_bind (zbq hz ht fun ha za sa => ?_)
 simp only [Bool.false_eq_true,if_false]
 show wpAny _ _ (forIn #[Value.ref i1,Value.ref i2] _ _ >>= _) _ _ _
 simp only [← Array.forIn_toList,List.forIn_cons,List.forIn_nil]
 refine wpAny_bind ?_
 refine wpAny_bind ?_
 refine wpAny_bind (wpAny_holding ?_)
 show wpAny _ _ (Builtin.SmallTypes.nextOf (.ref i1) >>= _) _ _ _
 cases hx : xs[k1]? with
 | none =>
   refine wpAny_bind (wpAny_nextOf_list_end hh (h1.extBut sa.extBut D.i1z) (hl1.extBut sa.extBut D.l1z) hx fun hb e sb ⟨oe,hoe,hce⟩ => ?_)
   refine wpAny_bind (wpAny_isInstance (T := "StopIteration") (b := true) ⟨oe,hoe,hce⟩ isSubtype_stop ?_)
   exact wpAny_pure (q _ fun c o c1 c2 c3 x => sb _ _ c2 (sa.extBut _ _ c1 x))
 | some x =>
   have hy : ys[k2]? = none := by rcases he with h | h; rw [hx] at h; cases h; exact h
   refine wpAny_bind (wpAny_nextOf_list_item (h1.extBut sa.extBut D.i1z) (hl1.extBut sa.extBut D.l1z) hx fun hb ib sb => wpAny_pure ?_)
   refine wpAny_pure ?_
   show wpAny _ _ ((holding (#[x] : Array Value).toList (_ : Sem (Option Value)) >>= _) >>= _) _ _ _
   refine wpAny_bind ?_
   refine wpAny_bind (wpAny_holding ?_)
   show wpAny _ _ (Builtin.SmallTypes.nextOf (.ref i2) >>= _) _ _ _
   have sb' : Heap.SameBut i1 ha hb := sb
   refine wpAny_bind (wpAny_nextOf_list_end hh ((h2.extBut sa.extBut D.i2z).extBut sb'.extBut D.i12.symm) ((hl2.extBut sa.extBut D.l2z).extBut sb'.extBut D.l2i1) hy fun hc e sc ⟨oe,hoe,hce⟩ => ?_)
   refine wpAny_bind (wpAny_isInstance (T := "StopIteration") (b := true) ⟨oe,hoe,hce⟩ isSubtype_stop ?_)
   exact wpAny_pure (q _ fun c o c1 c2 c3 x => sc _ _ c3 (sb'.extBut _ _ c2 (sa.extBut _ _ c1 x)))
structure ZSt (h : Heap) (z ti to i1 i2 l1 l2 S : Addr) (i : Nat) (xs ys : Array Value) : Prop where
 own : (IsZip h z ti to .none ∧ ∃ a b,IsPair h to a b) ∨ ∃ t f ot,ZOut h z ti to t f ∧ h.get? t = some ot ∧ t ≠ z ∧ t ≠ i1 ∧ t ≠ i2 ∧ t ≠ S
 its : IsPair h ti (.ref i1) (.ref i2)
 p1 : h.IsListIter i1 l1 i
 p2 : h.IsListIter i2 l2 i
 s1 : h.IsList l1 xs
 s2 : h.IsList l2 ys
theorem ZSt.keep {h h' : Heap} {z ti to i1 i2 l1 l2 S : Addr} {i : Nat} {xs ys : Array Value} (x : ZSt h z ti to i1 i2 l1 l2 S i xs ys) (k : ∀ b o,b ≠ S → h.get? b = some o → h'.get? b = some o)
 (off : ∀ b ∈ [z,ti,to,i1,i2,l1,l2],b ≠ S) : ZSt h' z ti to i1 i2 l1 l2 S i xs ys where
 own := by
  rcases x.own with ⟨a,b,c,d⟩ | ⟨t,f,ot,a,b,c1,c2,c3,c4⟩
  ·exact .inl ⟨k _ _ (off z (by simp)) a,b,c,k _ _ (off to (by simp)) d⟩
  ·exact .inr ⟨t,f,ot,k _ _ (off z (by simp)) a,k _ _ c4 b,c1,c2,c3,c4⟩
 its := k _ _ (off ti (by simp)) x.its
 p1 := x.p1.at fun o e => k _ _ (off i1 (by simp)) e
 p2 := x.p2.at fun o e => k _ _ (off i2 (by simp)) e
 s1 := x.s1.at fun o e => k _ _ (off l1 (by simp)) e
 s2 := x.s2.at fun o e => k _ _ (off l2 (by simp)) e
theorem zgR {z ti to i1 i2 l1 l2 S : Addr} {i : Nat} {xs ys : Array Value} {x y : Value} {Q : Option Value → Shared → Prop} (D : ZipApart z ti to i1 i2 l1 l2) (st : ZSt s.heap z ti to i1 i2 l1 l2 S i xs ys) (hS : S < s.heap.objs.size) (hx : xs[i]? = some x) (hy : ys[i]? = some y)
 (q : ∀ h',ZSt h' z ti to i1 i2 l1 l2 S (i + 1) xs ys → IsPair h' s.heap.objs.size x y → h'.objs.size = s.heap.objs.size + 1 → (∀ c o,c ≠ z → c ≠ to → c ≠ i1 → c ≠ i2 → s.heap.get? c = some o → h'.get? c = some o) → Q (some (.ref s.heap.objs.size)) { s with heap := h' }) :
 wpAny (model prog w) A (pyNext (.ref z)) Q E s := by
 have lt : ∀ {c o},s.heap.get? c = some o → s.heap.objs.size ≠ c := fun e => Nat.ne_of_gt (Heap.lt_size e)
 have n1 : s.heap.objs.size ≠ i1 := by obtain ⟨_,e,_⟩ := st.p1; exact lt e
 have n2 : s.heap.objs.size ≠ i2 := by obtain ⟨_,e,_⟩ := st.p2; exact lt e
 rcases st.own with ⟨hz,a,b,hO⟩ | ⟨t,f,ot,hz,ht,c1,c2,c3,c4⟩
 ·refine wpAny_pyNext_zip_item D hz st.its hO st.p1 st.p2 st.s1 st.s2 hx hy fun h' z1 z2 z3 z4 z5 z6 z7 => q h' ⟨.inr ⟨_,false,_,z1,z5,lt hz,n1,n2,Nat.ne_of_gt hS⟩,z7 _ _ D.TIz D.TITO D.TIi1 D.TIi2 st.its,z3,z4,?_,?_⟩ z5 z6 z7
  ·exact st.s1.at fun o e => z7 _ o D.l1z D.l1TO D.l1i1 D.l1i2 e
  ·exact st.s2.at fun o e => z7 _ o D.l2z D.l2TO D.l2i1 D.l2i2 e
 ·refine ze6 D hz ht st.its st.p1 st.p2 st.s1 st.s2 hx hy fun h' z1 z3 z4 z5 z6 z7 => q h' ⟨.inr ⟨t,true,ot,z1,z7 _ _ c1 c2 c3 ht,c1,c2,c3,c4⟩,z7 _ _ D.TIz D.TIi1 D.TIi2 st.its,z3,z4,?_,?_⟩ z5 z6 fun c o d1 _ d3 d4 e => z7 c o d1 d3 d4 e
  ·exact st.s1.at fun o e => z7 _ o D.l1z D.l1i1 D.l1i2 e
  ·exact st.s2.at fun o e => z7 _ o D.l2z D.l2i1 D.l2i2 e
theorem zgS {z ti to i1 i2 l1 l2 S : Addr} {i : Nat} {xs ys : Array Value} {Q : Option Value → Shared → Prop} (hh : A.handled = none) (D : ZipApart z ti to i1 i2 l1 l2) (st : ZSt s.heap z ti to i1 i2 l1 l2 S i xs ys) (he : xs[i]? = none ∨ ys[i]? = none)
 (q : ∀ h',(∀ c o,c ≠ z → c ≠ to → c ≠ i1 → c ≠ i2 → s.heap.get? c = some o → h'.get? c = some o) → Q none { s with heap := h' }) : wpAny (model prog w) A (pyNext (.ref z)) Q E s := by
 rcases st.own with ⟨hz,a,b,hO⟩ | ⟨t,f,ot,hz,ht,c1,c2,c3,c4⟩
 ·exact wpAny_pyNext_zip_end hh D hz st.its hO st.p1 st.p2 st.s1 st.s2 he q
 ·exact zgY hh D hz ht st.its st.p1 st.p2 st.s1 st.s2 he fun h' k => q h' fun c o d1 _ d3 d4 e => k c o d1 d3 d4 e
end
end DL
namespace DL
open PySem PySem.Spec PyProof.Rows L2
structure ZG (xs ys : Array Value) (lo : Addr) (h : Heap) (as : List Addr) : Prop where
 rise : as.Pairwise (· < ·)
 above : ∀ a ∈ as,lo < a
 pairs : ∀ (j : Nat) (a : Addr),as[j]? = some a → ∃ x y,xs[j]? = some x ∧ ys[j]? = some y ∧ IsPair h a x y
theorem ZG.there {xs ys : Array Value} {lo : Addr} {h : Heap} {as : List Addr} (g : ZG xs ys lo h as) {a : Addr} (ha : a ∈ as) : a < h.objs.size := by
 obtain ⟨j,hj⟩ := List.mem_iff_getElem?.mp ha
 obtain ⟨_,_,_,_,e⟩ := g.pairs j a hj
 exact Heap.lt_size e
theorem ze9 : typeLookup (.type "zip") "__len__" = pure none := by rw [typeLookup_type,builtinLookup_eq_fast]; kernel_rfl
theorem ze8 : typeLookup (.type "zip") "__length_hint__" = pure none := by rw [typeLookup_type,builtinLookup_eq_fast]; kernel_rfl
section
variable {prog : Program} {w : World} {A : Around} {s : Shared} {R : Result → Shared → Prop} {xs ys : Array Value}
theorem zgU {z ti to i1 i2 l1 l2 S : Addr} (hh : A.handled = none) (D : ZipApart z ti to i1 i2 l1 l2) (off : ∀ b ∈ [z,ti,to,i1,i2,l1,l2],b ≠ S) (low : ∀ b ∈ [z,to,i1,i2],b < S) (hn : min xs.size ys.size ≤ sizeLine) (res : Value) {h₁ : Heap}
 (hR : ∀ h' tk acc c as,(∀ b o,b ≠ S → b ∉ [z,to,i1,i2] → h₁.get? b = some o → h'.get? b = some o) → h'.get? S = some { cls := .type "list",dict := none,data := .seq acc c,slots := #[] } → as.length = min xs.size ys.size → ZG xs ys S h' as →
  acc.toList = as.map Value.ref → R (.ok (.ret res)) { s with heap := h',toks := tk }) :
 ∀ (k i : Nat) (h : Heap) (tk c : Nat) (acc : Array Value) (as : List Addr),min xs.size ys.size - i = k → i ≤ min xs.size ys.size → ZSt h z ti to i1 i2 l1 l2 S i xs ys → (∀ b o,b ≠ S → b ∉ [z,to,i1,i2] → h₁.get? b = some o → h.get? b = some o) →
   h.get? S = some { cls := .type "list",dict := none,data := .seq acc c,slots := #[] } → acc.toList = as.map Value.ref → as.length = i → ZG xs ys S h as →
   codeAny (model prog w) A (.builtin "list.extend.loop" ⟨[.ref S,.ref z,res],[]⟩) R { s with heap := h,toks := tk } := by
 have hSw : ∀ b ∈ [z,to,i1,i2],S ≠ b := fun b hb => Nat.ne_of_gt (low b hb)
 have hSn : S ∉ [z,to,i1,i2] := fun hb => hSw S hb rfl
 intro k
 induction k with
 | zero =>
   intro i h tk c acc as hk hi st keep hS hacc hal hG
   have hin : i = min xs.size ys.size := by lia
   refine codeAny_builtin PySem.F.entry_extend_loop ?_
   rw [Around.under_plainId PySem.F.plain_extend_loop _]
   show wpAny _ A.in1 (pyNext (.ref z) >>= _) _ _ _
   have hend : xs[i]? = none ∨ ys[i]? = none := by
    rcases Nat.le_total xs.size ys.size with g | g
    ·exact .inl (Array.getElem?_eq_none (by lia))
    ·exact .inr (Array.getElem?_eq_none (by lia))
   refine wpAny_bind (zgS (s := { s with heap := h,toks := tk }) (A := A.in1) hh D st hend fun h' he => ?_)
   have he' : ∀ b o,b ∉ [z,to,i1,i2] → h.get? b = some o → h'.get? b = some o := fun b o hb e => he b o (fun q => hb (by simp [q])) (fun q => hb (by simp [q])) (fun q => hb (by simp [q])) (fun q => hb (by simp [q])) e
   refine wpAny_pure (hR h' tk acc c as (fun b o a1 a2 e => he' b o a2 (keep b o a1 a2 e)) (he' S _ hSn hS) (by lia) ⟨hG.rise,hG.above,fun j a hj => ?_⟩ hacc)
   obtain ⟨x,y,e1,e2,e3⟩ := hG.pairs j a hj
   have hab := hG.above a (List.mem_of_getElem? hj)
   exact ⟨x,y,e1,e2,he' a _ (fun hm => absurd (low a hm) (Nat.not_lt.mpr (Nat.le_of_lt hab))) e3⟩
 | succ k ih =>
   intro i h tk c acc as hk hi st keep hS hacc hal hG
   have hlt : i < min xs.size ys.size := by lia
   have hx : xs[i]? = some (xs[i]'(by lia)) := Array.getElem?_eq_getElem _
   have hy : ys[i]? = some (ys[i]'(by lia)) := Array.getElem?_eq_getElem _
   have hsz : acc.size = i := by rw [← Array.length_toList,hacc,List.length_map,hal]
   refine codeAny_builtin PySem.F.entry_extend_loop ?_
   rw [Around.under_plainId PySem.F.plain_extend_loop _]
   show wpAny _ A.in1 (pyNext (.ref z) >>= _) _ _ _
   refine wpAny_bind (zgR (s := { s with heap := h,toks := tk }) (S := S) D st (Heap.lt_size hS) hx hy fun h' st' ht hz hkp => ?_)
   dsimp only at ht hz hkp ⊢
   have kp : ∀ b o,b ∉ [z,to,i1,i2] → h.get? b = some o → h'.get? b = some o := fun b o hb e => hkp b o (fun q => hb (by simp [q])) (fun q => hb (by simp [q])) (fun q => hb (by simp [q])) (fun q => hb (by simp [q])) e
   have hS' := kp S _ hSn hS
   have up : ∀ b o,b ≠ S → h'.get? b = some o → (h'.update S (Obj.mapSeq (·.push (Value.ref h.objs.size)))).get? b = some o := fun b o hb e => (Heap.get?_update_other _ _ (Ne.symm hb)).trans e
   have hSl : S < h.objs.size := Heap.lt_size hS
   show wpAny _ A.in1 (updateSeq S (·.push (Value.ref h.objs.size)) >>= _) _ _ _
   refine wpAny_bind ?_
   refine wpAny_updateSeq hS' rfl (wpAny_pure ⟨plainId_quiet PySem.F.plain_extend_loop _,ih (i + 1) _ tk _ (acc.push (Value.ref h.objs.size)) (as ++ [h.objs.size]) (by lia) hlt (st'.keep up off)
    (fun b o a1 a2 e => up b o a1 (kp b o a2 (keep b o a1 a2 e))) (Heap.get?_update_self _ hS' rfl) (by rw [Array.toList_push,hacc,List.map_append]; rfl) (by rw [List.length_append,hal]; rfl) ⟨?_,?_,?_⟩⟩) (by rw [hsz]; lia) (by show (acc.push (Value.ref h.objs.size)).size ≤ sizeLine + 1; rw [Array.size_push,hsz]; lia)
   ·refine List.pairwise_append.mpr ⟨hG.rise,List.pairwise_singleton _ _,fun a ha b hb => ?_⟩
    rw [List.mem_singleton.mp hb]
    exact hG.there ha
   ·intro a ha
    rcases List.mem_append.mp ha with ha | ha
    ·exact hG.above a ha
    ·rw [List.mem_singleton.mp ha]; exact hSl
   ·intro j b hj
    rcases Nat.lt_trichotomy j as.length with g1 | g1 | g1
    ·rw [List.getElem?_append_left g1] at hj
     obtain ⟨x,y,e1,e2,e3⟩ := hG.pairs j b hj
     have hb := hG.above b (List.mem_of_getElem? hj)
     exact ⟨x,y,e1,e2,up b _ (Nat.ne_of_gt hb) (kp b _ (fun hm => absurd (low b hm) (Nat.not_lt.mpr (Nat.le_of_lt hb))) e3)⟩
    ·subst g1
     have hb : h.objs.size = b := by simpa using hj
     subst hb
     exact ⟨_,_,by rw [hal]; exact hx,by rw [hal]; exact hy,up _ _ (Nat.ne_of_gt hSl) ht⟩
    ·have hnone : (as ++ [h.objs.size])[j]? = none := List.getElem?_eq_none (by rw [List.length_append,List.length_singleton]; lia)
     rw [hnone] at hj; cases hj
end
section
variable {prog : Program} {w : World} {A : Around} {E : Value → Shared → Prop} {s : Shared} {xs ys : Array Value}
theorem zgW {z : Addr} (hT : s.TypeIs (.ref z) "zip") {Q : Bool → Shared → Prop} (h : Q true s) : wpAny (model prog w) A (Builtin.List.listLengthHint (.ref z)) Q E s := by
 unfold Builtin.List.listLengthHint
 refine wpAny_bind (wpAny_specialOf hT ze9 ?_)
 refine wpAny_bind (wpAny_specialOf hT ze8 ?_)
 exact wpAny_pure h
theorem zej {R : Result → Shared → Prop} {z ti to i1 i2 l1 l2 S : Addr} (hh : A.handled = none) (D : ZipApart z ti to i1 i2 l1 l2) (off : ∀ b ∈ [z,ti,to,i1,i2,l1,l2],b ≠ S) (low : ∀ b ∈ [z,to,i1,i2],b < S) (hn : min xs.size ys.size ≤ sizeLine)
 (st : ZSt s.heap z ti to i1 i2 l1 l2 S 0 xs ys) (hz : IsZip s.heap z ti to .none) (res : Value) (c₀ : Nat) (hS : s.heap.get? S = some { cls := .type "list",data := .seq #[] c₀ })
 (hR : ∀ h' tk acc c as,(∀ b o,b ≠ S → b ∉ [z,to,i1,i2] → s.heap.get? b = some o → h'.get? b = some o) → h'.get? S = some { cls := .type "list",dict := none,data := .seq acc c,slots := #[] } → as.length = min xs.size ys.size → ZG xs ys S h' as →
  acc.toList = as.map Value.ref → R (.ok (.ret res)) { s with heap := h',toks := tk }) :
 wpAny (model prog w) A.in1 (Builtin.List.listExtendWith (.ref S) (.ref z) res)
  (fun fin s' => match fin with | .done f => R (.ok f) s' | .again c' => c'.quiet = true ∧ codeAny (model prog w) A c' R s') (fun e s' => R (.error e) s') s := by
 have hT : s.TypeIs (.ref z) "zip" := ⟨_,hz,rfl⟩
 have hzS : S ≠ z := Ne.symm (off z (by simp))
 unfold Builtin.List.listExtendWith
 refine wpAny_bind (wpAny_typeOf (T := "zip") hT ?_)
 have a1 : Builtin.List.listSameRef (.ref S) (.ref z) = false := by simp [Builtin.List.listSameRef,hzS]
 have a2 : (Value.type "zip" == Value.type "list") = false := by decide
 have a3 : (Value.type "zip" == Value.type "tuple") = false := by decide
 simp only [a1,a2,a3,Bool.or_false,Bool.false_eq_true,if_false]
 refine wpAny_bind (wpAny_pyIter_zip hz ?_)
 refine wpAny_bind (wpAny_holding (zgW hT ?_))
 simp only [Bool.true_or,if_true]
 refine wpAny_bind (wpAny_rule ?_)
 refine wpAny_bind ?_
 show wpAny _ _ (updateSeq S (·.push .none) >>= fun _ => updateSeq S (·.pop)) _ _ _
 refine wpAny_bind (wpAny_updateSeq hS rfl ?_)
 have e2 := Heap.get?_update_self (Obj.mapSeq (·.push Value.none)) hS rfl
 refine wpAny_updateSeq (hz := by seq_fits) e2 rfl ?_
 have e3 := Heap.get?_update_self (Obj.mapSeq (·.pop)) e2 rfl
 have up : ∀ b o,b ≠ S → s.heap.get? b = some o → ((s.heap.update S (Obj.mapSeq (·.push Value.none))).update S (Obj.mapSeq (·.pop))).get? b = some o := fun b o hb e =>
  (Heap.get?_update_other _ _ (Ne.symm hb)).trans ((Heap.get?_update_other _ _ (Ne.symm hb)).trans e)
 refine wpAny_pure ⟨plainId_quiet PySem.F.plain_extend_loop _,zgU (s := s) (h₁ := s.heap) hh D off low hn res hR (min xs.size ys.size) 0 _ _ _ #[] [] (Nat.sub_zero _) (Nat.zero_le _) (st.keep up off) (fun b o hb _ e => up b o hb e) e3 rfl rfl ⟨List.Pairwise.nil,(fun _ ha => nomatch ha),(fun j a hj => by simp at hj)⟩⟩
theorem zgV {R : Result → Shared → Prop} {z ti to i1 i2 l1 l2 S : Addr} (hh : A.handled = none) (D : ZipApart z ti to i1 i2 l1 l2) (off : ∀ b ∈ [z,ti,to,i1,i2,l1,l2],b ≠ S) (low : ∀ b ∈ [z,to,i1,i2],b < S) (hn : min xs.size ys.size ≤ sizeLine)
 (st : ZSt s.heap z ti to i1 i2 l1 l2 S 0 xs ys) (hz : IsZip s.heap z ti to .none) (hS : s.heap.get? S = some { cls := .type "list",data := .seq #[] })
 (hR : ∀ h' tk acc c as,(∀ b o,b ≠ S → b ∉ [z,to,i1,i2] → s.heap.get? b = some o → h'.get? b = some o) → h'.get? S = some { cls := .type "list",dict := none,data := .seq acc c,slots := #[] } → as.length = min xs.size ys.size → ZG xs ys S h' as →
  acc.toList = as.map Value.ref → R (.ok (.ret .none)) { s with heap := h',toks := tk }) :
 wpAny (model prog w) A.in1 (Builtin.«list.__init__» ⟨[.ref S,.ref z],[]⟩)
  (fun fin s' => match fin with | .done f => R (.ok f) s' | .again c' => c'.quiet = true ∧ codeAny (model prog w) A c' R s') (fun e s' => R (.error e) s') s := by
 show wpAny _ _ (do let was ← Builtin.List.listItems (.ref S); Builtin.List.listUpdate (.ref S) (fun _ => #[]); letGo was.toList.reverse; Builtin.List.listExtendWith (.ref S) (.ref z) .none) _ _ s
 refine wpAny_bind ?_
 unfold Builtin.List.listItems
 refine wpAny_bind (wpAny_seqItems hS rfl (wpAny_pure ?_))
 show wpAny _ _ (updateSeq S (fun _ => #[]) >>= fun _ => letGo (#[] : Array Value).toList.reverse >>= fun _ => Builtin.List.listExtendWith (.ref S) (.ref z) .none) _ _ s
 refine wpAny_bind (wpAny_updateSeq hS rfl ?_)
 have e2 := Heap.get?_update_self (Obj.mapSeq (fun _ => (#[] : Array Value))) hS rfl
 have up : ∀ b o,b ≠ S → s.heap.get? b = some o → (s.heap.update S (Obj.mapSeq (fun _ => (#[] : Array Value)))).get? b = some o := fun b o hb e => (Heap.get?_update_other _ _ (Ne.symm hb)).trans e
 refine wpAny_bind (wpAny_letGo ?_)
 exact zej hh D off low hn (st.keep up off) (up _ _ (off z (by simp)) hz) .none _ e2 fun h' tk acc c as k e l g a => hR h' tk acc c as (fun b o hb hn e => k b o hb hn (up b o hb e)) e l g a
theorem zgX {Q : Value → Shared → Prop} {z ti to i1 i2 l1 l2 : Addr} {a b : Value} (hh : A.handled = none) (D : ZipApart z ti to i1 i2 l1 l2) (hn : min xs.size ys.size ≤ sizeLine)
 (hz : IsZip s.heap z ti to .none) (hI : IsPair s.heap ti (.ref i1) (.ref i2)) (hO : IsPair s.heap to a b) (g1 : s.heap.IsListIter i1 l1 0) (g2 : s.heap.IsListIter i2 l2 0) (hl1 : s.heap.IsList l1 xs) (hl2 : s.heap.IsList l2 ys)
 (hQ : ∀ h' tk acc c as,(∀ b o,b ∉ [z,to,i1,i2] → s.heap.get? b = some o → h'.get? b = some o) → h'.get? s.heap.objs.size = some { cls := .type "list",dict := none,data := .seq acc c,slots := #[] } → as.length = min xs.size ys.size → ZG xs ys s.heap.objs.size h' as →
  acc.toList = as.map Value.ref → Q (.ref s.heap.objs.size) { s with heap := h',toks := tk }) :
 wpAny (model prog w) A (call (.type "list") [.ref z]) Q E s := by
 refine callType_codes (Q₁ := fun obj s₁ => obj = .ref s.heap.objs.size ∧ s₁ = { s with heap := s.heap.push { cls := .type "list",data := .seq #[] } }) PySem.F.called_list (PySem.F.typeCall_list_1 _) PySem.F.entry_list_init
  (code_list_new _ ⟨rfl,rfl⟩) fun obj s₁ e => ?_
 obtain ⟨rfl,rfl⟩ := e
 have hS : (s.heap.push { cls := .type "list",data := .seq #[] }).get? s.heap.objs.size = some { cls := .type "list",data := .seq #[] } := Heap.get?_push_size _ rfl
 have lt : ∀ {c o},s.heap.get? c = some o → c < s.heap.objs.size := fun e => Heap.lt_size e
 have low7 : ∀ b ∈ [z,ti,to,i1,i2,l1,l2],b < s.heap.objs.size := by
  intro b hb
  simp at hb
  rcases hb with rfl | rfl | rfl | rfl | rfl | rfl | rfl
  ·exact lt hz
  ·exact lt hI
  ·exact lt hO
  ·obtain ⟨_,e,_⟩ := g1; exact lt e
  ·obtain ⟨_,e,_⟩ := g2; exact lt e
  ·obtain ⟨_,e,_⟩ := hl1; exact lt e
  ·obtain ⟨_,e,_⟩ := hl2; exact lt e
 have hz' : IsZip (s.heap.push { cls := .type "list",data := .seq #[] }) z ti to .none := Heap.get?_push_of_some _ hz
 refine ⟨⟨_,hS,rfl⟩,PySem.F.args_list_init_2 _ _,zgV (A := A.in1) hh D (fun b hb => Nat.ne_of_lt (low7 b hb)) (fun b hb => low7 b (by simp at hb ⊢; rcases hb with q | q | q | q <;> simp [q])) hn
  ⟨.inl ⟨hz',a,b,Heap.get?_push_of_some _ hO⟩,Heap.get?_push_of_some _ hI,g1.at fun o e => Heap.get?_push_of_some _ e,g2.at fun o e => Heap.get?_push_of_some _ e,hl1.push _,hl2.push _⟩ hz' hS fun h' tk acc c as k e l g ac => ?_⟩
 exact ⟨rfl,hQ h' tk acc c as (fun b o hb e => k b o (Nat.ne_of_lt (Heap.lt_size e)) hb (Heap.get?_push_of_some _ e)) e l g ac⟩
end
end DL
namespace DL
open PySem PySem.Spec PyProof.Rows L2
noncomputable def layP (H : Hp) : List Addr → List (V × V) → Hp
 | a :: as,q :: qs => upd (layP H as qs) a (.tup [q.1,q.2])
 | _,_ => H
theorem xk {H : Hp} : ∀ {as : List Addr} {qs : List (V × V)} {b : Addr},b ∉ as → layP H as qs b = H b
 | [],_,b,_ => rfl
 | a :: as,[],b,_ => rfl
 | a :: as,q :: qs,b,h => by
   have h1 : b ≠ a := fun z => h (by rw [z]; exact List.mem_cons_self)
   have h2 : b ∉ as := fun z => h (List.mem_cons_of_mem _ z)
   unfold layP
   rw [zu h1,xk h2]
theorem zfY {H : Hp} : ∀ {as : List Addr} {qs : List (V × V)} {j : Nat} {a : Addr} {q : V × V},as.Nodup → as[j]? = some a → qs[j]? = some q → layP H as qs a = some (.tup [q.1,q.2])
 | [],_,j,a,q,_,h,_ => by simp at h
 | a' :: as,[],j,a,q,_,_,h => by simp at h
 | a' :: as,q' :: qs,0,a,q,hn,h1,h2 => by
   simp at h1 h2
   subst h1; subst h2
   exact zC
 | a' :: as,q' :: qs,j + 1,a,q,hn,h1,h2 => by
   have hn' := List.nodup_cons.mp hn
   have hm : a ∈ as := List.mem_of_getElem? (by simpa using h1)
   have hne : a ≠ a' := fun z => hn'.1 (z ▸ hm)
   unfold layP
   rw [zu hne]
   exact zfY hn'.2 (by simpa using h1) (by simpa using h2)
theorem td {K : PySem.W.Frag} : ∀ {as : List Addr} {qs : List (V × V)} {G H : Hp},Same G H → as.length = qs.length → as.Nodup → (∀ a ∈ as,H a = none) → Grow G H (layP G as qs) (layP H as qs) ∧ Same (layP G as qs) (layP H as qs)
 | [],_,G,H,l,_,_,_ => ⟨Grow.refl _ _,l⟩
 | a :: as,[],G,H,l,e,_,_ => by cases e
 | a :: as,q :: qs,G,H,l,e,hn,hf => by
   have hn' := List.nodup_cons.mp hn
   have ih := td (K := K) (as := as) (qs := qs) l (by simpa using e) hn'.2 fun b hb => hf b (List.mem_cons_of_mem _ hb)
   have ha : layP H as qs a = none := by rw [xk hn'.1]; exact hf a List.mem_cons_self
   have g := Grow.laidT (o := .tup [q.1,q.2]) ih.2 ha
   exact ⟨ih.1.trans g.1,g.2⟩
@[simp] noncomputable def gZip : D → D → Out Val
  | .lst ds,.lst es => .ok (.fresh ((ds.zip es).map fun p => .tup [p.1,p.2]))
  | _,_ => .bad
noncomputable def zg2 (ta : TA) : TE := fun σ H Q => ta σ H fun vs H1 => ∃ (a b : Addr) (xs ys : List V),vs = [.ref a,.ref b] ∧ H1 a = some (.lst xs) ∧ H1 b = some (.lst ys) ∧
 ∀ (l : Addr) (as : List Addr),H1 l = none → as.length = (xs.zip ys).length → as.Nodup → (∀ p ∈ as,H1 p = none ∧ p ≠ l) → Q (.ref l) (upd (layP H1 as (xs.zip ys)) l (.lst (as.map V.ref)))
theorem zdy : ∀ l : List Addr,Vals (l.map V.ref) (l.map Value.ref)
 | [] => .nil
 | a :: l => .cons rfl (zdy l)
theorem zap (n a b : Nat) (ha : a < n) (hb : b < n) : ZipApart (n + 4) (n + 2) (n + 3) n (n + 1) a b := by
 constructor <;> (refine fun (z : (_ : Nat) = _) => ?_; lia)
theorem offn {n c : Nat} (h : c < n) : c ∉ [n + 4,n + 3,n,n + 1] := by
 simp
 lia
theorem zew {X : Cx} {p p2 pos pos2 : Pos} {e1 e2 : Expr} {ta : TA} (hc : X.calm = true) (ha : PA X [e1,e2] ta) (hml : X.mg "list" = none) (hmz : X.mg "zip" = none) (hgl : Gl X "list" := by rfl) (hgz : Gl X "zip" := by rfl)
 (hs : starEach [.Call (.Name "zip" p2) [e1,e2] [] pos2] X.env = [(false,eval (.Call (.Name "zip" p2) [e1,e2] [] pos2) X.env)] := by rfl)
 (hs2 : starEach [e1,e2] X.env = (false,eval e1 X.env) :: starEach [e2] X.env := by rfl) (hs3 : starEach [e2] X.env = [(false,eval e2 X.env)] := by rfl) :
 PE X (.Call (.Name "list" p) [.Call (.Name "zip" p2) [e1,e2] [] pos2] [] pos) (zg2 ta) := by
 intro pins s σ H Q I h
 refine wpAny_Call_Name_kw (wb I hgl hml boot_list (PyProof.Rows.callWith_type1 ?_ (by rw [hs]; rfl) rfl))
 rw [hs]
 refine Calls.spliced_cons (wpAny_Call_Name_kw (wb I hgz hmz boot_zip (PyProof.Rows.callWith_type1 (thn (ha pos2 pins s σ H _ I h) fun us s1 ⟨vs,H1,I1,r1,q1⟩ => ?_) hs2 (by rw [hs3]; rfl))))
 obtain ⟨a,b,xs,ys,rfl,ea,eb,q⟩ := q1
 obtain ⟨ua,ub,rfl,ra,rb⟩ := zfa r1
 cases (show ua = .ref a from ra)
 cases (show ub = .ref b from rb)
 obtain ⟨za,ia,na,va,la,ha1⟩ := I1.lstM ea
 obtain ⟨zb,ib,nb,vb,lb,hb1⟩ := I1.lstM eb
 have hl1 : s1.heap.IsList a ia.toArray := ⟨_,ha1,rfl,_,rfl⟩
 have hl2 : s1.heap.IsList b ib.toArray := ⟨_,hb1,rfl,_,rfl⟩
 have alt := Heap.lt_size ha1
 have blt := Heap.lt_size hb1
 refine call_zip_2 hl1 hl2 fun h2 hz hI hO g1 g2 hsz k2 => ?_
 refine Calls.spliced_nil ?_
 have D : ZipApart (s1.heap.objs.size + 4) (s1.heap.objs.size + 2) (s1.heap.objs.size + 3) s1.heap.objs.size (s1.heap.objs.size + 1) a b := zap _ _ _ alt blt
 have hmin : min ia.toArray.size ib.toArray.size = (xs.zip ys).length := by simp [la,lb]
 refine zgX (I1.ok.hd hc) D (by rw [hmin]; simp; lia) hz hI hO g1 g2 (hl1.at fun o e => k2 _ _ e) (hl2.at fun o e => k2 _ _ e) fun h' tk acc c as k3 hS hl hG hacc => ?_
 have hk : ∀ b o,s1.heap.get? b = some o → h'.get? b = some o := fun c o e => k3 c o (offn (Heap.lt_size e)) (k2 c o e)
 have hnd : as.Nodup := hG.rise.imp fun h => Nat.ne_of_lt h
 have hsz' : s1.heap.objs.size < h2.objs.size := by lia
 have hn : ∀ a,s1.heap.objs.size ≤ a → H1 a = none := fun a ha => I1.hok.fresh ha
 have hab : ∀ a ∈ as,h2.objs.size < a := hG.above
 have hnl : ∀ a ∈ as,H1 a = none ∧ a ≠ h2.objs.size := fun a ha => ⟨hn a (Nat.le_of_lt (Nat.lt_trans hsz' (hab a ha))),Nat.ne_of_gt (hab a ha)⟩
 have fin := q h2.objs.size as (hn _ (by lia)) (by rw [hl,hmin]) hnd hnl
 have hlow : ∀ b,b < s1.heap.objs.size → upd (layP H1 as (xs.zip ys)) h2.objs.size (.lst (as.map V.ref)) b = H1 b := fun b hb => by
  rw [zu (Nat.ne_of_lt (Nat.lt_trans hb hsz')),xk fun hm => absurd (Nat.lt_trans hb hsz') (Nat.not_lt.mpr (Nat.le_of_lt (hab b hm)))]
 have hsame : Same H1 (upd (layP H1 as (xs.zip ys)) h2.objs.size (.lst (as.map V.ref))) := fun b o e => by
  have hb : b < s1.heap.objs.size := by
   rcases Nat.lt_or_ge b s1.heap.objs.size with hlt | hge
   ·exact hlt
   ·rw [hn b hge] at e; cases e
  rw [hlow b hb]; exact e
 refine ⟨.ref h2.objs.size,upd (layP H1 as (xs.zip ys)) h2.objs.size (.lst (as.map V.ref)),?_,rfl,fin⟩
 show Inv X pins σ _ { s1 with heap := h',toks := tk }
 refine Inv.many I1 hk hsame (fun b hb e => by rw [hlow b hb]; exact e) fun b o hb e => ?_
 by_cases hbl : b = h2.objs.size
 ·subst hbl
  rw [zC] at e
  cases e
  refine ⟨by rw [List.length_map,hl,hmin]; simp; lia,as.map Value.ref,c,zdy as,?_⟩
  rw [← hacc]
  simpa using hS
 ·rw [zu hbl] at e
  by_cases hm : b ∈ as
  ·obtain ⟨j,hj⟩ := List.getElem?_of_mem hm
   obtain ⟨x,y,hx,hy,ht⟩ := hG.pairs j b hj
   have hx' : ia[j]? = some x := by simpa using hx
   have hy' : ib[j]? = some y := by simpa using hy
   have jl : j < xs.length := by rw [la]; exact (List.getElem?_eq_some_iff.mp hx').1
   have jr : j < ys.length := by rw [lb]; exact (List.getElem?_eq_some_iff.mp hy').1
   obtain ⟨x2,ex2,rx⟩ := va.get (List.getElem?_eq_getElem jl)
   obtain ⟨y2,ey2,ry⟩ := vb.get (List.getElem?_eq_getElem jr)
   have e1 : x2 = x := Option.some.inj (ex2.symm.trans hx')
   have e2 : y2 = y := Option.some.inj (ey2.symm.trans hy')
   subst e1; subst e2
   have hq : (xs.zip ys)[j]? = some (xs[j],ys[j]) := by simp [List.getElem?_zip_eq_some,jl,jr]
   rw [zfY hnd hj hq] at e
   cases e
   exact ⟨by show 2 ≤ sizeLine; rw [sizeLine_eq]; lia,[x2,y2],.cons rx (.cons ry .nil),⟨_,ht,rfl,_,rfl⟩⟩
  ·rw [xk hm,hn b hb] at e
   cases e
theorem ze7 {K : PySem.W.Frag} {G : Hp} : ∀ {as : List Addr} {ds es : List D} {xs ys : List V},RepL K G ds xs → RepL K G es ys → as.length = (xs.zip ys).length → as.Nodup → (∀ a ∈ as,G a = none) →
 RepL K (layP G as (xs.zip ys)) ((ds.zip es).map fun p => .tup [p.1,p.2]) (as.map V.ref)
 | [],[],es,xs,ys,r1,r2,hl,hn,hf => by simp; exact RepL.nil
 | [],d :: ds,[],xs,ys,r1,r2,hl,hn,hf => by simp; exact RepL.nil
 | [],d :: ds,e :: es,xs,ys,r1,r2,hl,hn,hf => by
   have l1 := r1.length
   have l2 := r2.length
   simp at l1 l2 hl
   lia
 | a :: as,ds,es,[],ys,r1,r2,hl,hn,hf => by simp at hl
 | a :: as,ds,es,x :: xs,[],r1,r2,hl,hn,hf => by simp at hl
 | a :: as,[],es,x :: xs,y :: ys,r1,r2,hl,hn,hf => by have := r1.length; simp at this
 | a :: as,d :: ds,[],x :: xs,y :: ys,r1,r2,hl,hn,hf => by have := r2.length; simp at this
 | a :: as,d :: ds,e :: es,x :: xs,y :: ys,r1,r2,hl,hn,hf => by
   obtain ⟨v,vs,ev,h1,t1⟩ := r1
   cases ev
   obtain ⟨u,us,eu,h2,t2⟩ := r2
   cases eu
   have hn' := List.nodup_cons.mp hn
   have hl' : as.length = (xs.zip ys).length := by simpa using hl
   have ih := ze7 t1 t2 hl' hn'.2 fun b hb => hf b (List.mem_cons_of_mem _ hb)
   have ha : layP G as (xs.zip ys) a = none := by rw [xk hn'.1]; exact hf a List.mem_cons_self
   have g := (td (K := K) (as := as) (qs := xs.zip ys) (Same.refl G) hl' hn'.2 fun b hb => hf b (List.mem_cons_of_mem _ hb)).1.g
   have g2 : Same (layP G as (xs.zip ys)) (upd (layP G as (xs.zip ys)) a (.tup [x,y])) := fun b o q => by rw [zu (zo q ha)]; exact q
   show RepL K (upd (layP G as (xs.zip ys)) a (.tup [x,y])) (.tup [d,e] :: _) (.ref a :: as.map V.ref)
   refine RepL.cons ⟨a,[x,y],rfl,zC,RepL.cons ((h1.mono g).mono g2) (RepL.cons ((h2.mono g).mono g2) RepL.nil)⟩ (ih.mono g2)
theorem zeX {X : Cx} {G₀ H₀ : Hp} {p p2 pos pos2 : Pos} {e1 e2 : Expr} {f1 f2' : FE} (h1 : DE X G₀ H₀ e1 f1) (h2 : DE X G₀ H₀ e2 f2') (hml : X.mg "list" = none) (hmz : X.mg "zip" = none) (hc : X.calm = true := by rfl) (hgl : Gl X "list" := by rfl) (hgz : Gl X "zip" := by rfl)
 (hs : starEach [.Call (.Name "zip" p2) [e1,e2] [] pos2] X.env = [(false,eval (.Call (.Name "zip" p2) [e1,e2] [] pos2) X.env)] := by rfl)
 (hs2 : starEach [e1,e2] X.env = (false,eval e1 X.env) :: starEach [e2] X.env := by rfl) (hs3 : starEach [e2] X.env = [(false,eval e2 X.env)] := by rfl) :
 DE X G₀ H₀ (.Call (.Name "list" p) [.Call (.Name "zip" p2) [e1,e2] [] pos2] [] pos) (f2 gZip f1 f2') :=
 (zew hc (zU h1 (zU h2 yF hs3) hs2) hml hmz hgl hgz hs hs2 hs3).imp fun σ H Q q => by
  obtain ⟨env,G,val,I,e,k⟩ := q
  obtain ⟨x,ex,e⟩ := zk e
  obtain ⟨y,ey,e⟩ := zk e
  refine zfe I ex ey fun v u G' H' g l I' o1 o2 => ?_
  unfold gZip at e
  split at e
  ·rename_i ds es hd he
   cases e
   rw [hd] at o1
   rw [he] at o2
   obtain ⟨a,xs,rfl,ha,ra⟩ := Opd.lst I' o1
   obtain ⟨b,ys,rfl,hb,rb⟩ := Opd.lst I' o2
   refine ⟨a,b,xs,ys,rfl,ha,hb,fun p as hp hal hnd hfr => ?_⟩
   have gl := td (K := X.K) (as := as) (qs := xs.zip ys) l hal hnd fun b hb => (hfr b hb).1
   have hpl : layP H' as (xs.zip ys) p = none := by rw [xk fun hm => (hfr p hm).2 rfl]; exact hp
   have g1 := Grow.laidL (o := .lst (as.map V.ref)) gl.2 hpl
   refine k _ _ _ ((g.trans gl.1).trans g1.1) g1.2 ?_
   refine ⟨p,as.map V.ref,rfl,ut g.h hp,zC,gl.2.free hpl,ze7 ra rb hal hnd fun b hb => l.free (hfr b hb).1⟩
  ·cases e
end DL
namespace DL
open PySem PySem.Spec PyProof.Rows L2
noncomputable def Itv (K : PySem.W.Frag) (l : Addr) (n : Nat) : It :=
 ⟨fun i H => ∃ xs,SqL K H l xs ∧ xs.length = n ∧ i < n,fun i H x H' => H' = H ∧ ∀ xs,SqL K H l xs → xs[n - 1 - i]? = some x,fun i _ => n ≤ i⟩
theorem zg1 {P : Program} {w : World} {K : PySem.W.Frag} {tg : Expr} (l it : Addr) (n : Nat) : Turn P w K tg (Itv K l n) [it] it (fun i h => i ≤ n ∧ h.IsRevIter it l ((n : Int) - 1 - (i : Int))) where
 mem := by simp
 obj := fun i h st b hb => by
  have e : b = it := by simpa using hb
  subst e
  obtain ⟨_,o,e,c,d⟩ := st
  exact ⟨o,e,fun v z => by rw [d] at z; cases z⟩
 keep := fun i h h' st k => ⟨st.1,st.2.at fun o e => k it (by simp) o e⟩
 item := by
  intro X hP hw hK hc i pins s σ H E I hf st hg
  subst hP hw hK
  obtain ⟨xs,hq,hn,hi⟩ := hg
  have hx : xs[n - 1 - i]? = some (xs[n - 1 - i]'(by lia)) := List.getElem?_eq_getElem _
  obtain ⟨its,rv,p,hz⟩ := I.list hq
  obtain ⟨u,hu,ru⟩ := rv.get hx
  obtain ⟨f0,f1,f2,f3,f4,f5⟩ := hf it (by simp)
  have en : (n : Int) - 1 - (i : Int) = ((n - 1 - i : Nat) : Int) := by lia
  have hit := st.2
  rw [en] at hit
  refine wpAny_pyNext_rev_item hit p.isList (x := u) (by simpa using hu) fun h' st' sb => ?_
  have en2 : ((n - 1 - i : Nat) : Int) - 1 = (n : Int) - 1 - ((i + 1 : Nat) : Int) := by lia
  rw [en2] at st'
  have I1 : Inv X pins σ H { s with heap := h' } := I.turned (t' := s.toks) (fun b o hb e => (sb.2 b hb).trans e) f0 f1 f3 f4 f5
  obtain ⟨o,e,c,d⟩ := id st'
  exact ⟨u,rfl,zji (s := { s with heap := h' }) e c d (by decide) ⟨_,H,I1,ru,⟨rfl,fun ys hy => by rw [I.list_inj hy hq]; exact hx⟩,⟨hi,st'⟩,fun b hb => (hf b hb).1⟩⟩
 done := by
  intro X hP hw hK hc i pins s σ H E I hf st hg
  subst hP hw hK
  obtain ⟨f0,f1,f2,f3,f4,f5⟩ := hf it (by simp)
  have hn : n ≤ i := hg
  have en : (n : Int) - 1 - (i : Int) = -1 := by have := st.1; lia
  have hit := st.2
  rw [en] at hit
  exact wpAny_pyNext_rev_end (I.ok.hd hc) hit fun h' eb => ⟨rfl,I.turned (t' := s.toks) (fun b o hb e => eb b o hb e) f0 f1 f3 f4 f5⟩
 self := fun _ _ _ _ _ st h => wpAny_pyIter_revIter st.2 h
noncomputable def iRev (K : PySem.W.Frag) (ta : TA) : TI := fun σ H R => ta σ H fun vs H1 => ∃ a xs,vs = [.ref a] ∧ H1 a = some (.lst xs) ∧ R (Itv K a xs.length) H1
theorem zjV {X : Cx} {tg : Expr} {p cpos : Pos} {l : Expr} {ta : TA} (hm : X.mg "reversed" = none) (ha : PA X [l] ta) (hg : Gl X "reversed" := by rfl) (hs : starEach [l] X.env = [(false,eval l X.env)] := by rfl) : PI X tg (.Call (.Name "reversed" p) [l] [] cpos) (iRev X.K ta) := by
 intro pins s σ H R I h
 refine Call_ (wb I hg hm boot_reversed (PyProof.Rows.callWith_type1 (thn (ha cpos pins s σ H _ I h) fun us s1 ⟨vs,H1,I1,r1,q1⟩ => ?_) hs rfl))
 obtain ⟨a,xs,rfl,hH,q⟩ := q1
 obtain ⟨u,rfl,r2⟩ := wk r1
 cases (show u = .ref a from r2)
 obtain ⟨z,its,n,rv,hlen,e⟩ := I1.lstM hH
 have hl : s1.heap.IsList a its.toArray := ⟨_,e,rfl,_,rfl⟩
 refine call_reversed_list hl ?_
 have I2 : Inv X pins σ H1 { s1 with heap := s1.heap.push (revObj a ((its.toArray.size : Int) - 1)),toks := s1.toks } := I1.kept (t' := s1.toks) fun b o e => Heap.get?_push_of_some _ e
 have hit : (s1.heap.push (revObj a ((its.toArray.size : Int) - 1))).IsRevIter s1.heap.objs.size a ((xs.length : Int) - 1 - ((0 : Nat) : Int)) := ⟨_,Heap.get?_push_size _ rfl,rfl,by simp [revObj,hlen]⟩
 refine wpAny_pyIter_revIter hit ?_
 refine ⟨s1.heap.objs.size,[s1.heap.objs.size],_,Itv X.K a xs.length,H1,rfl,I2,zg1 a _ xs.length,⟨Nat.zero_le _,hit⟩,fun b hb => ?_,q⟩
 have e : b = s1.heap.objs.size := by simpa using hb
 subst e
 exact I1.fpOk (Nat.le_refl _) (I1.hok.fresh (Nat.le_refl _))
theorem zi7 {K : PySem.W.Frag} {G : Hp} {a : Addr} {ds : List D} {vs : List V} (h : SqL K G a vs) (r : RepL K G ds vs) : JOk K (Itv K a vs.length) G ds.reverse where
 go := fun i G' H' s l hi => by
  rw [List.length_reverse,r.length] at hi
  exact ⟨vs,l.seq (s.seq h),rfl,hi⟩
 stop := fun i G' H' s l hi => by
  rw [List.length_reverse,r.length] at hi
  exact hi
 yld := fun i G' H' x H1 s l hi y => by
  obtain ⟨e,y⟩ := y
  subst e
  rw [List.length_reverse] at hi
  have hx := y vs (l.seq (s.seq h))
  rw [← r.length] at hx
  obtain ⟨d,h1,h2⟩ := r.get' hx
  exact ⟨d,G',by rw [List.getElem?_reverse hi]; exact h1,Grow.refl _ _,l,h2.mono s⟩
@[simp] noncomputable def fRev (f : FE) : FI := fun env => (f env).bind fun x => x.hold.bind fun d => match d with
  | .lst ds => .ok ds.reverse
  | _ => .bad
theorem zkC {X : Cx} {G₀ H₀ : Hp} {tg : Expr} {p cpos : Pos} {l : Expr} {f : FE} (hm : X.mg "reversed" = none) (hl : DE X G₀ H₀ l f) (hg : Gl X "reversed" := by rfl) (hs : starEach [l] X.env = [(false,eval l X.env)] := by rfl) :
 DIt X G₀ H₀ tg (.Call (.Name "reversed" p) [l] [] cpos) (fRev f) := (zjV hm (zU hl yF hs) hg hs).imp fun σ H R q => by
 obtain ⟨env,G,ds,I,e,k⟩ := q
 obtain ⟨x,e1,e⟩ := zk e
 obtain ⟨d,e2,e⟩ := zk e
 refine ⟨env,G,x,I,e1,fun v G' H' g l h => ?_⟩
 obtain ⟨G2,g2,l2,h2⟩ := held g l h e2
 split at e
 ·cases e
  obtain ⟨a,vs,rfl,h3,r3⟩ := h2
  exact ⟨a,vs,rfl,l2 _ _ h3,k _ G2 H' g2 l2 (zi7 (SqL.of h3) r3)⟩
 ·cases e
end DL
namespace DL
open PySem PySem.Spec PyProof.Rows L2
theorem int_at {its : List Value} {ns : List Int} (h : IntsAre its ns) {i : Nat} {v : Value} (e : its[i]? = some v) : ∃ t,v = .int (ns.getD i 0) t := IntsAre.int_at h i v e
@[simp] noncomputable def xI (b a : Int) : Int := if a > b then a else b
theorem zjB (x v : Value) : argsOk "max" ⟨[x],[(Str.ofString "default",v)]⟩ := by unfold argsOk; kernel_rfl
section
variable {prog : Program} {w : World} {A : Around} {s : Shared} {R : Result → Shared → Prop} {I l S : Addr} {its : List Value} {ns : List Int}
theorem goMax (hh : A.handled = none) (hi : IntsAre its ns) (hlen : its.length = ns.length) (hlI : l ≠ I) (hSI : S ≠ I) (hSl : S ≠ l) (kw : List (Str × Value)) {h₁ : Heap}
 (q : ∀ h' tk' t,(∀ b o,b ≠ S → b ≠ I → h₁.get? b = some o → h'.get? b = some o) → ∀ b,(∃ k,0 < k ∧ k ≤ ns.length ∧ b = (ns.drop k).foldl xI ((ns.take k).tail.foldl xI (ns.getD 0 0))) → R (.ok (.ret (.int b t))) { s with heap := h',toks := tk' }) :
 ∀ (r j : Nat) (h : Heap) (tk : Nat) (b : Int) (tb : Tok) (c : Nat),ns.length - j = r → 0 < j → j ≤ ns.length → h.IsListIter I l j → h.IsList l its.toArray → b = (ns.take j).tail.foldl xI (ns.getD 0 0) → (∀ b o,b ≠ S → b ≠ I → h₁.get? b = some o → h.get? b = some o) →
   h.get? S = some { cls := .type "list",dict := none,data := .seq #[.int b tb,.int b tb] c,slots := #[] } →
   codeAny (model prog w) A (.builtin "max.loop" ⟨[.ref I,.none,.ref S],kw⟩) R { s with heap := h,toks := tk } := by
 have nm : (toString "max" ++ toString ".loop" : String) = "max.loop" := by decide
 intro r
 induction r with
 | zero =>
   intro j h tk b tb c hr j0 hj hit hl hb keep hS
   have hin : j = ns.length := by lia
   refine codeAny_builtin PySem.F.entry_max_loop ?_
   rw [Around.under_plainId PySem.F.plain_max_loop _]
   show wpAny _ A.in1 (seqItems? (.ref S) >>= _) _ _ _
   refine wpAny_bind (wpAny_seqItems hS rfl ?_)
   show wpAny _ A.in1 (tryCatch (pyNext (.ref I)) _ >>= _) _ _ _
   refine wpAny_bind (wpAny_tryCatch (wpAny_pyNext_list_end (s := { s with heap := h,toks := tk }) (A := A.in1) hh hit hl (Array.getElem?_eq_none (by simp; lia)) fun h' he => ?_))
   have hS' := he S _ hSI hS
   show wpAny _ A.in1 (updateSeq S (fun _ => #[]) >>= _) _ _ _
   refine wpAny_bind ?_
   refine wpAny_updateSeq hS' rfl (wpAny_bind (wpAny_letGo (wpAny_pure ?_)))
   refine q _ tk tb (fun d o d1 d2 e => (Heap.get?_update_other _ _ (Ne.symm d1)).trans (he d o d2 (keep d o d1 d2 e))) b ⟨j,j0,hj,?_⟩
   rw [hin,List.drop_length,List.foldl_nil,← hin]
   exact hb
 | succ r ih =>
   intro j h tk b tb c hr j0 hj hit hl hb keep hS
   have hlt : j < ns.length := by lia
   have hx : its.toArray[j]? = some (its[j]'(by lia)) := by simp [show j < its.length by lia]
   obtain ⟨t,et⟩ := int_at hi (i := j) (v := its[j]'(by lia)) (List.getElem?_eq_getElem _)
   have eg : ns.getD j 0 = ns[j] := by simp [hlt]
   have step : (ns.take (j + 1)).tail.foldl xI (ns.getD 0 0) = xI b (ns.getD j 0) := by
    rw [List.take_succ_eq_append_getElem hlt,List.tail_append_of_ne_nil (by
     intro z
     rcases List.take_eq_nil_iff.mp z with z | z
     ·lia
     ·rw [z] at hlt; simp at hlt),List.foldl_append,← hb,eg]
    rfl
   refine codeAny_builtin PySem.F.entry_max_loop ?_
   rw [Around.under_plainId PySem.F.plain_max_loop _]
   show wpAny _ A.in1 (seqItems? (.ref S) >>= _) _ _ _
   refine wpAny_bind (wpAny_seqItems hS rfl ?_)
   show wpAny _ A.in1 (tryCatch (pyNext (.ref I)) _ >>= _) _ _ _
   refine wpAny_bind (wpAny_tryCatch (wpAny_pyNext_list_item (s := { s with heap := h,toks := tk }) (A := A.in1) hit hl hx fun h' hit' hs' => ?_))
   rw [et]
   have hs2 : Heap.SameBut I h h' := hs'
   have hS' := hs2.extBut S _ hSI hS
   have hl' : h'.IsList l its.toArray := hl.at fun o e => hs2.extBut l o hlI e
   show wpAny _ A.in1 (tryCatch (holding [Value.int (ns.getD j 0) t,Value.int (ns.getD j 0) t] (richCompare .Gt (Value.int (ns.getD j 0) t) (.int b tb) >>= _)) _ >>= _) _ _ _
   have hcmp := CmpOf.ints_gt (prog := prog) (w := w) (A := A.in1) (P := fun i v => v = .int (if i = 1 then ns.getD j 0 else b) (if i = 1 then t else tb)) (fun i => if i = 1 then ns.getD j 0 else b) (fun i v e => ⟨_,e⟩)
   refine wpAny_bind (wpAny_tryCatch (wpAny_holding (wpAny_bind (hcmp 1 0 _ _ _ _ _ rfl rfl ?_))))
   refine wpAny_bind (wpAny_holding (wpAny_truthy_bool ?_))
   refine wpAny_bind (wpAny_letGo (wpAny_pure ?_))
   have keep' : ∀ d o,d ≠ S → d ≠ I → h₁.get? d = some o → h'.get? d = some o := fun d o d1 d2 e => hs2.extBut d o d2 (keep d o d1 d2 e)
   simp only [if_true,show ¬ (0 : Nat) = 1 from by lia,if_false]
   by_cases hgt : ns.getD j 0 > b
   ·simp only [decide_eq_true hgt,if_true]
    refine wpAny_bind ?_
    refine wpAny_updateSeq hS' rfl (wpAny_bind (wpAny_letGo ?_))
    rw [nm]
    refine wpAny_pure ⟨plainId_quiet PySem.F.plain_max_loop _,ih (j + 1) _ _ (ns.getD j 0) t _ (by lia) (by lia) hlt (hit'.at fun o e => (Heap.get?_update_other _ _ hSI).trans e) (hl'.at fun o e => (Heap.get?_update_other _ _ hSl).trans e) (by rw [step]; simp only [xI]; rw [if_pos hgt])
     (fun d o d1 d2 e => (Heap.get?_update_other _ _ (Ne.symm d1)).trans (keep' d o d1 d2 e)) (Heap.get?_update_self _ hS' rfl)⟩
   ·simp only [decide_eq_false hgt,Bool.false_eq_true,if_false]
    refine wpAny_bind (wpAny_letGo ?_)
    rw [nm]
    exact wpAny_pure ⟨plainId_quiet PySem.F.plain_max_loop _,ih (j + 1) _ _ b tb _ (by lia) (by lia) hlt hit' hl' (by rw [step]; simp only [xI]; rw [if_neg hgt]) keep' hS'⟩
end
noncomputable def vR : List Int → Option Int
 | [] => none
 | n :: ns => some (ns.foldl xI n)
theorem ziQ {ns : List Int} {b : Int} (h : ∃ k,0 < k ∧ k ≤ ns.length ∧ b = (ns.drop k).foldl xI ((ns.take k).tail.foldl xI (ns.getD 0 0))) : vR ns = some b := by
 obtain ⟨k,h0,hk,rfl⟩ := h
 cases ns with
 | nil => simp at hk; lia
 | cons n r =>
   obtain ⟨m,rfl⟩ : ∃ m,k = m + 1 := ⟨k - 1,by lia⟩
   simp only [vR,List.drop_succ_cons,List.take_succ_cons,List.tail_cons,List.getD_cons_zero]
   rw [← List.foldl_append,List.take_append_drop]
noncomputable def optV : Option Int → V
 | none => .non
 | some b => .int b
noncomputable def tMax (ta : TA) : TE := fun σ H Q => ta σ H fun vs H1 => ∃ (a : Addr) (ns : List Int),vs = [.ref a] ∧ H1 a = some (.lst (ns.map V.int)) ∧ Q (optV (vR ns)) H1
theorem zj3 {X : Cx} {p pos kp np : Pos} {kn : _} {e : Expr} {ta : TA} (hc : X.calm = true) (ha : PA X [e] ta) (hm : X.mg "max" = none) (hg : Gl X "max" := by rfl) (hs : starEach [e] X.env = [(false,eval e X.env)] := by rfl) :
 PE X (.Call (.Name "max" p) [e] [⟨some "default",.Constant .none kn np,kp⟩] pos) (tMax ta) := by
 intro pins s σ H Q I h
 refine wpAny_Call_Name_kw (wb I hg hm boot_max (PyProof.Rows.callWith_kw (thn (ha pos pins s σ H _ I h) fun us s1 ⟨vs,H1,I1,r1,q1⟩ => ?_) (by rw [hs]; rfl) (by rw [hs]; rfl) rfl rfl))
 obtain ⟨a,ns,rfl,hH,q⟩ := q1
 obtain ⟨u,rfl,r2⟩ := wk r1
 cases (show u = .ref a from r2)
 show wpAny _ _ (evalAll [(do let v ← eval (.Constant .none kn np) X.env; standAt pos; pure v)]) _ _ _
 refine wpAny_evalAll_cons (wpAny_bind (wpAny_pure (wpAny_bind (wpAny_standAt (wpAny_pure (wpAny_evalAll_nil ?_))))))
 show wpAny _ _ (call (.builtin "max") [.ref a] [(Str.ofString "default",.none)]) _ _ _
 obtain ⟨z,its,n,rv,hlen,e⟩ := I1.lstM hH
 have hi : IntsAre its ns := wP rv
 have hil : its.length = ns.length := by rw [← hlen,List.length_map]
 have hl : s1.heap.IsList a its.toArray := ⟨_,e,rfl,_,rfl⟩
 have hal := Heap.lt_size e
 have nm : (toString "max" ++ toString ".loop" : String) = "max.loop" := by decide
 refine PyProof.Rows.kmb_tree PySem.F.kind_max PySem.F.plain_max PySem.F.entry_max (zjB _ _) ?_
 show wpAny _ X.A.in1 (Builtin.Builtins.bindParams "max" ["key","default"] 0 ⟨[],[(Str.ofString "default",.none)]⟩ >>= _) _ _ s1
 refine wpAny_bind (wpAny_of_eq (show Builtin.Builtins.bindParams "max" ["key","default"] 0 ⟨[],[(Str.ofString "default",.none)]⟩ = pure [none,some .none] from rfl) ?_)
 refine wpAny_bind (wpAny_pure ?_)
 refine wpAny_bind (wpAny_pyIter_list hl ?_)
 refine wpAny_bind (wpAny_newObj_type ?_)
 rw [nm]
 have hI2 : ((s1.heap.push { cls := .type "list_iterator",data := .fields #[.ref a,.int 0 0] }).push { cls := .type "list",data := .seq ([] : List Value).toArray }).IsListIter s1.heap.objs.size a 0 := ⟨_,Heap.get?_push_of_some _ (Heap.get?_push_size _ rfl),rfl,rfl⟩
 have hz : (s1.heap.push { cls := .type "list_iterator",data := .fields #[.ref a,.int 0 0] }).objs.size = s1.heap.objs.size + 1 := Heap.size_push ..
 have hS2 : ((s1.heap.push { cls := .type "list_iterator",data := .fields #[.ref a,.int 0 0] }).push { cls := .type "list",data := .seq ([] : List Value).toArray }).get? (s1.heap.push { cls := .type "list_iterator",data := .fields #[.ref a,.int 0 0] }).objs.size = some { cls := .type "list",data := .seq #[] } := Heap.get?_push_size _ rfl
 rw [hz] at hS2
 have hl2 : ((s1.heap.push { cls := .type "list_iterator",data := .fields #[.ref a,.int 0 0] }).push { cls := .type "list",data := .seq ([] : List Value).toArray }).IsList a its.toArray := (hl.push _).push _
 have hk2 : ∀ b o,s1.heap.get? b = some o → ((s1.heap.push { cls := .type "list_iterator",data := .fields #[.ref a,.int 0 0] }).push { cls := .type "list",data := .seq ([] : List Value).toArray }).get? b = some o := fun b o e => Heap.get?_push_of_some _ (Heap.get?_push_of_some _ e)
 rw [hz]
 generalize ((s1.heap.push { cls := .type "list_iterator",data := .fields #[.ref a,.int 0 0] }).push { cls := .type "list",data := .seq ([] : List Value).toArray }) = h2 at hI2 hS2 hl2 hk2 ⊢
 have nSI : s1.heap.objs.size + 1 ≠ s1.heap.objs.size := Nat.succ_ne_self _
 have nlI : a ≠ s1.heap.objs.size := Nat.ne_of_lt hal
 have nSl : s1.heap.objs.size + 1 ≠ a := Nat.ne_of_gt (Nat.lt_succ_of_lt hal)
 have old : ∀ b o,s1.heap.get? b = some o → b ≠ s1.heap.objs.size + 1 ∧ b ≠ s1.heap.objs.size := fun b o e => ⟨Nat.ne_of_lt (Nat.lt_succ_of_lt (Heap.lt_size e)),Nat.ne_of_lt (Heap.lt_size e)⟩
 refine wpAny_pure ⟨plainId_quiet PySem.F.plain_max_loop _,?_⟩
 show codeAny _ _ (.builtin "max.loop" ⟨[.ref s1.heap.objs.size,.none,.ref (s1.heap.objs.size + 1)],[(Str.ofString "default",.none)]⟩) _ _
 refine codeAny_builtin PySem.F.entry_max_loop ?_
 rw [Around.under_plainId PySem.F.plain_max_loop _]
 show wpAny _ X.A.in1 (seqItems? (.ref (s1.heap.objs.size + 1)) >>= _) _ _ _
 refine wpAny_bind (wpAny_seqItems hS2 rfl ?_)
 show wpAny _ X.A.in1 (tryCatch (pyNext (.ref s1.heap.objs.size)) _ >>= _) _ _ _
 cases ns with
 | nil =>
   refine wpAny_bind (wpAny_tryCatch (wpAny_pyNext_list_end (s := { s1 with heap := h2 }) (A := X.A.in1) (I1.ok.hd hc) hI2 hl2 (Array.getElem?_eq_none (by simp at hil; simp [hil])) fun h' he => ?_))
   refine wpAny_bind (wpAny_rule (wpAny_pure ?_))
   have k3 : ∀ b o,s1.heap.get? b = some o → h'.get? b = some o := fun b o e => he b o (old b o e).2 (hk2 b o e)
   exact ⟨.non,H1,I1.kept (t' := s1.toks) k3,rfl,q⟩
 | cons n0 nr =>
   have hx : its.toArray[0]? = some (its[0]'(by rw [hil]; simp)) := by simp [hil]
   obtain ⟨t,et⟩ := int_at hi (i := 0) (v := its[0]'(by rw [hil]; simp)) (List.getElem?_eq_getElem _)
   refine wpAny_bind (wpAny_tryCatch (wpAny_pyNext_list_item (s := { s1 with heap := h2 }) (A := X.A.in1) hI2 hl2 hx fun h' hit' hs' => ?_))
   rw [et]
   have hs2 : Heap.SameBut s1.heap.objs.size h2 h' := hs'
   have hS3 := hs2.extBut _ _ nSI hS2
   show wpAny _ X.A.in1 (updateSeq (s1.heap.objs.size + 1) (fun _ => #[_,_]) >>= _) _ _ _
   refine wpAny_bind ?_
   refine wpAny_updateSeq hS3 rfl ?_
   rw [nm]
   refine wpAny_pure ⟨plainId_quiet PySem.F.plain_max_loop _,goMax (s := s1) (h₁ := s1.heap) (A := X.A) (I1.ok.hd hc) hi hil nlI nSI nSl _ (fun h'' tk'' t'' k b hb => ?_) nr.length 1 _ _ n0 t _ (by simp) (by lia) (by simp) (hit'.at fun o e => (Heap.get?_update_other _ _ nSI).trans e)
    ((hl2.at fun o e => hs2.extBut a o nlI e).at fun o e => (Heap.get?_update_other _ _ nSl).trans e) (by simp) (fun b o d1 d2 e => (Heap.get?_update_other _ _ (Ne.symm d1)).trans (hs2.extBut b o d2 (hk2 b o e))) (Heap.get?_update_self _ hS3 rfl)⟩
   have hp := ziQ hb
   rw [hp] at q
   exact ⟨.int b,H1,I1.kept (t' := tk'') (fun b o e => k b o (old b o e).1 (old b o e).2 e),⟨t'',rfl⟩,q⟩
@[simp] noncomputable def gMax : D → Out Val
  | .lst ds => match wI ds with
    | some ns => .ok (.pers (match vR ns with
      | none => .non
      | some b => .int b))
    | none => .bad
  | _ => .bad
theorem zkG {X : Cx} {G₀ H₀ : Hp} {p pos kp np : Pos} {kn : _} {e : Expr} {f : FE} (he : DE X G₀ H₀ e f) (hm : X.mg "max" = none) (hc : X.calm = true := by rfl) (hg : Gl X "max" := by rfl) (hs : starEach [e] X.env = [(false,eval e X.env)] := by rfl) :
 DE X G₀ H₀ (.Call (.Name "max" p) [e] [⟨some "default",.Constant .none kn np,kp⟩] pos) (f1 gMax f) :=
 (zj3 hc (zU he yF hs) hm hg hs).imp fun σ H Q q => by
  obtain ⟨env,G,val,I,e,k⟩ := q
  obtain ⟨x,ex,e⟩ := zk e
  refine xn I ex fun v G' H' g l I' o => ?_
  unfold gMax at e
  split at e
  ·rename_i ds hd
   rw [hd] at o
   obtain ⟨a,vs,rfl,h1,r1⟩ := Opd.lst I' o
   split at e
   ·rename_i ns hn
    cases e
    rw [wH hn] at r1
    rw [r1.ints_of] at h1
    refine ⟨a,ns,rfl,h1,k _ _ _ g l ?_⟩
    cases hx : vR ns with
    | none => rfl
    | some b => rfl
   ·cases e
  ·cases e
@[simp] noncomputable def xy (b a : Int) : Int := if a < b then a else b
theorem zjA (x v : Value) : argsOk "min" ⟨[x],[(Str.ofString "default",v)]⟩ := by unfold argsOk; kernel_rfl
section
variable {prog : Program} {w : World} {A : Around} {s : Shared} {R : Result → Shared → Prop} {I l S : Addr} {its : List Value} {ns : List Int}
theorem goMin (hh : A.handled = none) (hi : IntsAre its ns) (hlen : its.length = ns.length) (hlI : l ≠ I) (hSI : S ≠ I) (hSl : S ≠ l) (kw : List (Str × Value)) {h₁ : Heap}
 (q : ∀ h' tk' t,(∀ b o,b ≠ S → b ≠ I → h₁.get? b = some o → h'.get? b = some o) → ∀ b,(∃ k,0 < k ∧ k ≤ ns.length ∧ b = (ns.drop k).foldl xy ((ns.take k).tail.foldl xy (ns.getD 0 0))) → R (.ok (.ret (.int b t))) { s with heap := h',toks := tk' }) :
 ∀ (r j : Nat) (h : Heap) (tk : Nat) (b : Int) (tb : Tok) (c : Nat),ns.length - j = r → 0 < j → j ≤ ns.length → h.IsListIter I l j → h.IsList l its.toArray → b = (ns.take j).tail.foldl xy (ns.getD 0 0) → (∀ b o,b ≠ S → b ≠ I → h₁.get? b = some o → h.get? b = some o) →
   h.get? S = some { cls := .type "list",dict := none,data := .seq #[.int b tb,.int b tb] c,slots := #[] } →
   codeAny (model prog w) A (.builtin "min.loop" ⟨[.ref I,.none,.ref S],kw⟩) R { s with heap := h,toks := tk } := by
 have nm : (toString "min" ++ toString ".loop" : String) = "min.loop" := by decide
 intro r
 induction r with
 | zero =>
   intro j h tk b tb c hr j0 hj hit hl hb keep hS
   have hin : j = ns.length := by lia
   refine codeAny_builtin PySem.F.entry_min_loop ?_
   rw [Around.under_plainId PySem.F.plain_min_loop _]
   show wpAny _ A.in1 (seqItems? (.ref S) >>= _) _ _ _
   refine wpAny_bind (wpAny_seqItems hS rfl ?_)
   show wpAny _ A.in1 (tryCatch (pyNext (.ref I)) _ >>= _) _ _ _
   refine wpAny_bind (wpAny_tryCatch (wpAny_pyNext_list_end (s := { s with heap := h,toks := tk }) (A := A.in1) hh hit hl (Array.getElem?_eq_none (by simp; lia)) fun h' he => ?_))
   have hS' := he S _ hSI hS
   show wpAny _ A.in1 (updateSeq S (fun _ => #[]) >>= _) _ _ _
   refine wpAny_bind ?_
   refine wpAny_updateSeq hS' rfl (wpAny_bind (wpAny_letGo (wpAny_pure ?_)))
   refine q _ tk tb (fun d o d1 d2 e => (Heap.get?_update_other _ _ (Ne.symm d1)).trans (he d o d2 (keep d o d1 d2 e))) b ⟨j,j0,hj,?_⟩
   rw [hin,List.drop_length,List.foldl_nil,← hin]
   exact hb
 | succ r ih =>
   intro j h tk b tb c hr j0 hj hit hl hb keep hS
   have hlt : j < ns.length := by lia
   have hx : its.toArray[j]? = some (its[j]'(by lia)) := by simp [show j < its.length by lia]
   obtain ⟨t,et⟩ := int_at hi (i := j) (v := its[j]'(by lia)) (List.getElem?_eq_getElem _)
   have eg : ns.getD j 0 = ns[j] := by simp [hlt]
   have step : (ns.take (j + 1)).tail.foldl xy (ns.getD 0 0) = xy b (ns.getD j 0) := by
    rw [List.take_succ_eq_append_getElem hlt,List.tail_append_of_ne_nil (by
     intro z
     rcases List.take_eq_nil_iff.mp z with z | z
     ·lia
     ·rw [z] at hlt; simp at hlt),List.foldl_append,← hb,eg]
    rfl
   refine codeAny_builtin PySem.F.entry_min_loop ?_
   rw [Around.under_plainId PySem.F.plain_min_loop _]
   show wpAny _ A.in1 (seqItems? (.ref S) >>= _) _ _ _
   refine wpAny_bind (wpAny_seqItems hS rfl ?_)
   show wpAny _ A.in1 (tryCatch (pyNext (.ref I)) _ >>= _) _ _ _
   refine wpAny_bind (wpAny_tryCatch (wpAny_pyNext_list_item (s := { s with heap := h,toks := tk }) (A := A.in1) hit hl hx fun h' hit' hs' => ?_))
   rw [et]
   have hs2 : Heap.SameBut I h h' := hs'
   have hS' := hs2.extBut S _ hSI hS
   have hl' : h'.IsList l its.toArray := hl.at fun o e => hs2.extBut l o hlI e
   show wpAny _ A.in1 (tryCatch (holding [Value.int (ns.getD j 0) t,Value.int (ns.getD j 0) t] (richCompare .Lt (Value.int (ns.getD j 0) t) (.int b tb) >>= _)) _ >>= _) _ _ _
   have hcmp := CmpOf.ints_lt (prog := prog) (w := w) (A := A.in1) (P := fun i v => v = .int (if i = 1 then ns.getD j 0 else b) (if i = 1 then t else tb)) (fun i => if i = 1 then ns.getD j 0 else b) (fun i v e => ⟨_,e⟩)
   refine wpAny_bind (wpAny_tryCatch (wpAny_holding (wpAny_bind (hcmp 1 0 _ _ _ _ _ rfl rfl ?_))))
   refine wpAny_bind (wpAny_holding (wpAny_truthy_bool ?_))
   refine wpAny_bind (wpAny_letGo (wpAny_pure ?_))
   have keep' : ∀ d o,d ≠ S → d ≠ I → h₁.get? d = some o → h'.get? d = some o := fun d o d1 d2 e => hs2.extBut d o d2 (keep d o d1 d2 e)
   simp only [if_true,show ¬ (0 : Nat) = 1 from by lia,if_false]
   by_cases hgt : ns.getD j 0 < b
   ·simp only [decide_eq_true hgt,if_true]
    refine wpAny_bind ?_
    refine wpAny_updateSeq hS' rfl (wpAny_bind (wpAny_letGo ?_))
    rw [nm]
    refine wpAny_pure ⟨plainId_quiet PySem.F.plain_min_loop _,ih (j + 1) _ _ (ns.getD j 0) t _ (by lia) (by lia) hlt (hit'.at fun o e => (Heap.get?_update_other _ _ hSI).trans e) (hl'.at fun o e => (Heap.get?_update_other _ _ hSl).trans e) (by rw [step]; simp only [xy]; rw [if_pos hgt])
     (fun d o d1 d2 e => (Heap.get?_update_other _ _ (Ne.symm d1)).trans (keep' d o d1 d2 e)) (Heap.get?_update_self _ hS' rfl)⟩
   ·simp only [decide_eq_false hgt,Bool.false_eq_true,if_false]
    refine wpAny_bind (wpAny_letGo ?_)
    rw [nm]
    exact wpAny_pure ⟨plainId_quiet PySem.F.plain_min_loop _,ih (j + 1) _ _ b tb _ (by lia) (by lia) hlt hit' hl' (by rw [step]; simp only [xy]; rw [if_neg hgt]) keep' hS'⟩
end
noncomputable def vQ : List Int → Option Int
 | [] => none
 | n :: ns => some (ns.foldl xy n)
theorem ziP {ns : List Int} {b : Int} (h : ∃ k,0 < k ∧ k ≤ ns.length ∧ b = (ns.drop k).foldl xy ((ns.take k).tail.foldl xy (ns.getD 0 0))) : vQ ns = some b := by
 obtain ⟨k,h0,hk,rfl⟩ := h
 cases ns with
 | nil => simp at hk; lia
 | cons n r =>
   obtain ⟨m,rfl⟩ : ∃ m,k = m + 1 := ⟨k - 1,by lia⟩
   simp only [vQ,List.drop_succ_cons,List.take_succ_cons,List.tail_cons,List.getD_cons_zero]
   rw [← List.foldl_append,List.take_append_drop]
noncomputable def tMin (ta : TA) : TE := fun σ H Q => ta σ H fun vs H1 => ∃ (a : Addr) (ns : List Int),vs = [.ref a] ∧ H1 a = some (.lst (ns.map V.int)) ∧ Q (optV (vQ ns)) H1
theorem zj2 {X : Cx} {p pos kp np : Pos} {kn : _} {e : Expr} {ta : TA} (hc : X.calm = true) (ha : PA X [e] ta) (hm : X.mg "min" = none) (hg : Gl X "min" := by rfl) (hs : starEach [e] X.env = [(false,eval e X.env)] := by rfl) :
 PE X (.Call (.Name "min" p) [e] [⟨some "default",.Constant .none kn np,kp⟩] pos) (tMin ta) := by
 intro pins s σ H Q I h
 refine wpAny_Call_Name_kw (wb I hg hm boot_min (PyProof.Rows.callWith_kw (thn (ha pos pins s σ H _ I h) fun us s1 ⟨vs,H1,I1,r1,q1⟩ => ?_) (by rw [hs]; rfl) (by rw [hs]; rfl) rfl rfl))
 obtain ⟨a,ns,rfl,hH,q⟩ := q1
 obtain ⟨u,rfl,r2⟩ := wk r1
 cases (show u = .ref a from r2)
 show wpAny _ _ (evalAll [(do let v ← eval (.Constant .none kn np) X.env; standAt pos; pure v)]) _ _ _
 refine wpAny_evalAll_cons (wpAny_bind (wpAny_pure (wpAny_bind (wpAny_standAt (wpAny_pure (wpAny_evalAll_nil ?_))))))
 show wpAny _ _ (call (.builtin "min") [.ref a] [(Str.ofString "default",.none)]) _ _ _
 obtain ⟨z,its,n,rv,hlen,e⟩ := I1.lstM hH
 have hi : IntsAre its ns := wP rv
 have hil : its.length = ns.length := by rw [← hlen,List.length_map]
 have hl : s1.heap.IsList a its.toArray := ⟨_,e,rfl,_,rfl⟩
 have hal := Heap.lt_size e
 have nm : (toString "min" ++ toString ".loop" : String) = "min.loop" := by decide
 refine PyProof.Rows.kmb_tree PySem.F.kind_min PySem.F.plain_min PySem.F.entry_min (zjA _ _) ?_
 show wpAny _ X.A.in1 (Builtin.Builtins.bindParams "min" ["key","default"] 0 ⟨[],[(Str.ofString "default",.none)]⟩ >>= _) _ _ s1
 refine wpAny_bind (wpAny_of_eq (show Builtin.Builtins.bindParams "min" ["key","default"] 0 ⟨[],[(Str.ofString "default",.none)]⟩ = pure [none,some .none] from rfl) ?_)
 refine wpAny_bind (wpAny_pure ?_)
 refine wpAny_bind (wpAny_pyIter_list hl ?_)
 refine wpAny_bind (wpAny_newObj_type ?_)
 rw [nm]
 have hI2 : ((s1.heap.push { cls := .type "list_iterator",data := .fields #[.ref a,.int 0 0] }).push { cls := .type "list",data := .seq ([] : List Value).toArray }).IsListIter s1.heap.objs.size a 0 := ⟨_,Heap.get?_push_of_some _ (Heap.get?_push_size _ rfl),rfl,rfl⟩
 have hz : (s1.heap.push { cls := .type "list_iterator",data := .fields #[.ref a,.int 0 0] }).objs.size = s1.heap.objs.size + 1 := Heap.size_push ..
 have hS2 : ((s1.heap.push { cls := .type "list_iterator",data := .fields #[.ref a,.int 0 0] }).push { cls := .type "list",data := .seq ([] : List Value).toArray }).get? (s1.heap.push { cls := .type "list_iterator",data := .fields #[.ref a,.int 0 0] }).objs.size = some { cls := .type "list",data := .seq #[] } := Heap.get?_push_size _ rfl
 rw [hz] at hS2
 have hl2 : ((s1.heap.push { cls := .type "list_iterator",data := .fields #[.ref a,.int 0 0] }).push { cls := .type "list",data := .seq ([] : List Value).toArray }).IsList a its.toArray := (hl.push _).push _
 have hk2 : ∀ b o,s1.heap.get? b = some o → ((s1.heap.push { cls := .type "list_iterator",data := .fields #[.ref a,.int 0 0] }).push { cls := .type "list",data := .seq ([] : List Value).toArray }).get? b = some o := fun b o e => Heap.get?_push_of_some _ (Heap.get?_push_of_some _ e)
 rw [hz]
 generalize ((s1.heap.push { cls := .type "list_iterator",data := .fields #[.ref a,.int 0 0] }).push { cls := .type "list",data := .seq ([] : List Value).toArray }) = h2 at hI2 hS2 hl2 hk2 ⊢
 have nSI : s1.heap.objs.size + 1 ≠ s1.heap.objs.size := Nat.succ_ne_self _
 have nlI : a ≠ s1.heap.objs.size := Nat.ne_of_lt hal
 have nSl : s1.heap.objs.size + 1 ≠ a := Nat.ne_of_gt (Nat.lt_succ_of_lt hal)
 have old : ∀ b o,s1.heap.get? b = some o → b ≠ s1.heap.objs.size + 1 ∧ b ≠ s1.heap.objs.size := fun b o e => ⟨Nat.ne_of_lt (Nat.lt_succ_of_lt (Heap.lt_size e)),Nat.ne_of_lt (Heap.lt_size e)⟩
 refine wpAny_pure ⟨plainId_quiet PySem.F.plain_min_loop _,?_⟩
 show codeAny _ _ (.builtin "min.loop" ⟨[.ref s1.heap.objs.size,.none,.ref (s1.heap.objs.size + 1)],[(Str.ofString "default",.none)]⟩) _ _
 refine codeAny_builtin PySem.F.entry_min_loop ?_
 rw [Around.under_plainId PySem.F.plain_min_loop _]
 show wpAny _ X.A.in1 (seqItems? (.ref (s1.heap.objs.size + 1)) >>= _) _ _ _
 refine wpAny_bind (wpAny_seqItems hS2 rfl ?_)
 show wpAny _ X.A.in1 (tryCatch (pyNext (.ref s1.heap.objs.size)) _ >>= _) _ _ _
 cases ns with
 | nil =>
   refine wpAny_bind (wpAny_tryCatch (wpAny_pyNext_list_end (s := { s1 with heap := h2 }) (A := X.A.in1) (I1.ok.hd hc) hI2 hl2 (Array.getElem?_eq_none (by simp at hil; simp [hil])) fun h' he => ?_))
   refine wpAny_bind (wpAny_rule (wpAny_pure ?_))
   have k3 : ∀ b o,s1.heap.get? b = some o → h'.get? b = some o := fun b o e => he b o (old b o e).2 (hk2 b o e)
   exact ⟨.non,H1,I1.kept (t' := s1.toks) k3,rfl,q⟩
 | cons n0 nr =>
   have hx : its.toArray[0]? = some (its[0]'(by rw [hil]; simp)) := by simp [hil]
   obtain ⟨t,et⟩ := int_at hi (i := 0) (v := its[0]'(by rw [hil]; simp)) (List.getElem?_eq_getElem _)
   refine wpAny_bind (wpAny_tryCatch (wpAny_pyNext_list_item (s := { s1 with heap := h2 }) (A := X.A.in1) hI2 hl2 hx fun h' hit' hs' => ?_))
   rw [et]
   have hs2 : Heap.SameBut s1.heap.objs.size h2 h' := hs'
   have hS3 := hs2.extBut _ _ nSI hS2
   show wpAny _ X.A.in1 (updateSeq (s1.heap.objs.size + 1) (fun _ => #[_,_]) >>= _) _ _ _
   refine wpAny_bind ?_
   refine wpAny_updateSeq hS3 rfl ?_
   rw [nm]
   refine wpAny_pure ⟨plainId_quiet PySem.F.plain_min_loop _,goMin (s := s1) (h₁ := s1.heap) (A := X.A) (I1.ok.hd hc) hi hil nlI nSI nSl _ (fun h'' tk'' t'' k b hb => ?_) nr.length 1 _ _ n0 t _ (by simp) (by lia) (by simp) (hit'.at fun o e => (Heap.get?_update_other _ _ nSI).trans e)
    ((hl2.at fun o e => hs2.extBut a o nlI e).at fun o e => (Heap.get?_update_other _ _ nSl).trans e) (by simp) (fun b o d1 d2 e => (Heap.get?_update_other _ _ (Ne.symm d1)).trans (hs2.extBut b o d2 (hk2 b o e))) (Heap.get?_update_self _ hS3 rfl)⟩
   have hp := ziP hb
   rw [hp] at q
   exact ⟨.int b,H1,I1.kept (t' := tk'') (fun b o e => k b o (old b o e).1 (old b o e).2 e),⟨t'',rfl⟩,q⟩
@[simp] noncomputable def gMin : D → Out Val
  | .lst ds => match wI ds with
    | some ns => .ok (.pers (match vQ ns with
      | none => .non
      | some b => .int b))
    | none => .bad
  | _ => .bad
theorem zkF {X : Cx} {G₀ H₀ : Hp} {p pos kp np : Pos} {kn : _} {e : Expr} {f : FE} (he : DE X G₀ H₀ e f) (hm : X.mg "min" = none) (hc : X.calm = true := by rfl) (hg : Gl X "min" := by rfl) (hs : starEach [e] X.env = [(false,eval e X.env)] := by rfl) :
 DE X G₀ H₀ (.Call (.Name "min" p) [e] [⟨some "default",.Constant .none kn np,kp⟩] pos) (f1 gMin f) :=
 (zj2 hc (zU he yF hs) hm hg hs).imp fun σ H Q q => by
  obtain ⟨env,G,val,I,e,k⟩ := q
  obtain ⟨x,ex,e⟩ := zk e
  refine xn I ex fun v G' H' g l I' o => ?_
  unfold gMin at e
  split at e
  ·rename_i ds hd
   rw [hd] at o
   obtain ⟨a,vs,rfl,h1,r1⟩ := Opd.lst I' o
   split at e
   ·rename_i ns hn
    cases e
    rw [wH hn] at r1
    rw [r1.ints_of] at h1
    refine ⟨a,ns,rfl,h1,k _ _ _ g l ?_⟩
    cases hx : vQ ns with
    | none => rfl
    | some b => rfl
   ·cases e
  ·cases e
end DL
namespace DL
open PySem PySem.Spec PyProof.Rows L2
noncomputable def ze4 : List D → Option (List Bool)
 | [] => some []
 | .bl b :: ds => (ze4 ds).map (b :: ·)
 | _ :: _ => none
theorem zeg : ∀ {ds : List D} {bs : List Bool},ze4 ds = some bs → ds = bs.map D.bl
 | [],bs,h => by cases h; rfl
 | .bl b :: ds,bs,h => by
   simp only [ze4,Option.map_eq_some_iff] at h
   obtain ⟨cs,h1,rfl⟩ := h
   rw [zeg h1]; rfl
 | .non :: ds,bs,h => by cases h
 | .int _ :: ds,bs,h => by cases h
 | .tup _ :: ds,bs,h => by cases h
 | .lst _ :: ds,bs,h => by cases h
 | .scr _ :: ds,bs,h => by cases h
 | .exc _ _ :: ds,bs,h => by cases h
theorem zgK (bs : List Bool) : ze4 (bs.map D.bl) = some bs := by
 induction bs with
 | nil => rfl
 | cons b bs ih => simp [ze4,ih]
theorem ziw {K : PySem.W.Frag} {G : Hp} : ∀ {bs : List Bool} {vs : List V},RepL K G (bs.map D.bl) vs → vs = bs.map V.bl
 | [],vs,h => h
 | b :: bs,vs,h => by
   obtain ⟨v,us,rfl,h1,h2⟩ := h
   rw [ziw h2,show v = .bl b from h1]; rfl
theorem zkK : ∀ {bs : List Bool} {us : List Value} {i : Nat} {v : Value},Vals (bs.map V.bl) us → us[i]? = some v → v = .bool (bs.getD i false)
 | bs,us,i,v,r,e => by
   have hl := r.length
   have hi : i < us.length := (List.getElem?_eq_some_iff.mp e).1
   have hb : i < bs.length := by rw [List.length_map] at hl; lia
   obtain ⟨u,h1,h2⟩ := r.get (i := i) (x := .bl bs[i]) (by simp [hb])
   rw [e] at h1
   cases h1
   simp only [List.getD,List.getElem?_eq_getElem hb,Option.getD_some]
   exact h2
theorem zgx {X : Cx} (hc : X.calm = true) : wj X (.builtin "any") (fun xs H Q => ∃ (p : Addr) (bs : List Bool),xs = [.ref p] ∧ H p = some (.lst (bs.map V.bl)) ∧ Q (.bl (bs.any id)) H) := by
 intro pins s σ H xs us Q I r h
 obtain ⟨p,bs,rfl,hp,q⟩ := h
 obtain ⟨u,rfl,r1⟩ := wk r
 cases (show u = .ref p from r1)
 obtain ⟨z,its,n,rv,hlen,e⟩ := I.lstM hp
 have hil : its.length = bs.length := by rw [← hlen,List.length_map]
 have hl : s.heap.IsList p its.toArray := ⟨_,e,rfl,_,rfl⟩
 have hpl := Heap.lt_size e
 refine call_any_walkS (wpAny_pyIter_list hl ?_)
 have hne : p ≠ s.heap.objs.size := Nat.ne_of_lt hpl
 have W := (Walks.list (prog := X.prog) (w := X.w) (A := X.A.in1) (by simp [I.ok.hd hc]) s.heap.objs.size p hne its.toArray).toS
 refine ⟨s.heap.objs.size,_,_,_,_,_,_,fun i => bs.getD i false,rfl,W,⟨⟨_,Heap.get?_push_size _ rfl,rfl,rfl⟩,hl.push _⟩,fun i v s' Q' E' hv hq => ?_,fun s' hm => ?_⟩
 ·have e1 : v = .bool (bs.getD i false) := zkK rv (show its[i]? = some v by simpa using hv)
  rw [e1]
  exact wpAny_truthy_bool hq
 ·have hk : ∀ b o,s.heap.get? b = some o → s'.heap.get? b = some o := fun b o eb =>
   hm.heap b o (fun hI => absurd (Heap.lt_size eb) (by rw [List.mem_singleton.mp hI]; exact Nat.lt_irrefl _)) (Heap.get?_push_of_some _ eb)
  rw [Moved.eq_with hm]
  refine ⟨.bl (bs.any id),H,I.kept hk,?_,q⟩
  have : (List.range its.toArray.size).any (fun i => bs.getD i false) = bs.any id := by
   rw [List.size_toArray,hil,Bool.eq_iff_iff,List.any_eq_true,List.any_eq_true]
   constructor
   ·rintro ⟨i,hi,h⟩
    have hi' : i < bs.length := List.mem_range.mp hi
    exact ⟨bs[i],List.getElem_mem _,by simpa [hi'] using h⟩
   ·rintro ⟨b,hb,h⟩
    obtain ⟨i,hi,rfl⟩ := List.mem_iff_getElem.mp hb
    exact ⟨i,List.mem_range.mpr hi,by simpa [hi] using h⟩
  rw [this]
  exact rfl
@[simp] noncomputable def gAny : List D → Out Val
  | [.lst ds] => match ze4 ds with
    | some bs => .ok (.pers (.bl (bs.any id)))
    | none => .bad
  | _ => .bad
theorem zkI {K : PySem.W.Frag} : zai K (fun xs H Q => ∃ (p : Addr) (bs : List Bool),xs = [.ref p] ∧ H p = some (.lst (bs.map V.bl)) ∧ Q (.bl (bs.any id)) H) gAny := by
 intro G₀ H₀ env σ G H vs xs val Q I a e k
 unfold gAny at e
 split at e
 ·rename_i ds hx
  split at e
  ·rename_i bs hn
   cases e
   obtain ⟨v,rfl,o⟩ := t6 a hx
   obtain ⟨p,us,rfl,h1,r1⟩ := Opd.lst I o
   rw [zeg hn] at r1
   rw [ziw r1] at h1
   exact ⟨p,bs,rfl,h1,k _ G H (Grow.refl _ _) I.le rfl⟩
  ·cases e
 ·cases e
end DL
namespace DL
open PySem PySem.Spec PyProof.Rows L2
section
variable {X : Cx} {G₀ H₀ : Hp} {elt iter tg : Expr} {ifs : List Expr} {scope : Scope} {pos : Pos} {fi : FI} {g : D → Ev → Out Ev} {ft : FT} {fe : FE} {cap : List Nat} {own : List Str}
theorem zda {i : Nat} {x : Str} {pos' spos : Pos} (fz : Bool) (hN : X.N.Nodup) (C : CompOk X scope cap own) (hi : DIt X G₀ H₀ tg iter fi)
 (hg : ∀ ex s H,DG (yN X (capN X cap own) scope ex s H) G₀ H₀ tg g) (hgc : Calm g) (ht : ∀ ex s H,DTs (yN X (capN X cap own) scope ex s H) G₀ H₀ ifs ft) (he : ∀ ex s H,DE (yN X (capN X cap own) scope ex s H) G₀ H₀ elt fe)
 (hc : X.calm = true := by rfl) (hs : ∀ x,foldedSetIterable iter X.env x = pure x := by intro _; rfl) (hix : X.N[i]? = some x := by rfl) (hx : Loc X.env.scope x := by first | exact Or.inl rfl | exact Or.inr rfl)
 (hsw : swapsWith (.ListComp elt [⟨tg,iter,ifs,0⟩] scope pos) (some (.Name x pos')) spos.line X.env = pure true := by rfl) (hf : X.fn x = true ∨ X.env.scope.names.lookup x = some .local := by first | exact .inl rfl | exact .inr rfl) :
 DS X G₀ H₀ (.Assign [.Name x pos'] (.ListComp elt [⟨tg,iter,ifs,0⟩] scope pos) spos) (setS i fz (y0 cap own.length fi g ft fe)) := by
 intro pins s σ H D I q
 obtain ⟨env,G,val,D0,e,k⟩ := zbu q
 obtain ⟨ds,e1,e⟩ := zk e
 split at e
 rotate_left
 ·cases e
 rename_i hz
 obtain ⟨out,e2,e⟩ := zk e
 cases e
 rw [exec_Assign_Name_used _ _ _ _ hsw]
 refine wpAny_bind (wpAny_standAt (wpAny_bind ?_))
 show wpAny _ X.A (do let _ ← comprehension (.ListComp elt [⟨tg,iter,ifs,0⟩] scope pos) scope X.env _ (newList []) false (eval iter X.env) (some (assign (.Name x pos') X.env))) _ _ s
 refine wpAny_bind (wpAny_mono (wpAny_comprehension_free (use := some (assign (.Name x pos') X.env)) (Q := fun _ s' => SP X pins D .next s') (cl := yO X.env.cells scope.names []) rfl hs (vX (C.cells I)) C.kind C.locals ?_) (fun _ s' hq => wpAny_pure (wpAny_pure hq)) fun _ _ e => e)
 refine thn (hi pins s σ H (fun J H2 => ∃ G2,Grow G H G2 H2 ∧ Same G2 H2 ∧ JOk X.K J G2 ds) I ⟨env,G,ds,D0,e1,fun J G2 H2 g2 l2 jok => ⟨G2,g2,l2,jok⟩⟩) fun v s1 h1 => thn h1 fun itv s2 h2 => ?_
 obtain ⟨it,fp,tn,J,H2,rfl,I2,T,st2,f2,G2,g2,l2,jok⟩ := h2
 refine zaD (RR := fun acc C => compPost (model X.prog X.w) X.A X.xe (some (assign (.Name x pos') X.env)) (fun _ s' => SP X pins D .next s') acc C) C hc hg hgc ht he I2 (D0.grow g2 l2) T st2 f2 jok hz e2 fun L C' vs G' H' s' hC fD hD gD r gr l hm hI => ?_
 obtain ⟨m,hm⟩ := hm
 have I' : Inv X pins σ H' s' := hI s'.heap (Heap.SameBut.refl _ _)
 have fC : FpOk X pins H' C' := I2.fpOk hC.1 hC.2
 show wpAny _ X.A (assign (.Name x pos') X.env (.ref L)) _ _ s'
 refine wpAny_assign_Name (zbt I' hN hix hx (v := .ref L) rfl (fun s3 I3 ⟨a,sb,ha⟩ => ?_) hf)
 have hne : C' ≠ a := fun z => by
  rcases ha with ha | ha
  ·exact fC.2.1 (z.trans ha)
  ·exact fC.2.2.2.2.1 x a ha z.symm
 refine ⟨m,hm.sameBut sb hne,fun h' sb' => ?_⟩
 have I4 : Inv X pins (σ.set i (some (.ref L))) H' { s3 with heap := h' } := Inv.turnedF (fp := [C']) (t' := s3.toks) I3 (fun b hb => by rw [List.mem_singleton.mp hb]; exact fC) fun b u hb e => sb'.extBut b u (fun z => hb (by simp [z])) e
 exact ⟨_,H',I4,k _ G' H' (g2.trans gr) l ⟨L,vs,rfl,g2.h.free fD,hD,gD,r⟩⟩
end
end DL
namespace DL
open PySem PySem.Spec PyProof.Rows L2
theorem ziH : typeLookup (.type "list_reverseiterator") "__len__" = pure none := by rw [typeLookup_type,builtinLookup_eq_fast]; kernel_rfl
theorem zfs : typeLookup (.type "list_reverseiterator") "__length_hint__" = pure (some (.builtin "list_reverseiterator.__length_hint__")) := by rw [typeLookup_type,builtinLookup_eq_fast]; kernel_rfl
section
variable {prog : Program} {w : World} {A : Around} {E : Value → Shared → Prop} {s : Shared}
theorem zhe {r : Addr} (hT : s.TypeIs (.ref r) "list_reverseiterator") {Q : Bool → Shared → Prop} (h : Q false s) : wpAny (model prog w) A (Builtin.List.listLengthHint (.ref r)) Q E s := by
 unfold Builtin.List.listLengthHint
 refine wpAny_bind (wpAny_specialOf hT ziH ?_)
 refine wpAny_bind (wpAny_specialOf hT zfs ?_)
 generalize hid : ("list_reverseiterator.__length_hint__" : String) = id0
 wp_delta
 rw [show splitId id0 = some ("list_reverseiterator","__length_hint__") from by subst hid; decide +kernel]
 subst hid
 refine wpAny_bind (wpAny_isInstance (T := "list_reverseiterator") (b := true) hT (by rw [isSubtype_type]; kernel_rfl) ?_)
 refine wpAny_ite_split (fun hab => absurd hab (by decide)) (fun _ => ?_)
 refine wpAny_ite_split (fun _ => ?_) (fun hab => absurd (by decide +kernel) hab)
 refine wpAny_ite_split (fun hab => absurd hab (by decide)) (fun _ => ?_)
 exact wpAny_pure h
theorem zes {R : Result → Shared → Prop} {r l S : Addr} {its : Array Value} (hh : A.handled = none) (hn : its.size ≤ sizeLine) (hlr : l ≠ r) (hSr : S ≠ r) (hSl : S ≠ l)
 (hit : s.heap.IsRevIter r l ((its.size : Int) - 1)) (hl : s.heap.IsList l its) (res : Value) (c₀ : Nat) (hS : s.heap.get? S = some { cls := .type "list",data := .seq #[] c₀ })
 (hR : ∀ s' acc c,(∀ b o,b ≠ S → b ≠ r → s.heap.get? b = some o → s'.heap.get? b = some o) → s' = { s with heap := s'.heap,toks := s'.toks } → s'.heap.get? S = some { cls := .type "list",dict := none,data := .seq acc c,slots := #[] } → acc.toList = its.toList.reverse → R (.ok (.ret res)) s') :
 wpAny (model prog w) A.in1 (Builtin.List.listExtendWith (.ref S) (.ref r) res)
  (fun fin s' => match fin with | .done f => R (.ok f) s' | .again c' => c'.quiet = true ∧ codeAny (model prog w) A c' R s') (fun e s' => R (.error e) s') s := by
 have hT : s.TypeIs (.ref r) "list_reverseiterator" := hit.typeIs
 unfold Builtin.List.listExtendWith
 refine wpAny_bind (wpAny_typeOf (T := "list_reverseiterator") hT ?_)
 have a1 : Builtin.List.listSameRef (.ref S) (.ref r) = false := by simp [Builtin.List.listSameRef,hSr]
 have a2 : (Value.type "list_reverseiterator" == Value.type "list") = false := by decide
 have a3 : (Value.type "list_reverseiterator" == Value.type "tuple") = false := by decide
 simp only [a1,a2,a3,Bool.or_false,Bool.false_eq_true,if_false]
 refine wpAny_bind (wpAny_pyIter_revIter hit ?_)
 refine wpAny_bind (wpAny_holding (zhe hT ?_))
 refine wpAny_ite_split (fun hab => absurd hab (by decide +kernel)) (fun _ => ?_)
 have W := (Walks.listRev (prog := prog) (w := w) (A := A.in1) (by simpa using hh) r l hlr its).toS
 refine wpAny_pure ⟨plainId_quiet PySem.F.plain_extend_loop _,codeAny_extend_loopS W hn S (by simp; exact ⟨hSr,hSl⟩) res its.size 0 s #[] c₀ (Nat.sub_zero _) (Nat.zero_le _) ⟨Nat.zero_le _,by simpa using hit,hl⟩ hS (ItemsOf.nil _) fun s' acc c hm hS' hacc => ?_⟩
 refine hR s' acc c (fun b o b1 b2 e => hm.heap b o (by simp; exact ⟨b1,b2⟩) e) (Moved.eq_with hm) hS' ?_
 apply List.ext_getElem?
 intro j
 by_cases hj : j < its.size
 ·have h1 : j < acc.size := by rw [hacc.1]; exact hj
  have := hacc.2 j acc[j] (Array.getElem?_eq_getElem h1)
  rw [List.getElem?_reverse (by simpa using hj)]
  simp only [Array.getElem?_toList,Array.length_toList]
  rw [this,Array.getElem?_eq_getElem h1]
 ·have h1 : ¬ j < acc.size := by rw [hacc.1]; exact hj
  rw [List.getElem?_eq_none (by simp; lia),List.getElem?_eq_none (by simp; lia)]
theorem zhf {Q : Value → Shared → Prop} {r l : Addr} {its : Array Value} (hh : A.handled = none) (hn : its.size ≤ sizeLine) (hlr : l ≠ r) (hit : s.heap.IsRevIter r l ((its.size : Int) - 1)) (hl : s.heap.IsList l its)
 (hQ : ∀ h' tk acc c,(∀ b o,b ≠ r → s.heap.get? b = some o → h'.get? b = some o) → h'.get? s.heap.objs.size = some { cls := .type "list",dict := none,data := .seq acc c,slots := #[] } → acc.toList = its.toList.reverse → Q (.ref s.heap.objs.size) { s with heap := h',toks := tk }) :
 wpAny (model prog w) A (call (.type "list") [.ref r]) Q E s := by
 refine callType_codes (Q₁ := fun obj s₁ => obj = .ref s.heap.objs.size ∧ s₁ = { s with heap := s.heap.push { cls := .type "list",data := .seq #[] } }) PySem.F.called_list (PySem.F.typeCall_list_1 _) PySem.F.entry_list_init
  (code_list_new _ ⟨rfl,rfl⟩) fun obj s₁ e => ?_
 obtain ⟨rfl,rfl⟩ := e
 have hS : (s.heap.push { cls := .type "list",data := .seq #[] }).get? s.heap.objs.size = some { cls := .type "list",data := .seq #[] } := Heap.get?_push_size _ rfl
 have hrl : r < s.heap.objs.size := by obtain ⟨_,e,_⟩ := hit; exact Heap.lt_size e
 have hll : l < s.heap.objs.size := by obtain ⟨_,e,_⟩ := hl; exact Heap.lt_size e
 refine ⟨⟨_,hS,rfl⟩,PySem.F.args_list_init_2 _ _,?_⟩
 show wpAny _ _ (do let was ← Builtin.List.listItems (.ref s.heap.objs.size); Builtin.List.listUpdate (.ref s.heap.objs.size) (fun _ => #[]); letGo was.toList.reverse; Builtin.List.listExtendWith (.ref s.heap.objs.size) (.ref r) .none) _ _ _
 refine wpAny_bind ?_
 unfold Builtin.List.listItems
 refine wpAny_bind (wpAny_seqItems hS rfl (wpAny_pure ?_))
 show wpAny _ _ (updateSeq s.heap.objs.size (fun _ => #[]) >>= fun _ => letGo (#[] : Array Value).toList.reverse >>= fun _ => Builtin.List.listExtendWith (.ref s.heap.objs.size) (.ref r) .none) _ _ _
 refine wpAny_bind (wpAny_updateSeq hS rfl ?_)
 have e2 := Heap.get?_update_self (Obj.mapSeq (fun _ => (#[] : Array Value))) hS rfl
 have up : ∀ b o,b ≠ s.heap.objs.size → s.heap.get? b = some o → ((s.heap.push { cls := .type "list",data := .seq #[] }).update s.heap.objs.size (Obj.mapSeq (fun _ => (#[] : Array Value)))).get? b = some o := fun b o hb e => (Heap.get?_update_other _ _ (Ne.symm hb)).trans (Heap.get?_push_of_some _ e)
 refine wpAny_bind (wpAny_letGo ?_)
 refine zes (A := A.in1) hh hn hlr (Nat.ne_of_gt hrl) (Nat.ne_of_gt hll) (hit.at fun o e => up _ _ (Nat.ne_of_lt hrl) e) (hl.at fun o e => up _ _ (Nat.ne_of_lt hll) e) .none _ e2 fun s' acc c k es hS' ha => ?_
 refine ⟨rfl,?_⟩
 rw [es]
 exact hQ s'.heap s'.toks acc c (fun b o hb e => k b o (Nat.ne_of_lt (Heap.lt_size e)) hb (up b o (Nat.ne_of_lt (Heap.lt_size e)) e)) hS' ha
end
theorem zg0 {xs : List V} {us : List Value} (r : Vals xs us) : Vals xs.reverse us.reverse := by
 induction r with
 | nil => exact .nil
 | cons h t ih => rw [List.reverse_cons,List.reverse_cons]; exact ih.append (.cons h .nil)
noncomputable def zg3 (ta : TA) : TE := fun σ H Q => ta σ H fun vs H1 => ∃ (a : Addr) (xs : List V),vs = [.ref a] ∧ H1 a = some (.lst xs) ∧ ∀ l,H1 l = none → Q (.ref l) (upd H1 l (.lst xs.reverse))
theorem zex {X : Cx} {p p2 pos pos2 : Pos} {e1 : Expr} {ta : TA} (hc : X.calm = true) (ha : PA X [e1] ta) (hml : X.mg "list" = none) (hmz : X.mg "reversed" = none) (hgl : Gl X "list" := by rfl) (hgz : Gl X "reversed" := by rfl)
 (hs : starEach [.Call (.Name "reversed" p2) [e1] [] pos2] X.env = [(false,eval (.Call (.Name "reversed" p2) [e1] [] pos2) X.env)] := by rfl)
 (hs2 : starEach [e1] X.env = [(false,eval e1 X.env)] := by rfl) :
 PE X (.Call (.Name "list" p) [.Call (.Name "reversed" p2) [e1] [] pos2] [] pos) (zg3 ta) := by
 intro pins s σ H Q I h
 refine wpAny_Call_Name_kw (wb I hgl hml boot_list (PyProof.Rows.callWith_type1 ?_ (by rw [hs]; rfl) rfl))
 rw [hs]
 refine Calls.spliced_cons (wpAny_Call_Name_kw (wb I hgz hmz boot_reversed (PyProof.Rows.callWith_type1 (thn (ha pos2 pins s σ H _ I h) fun us s1 ⟨vs,H1,I1,r1,q1⟩ => ?_) hs2 rfl)))
 obtain ⟨a,xs,rfl,ea,q⟩ := q1
 obtain ⟨ua,rfl,ra⟩ := wk r1
 cases (show ua = .ref a from ra)
 obtain ⟨za,ia,na,va,la,ha1⟩ := I1.lstM ea
 have hl1 : s1.heap.IsList a ia.toArray := ⟨_,ha1,rfl,_,rfl⟩
 have alt := Heap.lt_size ha1
 refine call_reversed_list hl1 ?_
 refine Calls.spliced_nil ?_
 have hne : a ≠ s1.heap.objs.size := Nat.ne_of_lt alt
 refine zhf (its := ia.toArray) (I1.ok.hd hc) (by simp; lia) hne ⟨_,Heap.get?_push_size _ rfl,rfl,rfl⟩ (hl1.push _) fun h' tk acc c k3 hS hacc => ?_
 have hz : (s1.heap.push (revObj a ((ia.toArray.size : Int) - 1))).objs.size = s1.heap.objs.size + 1 := Heap.size_push ..
 have hk : ∀ b o,s1.heap.get? b = some o → h'.get? b = some o := fun b o e => k3 b o (Nat.ne_of_lt (Heap.lt_size e)) (Heap.get?_push_of_some _ e)
 have fr : H1 (s1.heap.objs.size + 1) = none := I1.hok.fresh (Nat.le_succ _)
 have hS2 : h'.get? (s1.heap.objs.size + 1) = some { cls := .type "list",dict := none,data := .seq acc c,slots := #[] } := by
  have := hS
  rw [show (Shared.heap { s1 with heap := s1.heap.push (revObj a ((ia.toArray.size : Int) - 1)) }).objs.size = s1.heap.objs.size + 1 from hz] at this
  exact this
 show EP X pins σ Q (.ref (s1.heap.push (revObj a ((ia.toArray.size : Int) - 1))).objs.size) _
 rw [hz]
 refine ⟨.ref (s1.heap.objs.size + 1),upd H1 (s1.heap.objs.size + 1) (.lst xs.reverse),?_,rfl,q _ fr⟩
 show Inv X pins σ _ { s1 with heap := h',toks := tk }
 refine I1.laid (a := s1.heap.objs.size + 1) (o := .lst xs.reverse) (t' := tk) hk (Nat.le_succ _) ⟨by rw [List.length_reverse]; exact za,ia.reverse,c,zg0 va,?_⟩
 have : acc = ia.reverse.toArray := by
  apply Array.ext'
  rw [hacc]
 rw [← this]
 exact hS2
@[simp] noncomputable def zjl : D → Out Val
  | .lst ds => .ok (.fresh ds.reverse)
  | _ => .bad
theorem zeY {X : Cx} {G₀ H₀ : Hp} {p p2 pos pos2 : Pos} {e1 : Expr} {f : FE} (h1 : DE X G₀ H₀ e1 f) (hml : X.mg "list" = none) (hmz : X.mg "reversed" = none) (hc : X.calm = true := by rfl) (hgl : Gl X "list" := by rfl) (hgz : Gl X "reversed" := by rfl)
 (hs : starEach [.Call (.Name "reversed" p2) [e1] [] pos2] X.env = [(false,eval (.Call (.Name "reversed" p2) [e1] [] pos2) X.env)] := by rfl)
 (hs2 : starEach [e1] X.env = [(false,eval e1 X.env)] := by rfl) :
 DE X G₀ H₀ (.Call (.Name "list" p) [.Call (.Name "reversed" p2) [e1] [] pos2] [] pos) (f1 zjl f) :=
 (zex hc (zU h1 yF hs2) hml hmz hgl hgz hs hs2).imp fun σ H Q q => by
  obtain ⟨env,G,val,I,e,k⟩ := q
  obtain ⟨x,ex,e⟩ := zk e
  refine xn I ex fun v G' H' g l I' o => ?_
  unfold zjl at e
  split at e
  ·rename_i ds hd
   cases e
   rw [hd] at o
   obtain ⟨a,xs,rfl,ha,ra⟩ := Opd.lst I' o
   refine ⟨a,xs,rfl,ha,fun p hp => ?_⟩
   have g1 := Grow.laidL (o := .lst xs.reverse) l hp
   exact k _ _ _ (g.trans g1.1) g1.2 ⟨p,xs.reverse,rfl,ut g.h hp,zC,l.free hp,ra.reverse⟩
  ·cases e
end DL
namespace DL
open PySem PySem.Spec PyProof.Rows L2
end DL
namespace My
open PySem PySem.Spec PyProof.Rows L2 DL
theorem wG {α : Type} (xs : List α) (i : Int) (h : 0 ≤ i) : atI xs i = xs[i.toNat]? := by
 unfold atI ixN
 rw [if_pos h]
 split
 ·rfl
 ·rename_i h2
  rw [List.getElem?_eq_none (by lia)]
  rfl
theorem zcu {α : Type} (xs : List α) : atI xs (-1) = xs[xs.length - 1]? := by
 unfold atI ixN
 by_cases h : xs.length = 0
 ·have : xs = [] := List.eq_nil_of_length_eq_zero h
  subst this
  simp
 ·rw [if_neg (by lia),if_pos (by lia)]
  show xs[(-1 + (xs.length : Int)).toNat]? = _
  congr 1
  lia
theorem ve {i j : Int} (h1 : -(2 ^ 64) < i) (h2 : i < 2 ^ 64) : cMul i j = true := by
 unfold cMul uU
 rw [decide_eq_true h1,decide_eq_true h2]
 rfl
theorem zcl {i j : Int} (h1 : -(2 ^ 64) < j) (h2 : j < 2 ^ 64) : cMul i j = true := by
 unfold cMul uU
 rw [decide_eq_true h1,decide_eq_true h2]
 simp
theorem xF {i j : Int} (h1 : 0 < j) (h2 : j < 2 ^ 250) : cDiv i j = true := by
 unfold cDiv
 rw [decide_eq_true h1,decide_eq_true h2]
 rfl
@[simp] theorem cPow_10 (j : Int) (h1 : 0 ≤ j) (h2 : j ≤ 1000000) : cPow 10 j = true := by
  unfold cPow
  rw [decide_eq_true h1,decide_eq_true h2]
  decide
@[simp] theorem ug (i j : Int) : eqD (.int i) (.int j) = (i == j) := rfl
@[simp] theorem eqD_nn : eqD .non .non = true := rfl
@[simp] theorem eqD_ni (i : Int) : eqD .non (.int i) = false := rfl
@[simp] theorem eqD_in (i : Int) : eqD (.int i) .non = false := rfl
@[simp] theorem eqD_bb (a b : Bool) : eqD (.bl a) (.bl b) = (a == b) := rfl
@[simp] theorem shal_int (n : Nat) (i : Int) : shal n (.int i) = true := by cases n <;> rfl
@[simp] theorem shal_non (n : Nat) : shal n .non = true := by cases n <;> rfl
@[simp] theorem shal_bl (n : Nat) (b : Bool) : shal n (.bl b) = true := by cases n <;> rfl
@[simp] theorem shal_tup (n : Nat) (ds : List D) : shal (n + 1) (.tup ds) = ds.all (shal n) := rfl
@[simp] theorem zg6 (n : Nat) (ds : List D) : shal (n + 1) (.lst ds) = ds.all (shal n) := rfl
theorem zc9 (xs ys : List D) : eqD (.tup xs) (.tup ys) = eqDL xs ys := by simp only [eqD,eqDL,toPy,PyData.eqv]
theorem tF (xs ys : List D) : eqD (.lst xs) (.lst ys) = eqDL xs ys := by simp only [eqD,eqDL,toPy,PyData.eqv]
theorem vT : eqDL [] [] = true := by simp only [eqDL,xm,PyData.eqvAll]
theorem ye (x y : D) (xs ys : List D) : eqDL (x :: xs) (y :: ys) = (eqD x y && eqDL xs ys) := by simp only [eqDL,eqD,xm,PyData.eqvAll]
theorem zjo (y : D) (ys : List D) : eqDL [] (y :: ys) = false := by simp only [eqDL,xm,PyData.eqvAll]
theorem zjp (y : D) (ys : List D) : eqDL (y :: ys) [] = false := by simp only [eqDL,xm,PyData.eqvAll]
theorem vU {α : Type} [DecidableEq α] (f : α → D) (h : ∀ x y,eqD (f x) (f y) = decide (x = y)) : ∀ xs ys : List α,eqDL (xs.map f) (ys.map f) = decide (xs = ys)
 | [],[] => by simp [vT]
 | [],y :: ys => by simp [zjo]
 | x :: xs,[] => by simp [zjp]
 | x :: xs,y :: ys => by
   rw [List.map_cons,List.map_cons,ye,h,vU f h xs ys]
   by_cases h1 : x = y <;> by_cases h2 : xs = ys <;> simp [h1,h2]
theorem uQ {g : D → Ev → Out Ev} {fb : FS} (P : Nat → Ev → Prop) : ∀ (ds : List D) (i : Nat) (env : Ev),P i env →
 (∀ (j : Nat) (d : D) (env : Ev),i ≤ j → ds[j - i]? = some d → P j env → ∃ env1 env2,g d env = .ok env1 ∧ fb env1 = .ok (.next env2) ∧ P (j + 1) env2) →
 ∃ env',forD g fb ds env = .ok (.next env') ∧ P (i + ds.length) env'
 | [],i,env,h,_ => ⟨env,rfl,h⟩
 | d :: ds,i,env,h,step => by
   obtain ⟨env1,env2,e1,e2,h2⟩ := step i d env (Nat.le_refl _) (by simp) h
   obtain ⟨env',e3,h3⟩ := uQ P ds (i + 1) env2 h2 fun j d' env hj hd hp => step j d' env (by lia) (by
    have : j - i = (j - (i + 1)) + 1 := by lia
    rw [this]; simpa using hd) hp
   refine ⟨env',?_,?_⟩
   ·simp only [forD,e1,zj,e2]
    exact e3
   ·have : i + (d :: ds).length = i + 1 + ds.length := by simp; lia
    rw [this]; exact h3
theorem zcG {lo : Int} {n j : Nat} {d : D} (h : (rngD lo n)[j]? = some d) : j < n ∧ d = .int (lo + j) := by
 have hj : j < n := by
  have := (List.getElem?_eq_some_iff.mp h).1
  simpa [rngD] using this
 refine ⟨hj,?_⟩
 simp [rngD,hj] at h
 exact h.symm
@[simp] theorem zcF (lo : Int) (n : Nat) : (rngD lo n).length = n := by simp [rngD]
theorem yB {α : Type} {g : D → Ev → Out Ev} {ft : FT} {fe : FE} (P : Ev → Prop) (f : α → D) (h : α → Option D) : ∀ (xs : List α) (env : Ev),P env →
 (∀ x env,x ∈ xs → P env → ∃ env1,g (f x) env = .ok env1 ∧ P env1 ∧ ((h x = none ∧ ft env1 = .ok false) ∨ ∃ y v,h x = some y ∧ ft env1 = .ok true ∧ fe env1 = .ok v ∧ v.hold = .ok y)) →
 compD g ft fe (xs.map f) env = .ok (xs.filterMap h)
 | [],env,_,_ => rfl
 | x :: xs,env,hp,step => by
   obtain ⟨env1,e1,p1,r⟩ := step x env (by simp) hp
   have ih := yB P f h xs env1 p1 fun x env hx => step x env (by simp [hx])
   rcases r with ⟨h1,h2⟩ | ⟨y,v,h1,h2,h3,h4⟩
   ·simp only [List.map_cons,compD,e1,zj,h2,List.filterMap_cons,h1]
    exact ih
   ·simp only [List.map_cons,compD,e1,zj,h2,List.filterMap_cons,h1,if_true,h3,h4,ih]
noncomputable def zt (l : Int × List Int) : D := .tup [.int l.1,.lst (l.2.map .int)]
theorem zc8 (p q : Int × Int) : eqD (zd p) (zd q) = decide (p = q) := by
 unfold zd
 rw [zc9,ye,ye,vT,ug,ug]
 obtain ⟨a,b⟩ := p
 obtain ⟨c,d⟩ := q
 by_cases h1 : a = c <;> by_cases h2 : b = d <;> simp [h1,h2]
theorem zeh (p : Int × Int) : ∀ ps : List (Int × Int),(ps.map zd).any (fun z => eqD z (zd p)) = decide (p ∈ ps)
 | [] => by simp
 | q :: ps => by
   rw [List.map_cons,List.any_cons,zeh p ps,zc8]
   by_cases h1 : q = p
   ·simp [h1]
   ·have : ¬ p = q := fun h => h1 h.symm
    simp [h1,this]
theorem zby (n : Nat) (p : Int × Int) : shal (n + 1) (zd p) = true := by simp [zd]
theorem zhK (l : List D) (i : Int) (n : Nat) (hi : i = n) : cutD l (some i) none = l.drop n := by
 subst hi
 show (l.drop (if (n : Int) < 0 then ((n : Int) + (l.length : Int)).toNat else min (n : Int).toNat l.length)).take (l.length - (if (n : Int) < 0 then ((n : Int) + (l.length : Int)).toNat else min (n : Int).toNat l.length)) = l.drop n
 rw [if_neg (by lia),Int.toNat_natCast,List.take_of_length_le (by rw [List.length_drop]; exact Nat.le_refl _)]
 by_cases h : n ≤ l.length
 ·rw [Nat.min_eq_left h]
 ·rw [Nat.min_eq_right (by lia),List.drop_of_length_le (Nat.le_refl _),List.drop_of_length_le (by lia)]
structure Frm where
 w : Int
 h : Int
 s : Int
 r : Int
 u : Int
noncomputable def frmD (f : Frm) : D := .tup [.int f.w,.int f.h,.int f.s,.int f.r,.int f.u]
structure FrmOk (f : Frm) : Prop where
 w1 : 1 ≤ f.w
 w2 : f.w ≤ 10 ^ 9
 h1 : 1 ≤ f.h
 h2 : f.h ≤ 10 ^ 18
 s1 : -3 ≤ f.s
 s2 : f.s ≤ 3
 r1 : -(10 ^ 30) ≤ f.r
 r2 : f.r ≤ 10 ^ 30
 u1 : -(10 ^ 30) ≤ f.u
 u2 : f.u ≤ 10 ^ 30
noncomputable def putP (f : Frm) (p : Int × Int) : Int × Int := (f.w * p.1 + f.r,f.h * p.2 + f.s * p.1 + f.u)
noncomputable def boardV (ps : List (Int × Int)) : List (Int × List Int) := (yG (ps.map (·.1)).eraseDups).map fun x => (x,yG ((ps.filter fun p => p.1 == x).map (·.2)))
theorem vS : ∀ (n : Nat) (l : List Int),l.length ≤ n → l.eraseDups.length ≤ l.length
 | 0,l,h => by
   have : l = [] := List.eq_nil_of_length_eq_zero (by lia)
   subst this; simp
 | n + 1,[],h => by simp
 | n + 1,a :: l,h => by
   rw [List.eraseDups_cons]
   have h1 : (l.filter fun b => !b == a).length ≤ l.length := List.length_filter_le _ _
   have h2 := vS n (l.filter fun b => !b == a) (by simp at h; lia)
   simp only [List.length_cons]
   lia
theorem wF (ps : List (Int × Int)) : (boardV ps).length ≤ ps.length := by
 unfold boardV
 rw [List.length_map,(zS _).length_eq]
 have := vS _ (ps.map (·.1)) (Nat.le_refl _)
 simpa using this
theorem zhT (ps : List (Int × Int)) : ∀ l ∈ boardV ps,l.2.length ≤ ps.length := by
 intro l hl
 unfold boardV at hl
 obtain ⟨x,_,rfl⟩ := List.mem_map.mp hl
 show (yG ((ps.filter fun p => p.1 == x).map (·.2))).length ≤ _
 rw [(zS _).length_eq,List.length_map]
 exact List.length_filter_le _ _
noncomputable def vP : FS :=
 seqS (ifS (fTrB (f2 gLt (fVar 1) (fB gLen (zh (fVar 0) (fNil)))))
 (retS (f2 gIx (fVar 0) (fVar 1)))
 (nxtS))
 (retS (fC (.int 0)))
noncomputable def yI : List D → Out Val
 | [.scr ns,.int k] => if 0 ≤ k then .ok (.pers (.int (ns.getD k.toNat 0))) else .bad
 | _ => .bad
theorem zbN : ∀ ds v,ds.length = 2 → yI ds = .ok v → runD 2 vP ds = .ok v := by
 intro ds v hlen h
 clear hlen
 unfold yI at h
 split at h
 ·rename_i ns k
  split at h
  ·rename_i hk
   cases h
   by_cases hl : k < (ns.length : Int)
   ·have hn : k.toNat < ns.length := by lia
    simp [vP,wG _ _ hk,hl,List.getElem?_eq_getElem hn]
   ·have hn : ns.length ≤ k.toNat := by lia
    simp [vP,wG _ _ hk,hl,List.getElem?_eq_none hn]
  ·cases h
 ·cases h
noncomputable def zba : FS :=
 seqS (setS 2 true (fC (.int 0)))
 (seqS (ifS (fTrB (f2 gLt (f2 gAdd (fC (.int 1)) (f2 gMod (f2 gDiv (fVar 1) (fC (.int 8))) (fC (.int 62)))) (fB gLen (zh (fVar 0) (fNil)))))
 (setS 2 true (f2 gDiv (f2 gIx (fVar 0) (f2 gAdd (fC (.int 1)) (f2 gMod (f2 gDiv (fVar 1) (fC (.int 8))) (fC (.int 62))))) (f2 gPow (fC (.int 10)) (fC (.int 64)))))
 (nxtS))
 (seqS (forS (tB (zh (f2 gMod (fVar 1) (fC (.int 8))) (fNil))) (gN 3)
 (setS 2 true (f2 gDiv (fVar 2) (fC (.int 2147483587)))))
 (retS (fVar 2))))
noncomputable def divs : Nat → Int → Int
 | 0,c => c
 | n + 1,c => divs n (c / 2147483587)
noncomputable def vY (ns : List Int) (k : Int) : Int := divs (k % 8).toNat (if 1 + k / 8 % 62 < (ns.length : Int) then ns.getD (1 + k / 8 % 62).toNat 0 / 10 ^ 64 else 0)
theorem zco {a b s : Slot} : ∀ (xs : List D) (c : Int),(∀ d ∈ xs,∃ i,d = .int i) →
 ∃ s',forD (gN 3) (setS 2 true (f2 gDiv (fVar 2) (fC (.int 2147483587)))) xs [a,b,.pers (.int c),s] = .ok (.next [a,b,.pers (.int (divs xs.length c)),s']) := by
 intro xs
 induction xs generalizing s with
 | nil => intro c _; exact ⟨s,rfl⟩
 | cons d xs ih =>
   intro c h
   obtain ⟨i,rfl⟩ := h d (by simp)
   obtain ⟨s',e⟩ := ih (s := .pers (.int i)) (c / 2147483587) fun d hd => h d (by simp [hd])
   refine ⟨s',?_⟩
   have hc : cDiv c 2147483587 = true := xF (by decide) (by decide)
   simp [forD,hc,divs]
   simpa using e
noncomputable def xY : List D → Out Val
 | [.scr ns,.int k] => if 0 ≤ k then .ok (.pers (.int (vY ns k))) else .bad
 | _ => .bad
theorem zeF : ∀ ds v,ds.length = 2 → xY ds = .ok v → runD 4 zba ds = .ok v := by
 intro ds v hlen h
 clear hlen
 unfold xY at h
 split at h
 ·rename_i ns k
  split at h
  ·rename_i hk
   cases h
   have h8 : cDiv k 8 = true := xF (by decide) (by decide)
   have hr : (-1000000 : Int) ≤ k % 8 ∧ k % 8 ≤ 1000000 := by lia
   have hp : ∀ (i : Int),cDiv i 10000000000000000000000000000000000000000000000000000000000000000 = true := fun i => xF (by decide) (by decide)
   have all : ∀ d ∈ rngD 0 (k % 8).toNat,∃ i,d = D.int i := by
    intro d hd
    simp only [rngD,List.mem_map] at hd
    obtain ⟨i,_,rfl⟩ := hd
    exact ⟨_,rfl⟩
   unfold vY
   by_cases hl : 1 + k / 8 % 62 < (ns.length : Int)
   ·have hn : (1 + k / 8 % 62).toNat < ns.length := by lia
    obtain ⟨s',e⟩ := zco (a := .pers (.scr ns)) (b := .pers (.int k)) (s := .un) (rngD 0 (k % 8).toNat) (ns[(1 + k / 8 % 62).toNat] / 10 ^ 64) all
    have e' := e
    simp at e'
    simp [zba,h8,hl,wG _ _ (show 0 ≤ 1 + k / 8 % 62 by lia),List.getElem?_eq_getElem hn,hp,hr,e']
   ·obtain ⟨s',e⟩ := zco (a := .pers (.scr ns)) (b := .pers (.int k)) (s := .un) (rngD 0 (k % 8).toNat) 0 all
    have e' := e
    simp at e'
    simp [zba,h8,hl,hr,e']
  ·cases h
 ·cases h
noncomputable def zc2 : FS :=
 seqS (setS 2 true (fC (.int 0)))
 (seqS (ifS (fTrB (f2 gGt (fB gLen (zh (fVar 0) (fNil))) (fC (.int 0))))
 (setS 2 true (f2 gIx (fVar 0) (fC (.int 0))))
 (nxtS))
 (seqS (ifS (fAnd (fTrB (f2 gEq (f2 gMod (f2 gDiv (fVar 2) (f2 gPow (fC (.int 10)) (fC (.int 6)))) (fC (.int 2))) (fC (.int 1)))) (fTrB (f2 gNe (zz xY (zh (fVar 0) (zh (fVar 1) (fNil)))) (fC (.int 0)))))
 (retS (f2 gMod (zz xY (zh (fVar 0) (zh (fVar 1) (fNil)))) (fC (.int 2147483587))))
 (nxtS))
 (seqS (ifS (fTrB (f2 gGt (fB gLen (zh (fVar 0) (fNil))) (fC (.int 0))))
 (setS 2 true (f2 gIx (fVar 0) (f2 gMod (fVar 1) (fB zcX (zh (fC (.int 63)) (zh (fB gLen (zh (fVar 0) (fNil))) (fNil)))))))
 (nxtS))
 (seqS (setS 3 true (f2 gAdd (f2 gMod (fVar 2) (f2 gPow (fC (.int 10)) (fC (.int 18)))) (f2 gMul (fC (.int 48271)) (f2 gAdd (fVar 1) (fC (.int 1))))))
 (seqS (setS 3 true (f2 gAdd (f2 gMod (f2 gMul (fVar 3) (fVar 3)) (fC (.int 2147483629))) (f2 gMul (fC (.int 69621)) (fVar 1))))
 (retS (f2 gMod (f2 gMul (fVar 3) (fVar 3)) (fC (.int 2147483587)))))))))
noncomputable def wE (ns : List Int) : Int := if 0 < ns.length then ns.getD 0 0 else 0
noncomputable def tR (ns : List Int) (k : Int) : Int := if 0 < ns.length then ns.getD (k % (min 63 (ns.length : Int))).toNat 0 else 0
noncomputable def mix1 (ns : List Int) (k : Int) : Int := tR ns k % 10 ^ 18 + 48271 * (k + 1)
noncomputable def mix2 (ns : List Int) (k : Int) : Int := mix1 ns k * mix1 ns k % 2147483629 + 69621 * k
noncomputable def zq (ns : List Int) (k : Int) : Int :=
 if wE ns / 10 ^ 6 % 2 = 1 ∧ vY ns k ≠ 0 then vY ns k % 2147483587 else mix2 ns k * mix2 ns k % 2147483587
theorem zdU (ns : List Int) (k : Int) : 0 ≤ zq ns k := by
 unfold zq
 split
 ·exact Int.emod_nonneg _ (by decide)
 ·exact Int.emod_nonneg _ (by decide)
noncomputable def zV : List D → Out Val
 | [.scr ns,.int k] => if 0 ≤ k ∧ k ≤ 1000000 then .ok (.pers (.int (zq ns k))) else .bad
 | _ => .bad
theorem zeC : ∀ ds v,ds.length = 2 → zV ds = .ok v → runD 4 zc2 ds = .ok v := by
 intro ds v hlen h
 clear hlen
 unfold zV at h
 split at h
 ·rename_i ns k
  split at h
  ·rename_i hk
   cases h
   have hk0 := hk.1
   have d6 : ∀ i : Int,cDiv i 1000000 = true := fun i => xF (by decide) (by decide)
   have m1 : cMul 48271 (k + 1) = true := ve (by decide) (by decide)
   have m2 : cMul 69621 k = true := ve (by decide) (by decide)
   have hx := Int.emod_nonneg (tR ns k) (show (10 : Int) ^ 18 ≠ 0 by decide)
   have hy := Int.emod_lt_of_pos (tR ns k) (show (0 : Int) < 10 ^ 18 by decide)
   have e1 : 0 ≤ mix1 ns k ∧ mix1 ns k < 2 ^ 64 := by
    unfold mix1
    lia
   have e2 : 0 ≤ mix2 ns k ∧ mix2 ns k < 2 ^ 64 := by
    have h1 := Int.emod_nonneg (mix1 ns k * mix1 ns k) (show (2147483629 : Int) ≠ 0 by decide)
    have h2 := Int.emod_lt_of_pos (mix1 ns k * mix1 ns k) (show (0 : Int) < 2147483629 by decide)
    unfold mix2
    lia
   have m3 : cMul (mix1 ns k) (mix1 ns k) = true := ve (by lia) e1.2
   have m4 : cMul (mix2 ns k) (mix2 ns k) = true := ve (by lia) e2.2
   have u1 : tR ns k % 1000000000000000000 + 48271 * (k + 1) = mix1 ns k := by unfold mix1; rfl
   have u2 : mix1 ns k * mix1 ns k % 2147483629 + 69621 * k = mix2 ns k := rfl
   have st : ∀ {env : Ev} {A B : FS} {c : FT} {b : Bool},c env = .ok b → ifS c A B env = if b = true then A env else B env := fun {env A B c b} q => by simp only [ifS,q,zj]
   have tl : ∀ (c : Int) (s : Slot),fTrB (f2 gGt (fB gLen (zh (fVar 0) (fNil))) (fC (.int 0))) [.pers (.scr ns),.pers (.int k),.pers (.int c),s] = .ok (decide (0 < (ns.length : Int))) := fun c s => by simp
   have s2 : ifS (fTrB (f2 gGt (fB gLen (zh (fVar 0) (fNil))) (fC (.int 0)))) (setS 2 true (f2 gIx (fVar 0) (fC (.int 0)))) (nxtS) [.pers (.scr ns),.pers (.int k),.pers (.int 0),.un] = .ok (.next [.pers (.scr ns),.pers (.int k),.pers (.int (wE ns)),.un]) := by
    rw [st (tl _ _)]
    by_cases hn : 0 < ns.length
    ·have a0 : atI ns 0 = some (wE ns) := by
      rw [wG _ _ (by decide)]
      show ns[0]? = _
      unfold wE
      rw [if_pos hn,List.getD_eq_getElem?_getD,List.getElem?_eq_getElem hn]
      rfl
     rw [decide_eq_true (by lia : (0 : Int) < ns.length),if_pos rfl]
     have : f2 gIx (fVar 0) (fC (.int 0)) [.pers (.scr ns),.pers (.int k),.pers (.int 0),.un] = .ok (.pers (.int (wE ns))) := by
      show gIx (.scr ns) (.int 0) = _
      simp only [gIx,a0]
     simp only [setS,this,zj]
     rfl
    ·rw [decide_eq_false (by lia : ¬ (0 : Int) < ns.length),if_neg Bool.false_ne_true]
     unfold wE
     rw [if_neg hn]
     rfl
   have s4 : ifS (fTrB (f2 gGt (fB gLen (zh (fVar 0) (fNil))) (fC (.int 0)))) (setS 2 true (f2 gIx (fVar 0) (f2 gMod (fVar 1) (fB zcX (zh (fC (.int 63)) (zh (fB gLen (zh (fVar 0) (fNil))) (fNil))))))) (nxtS) [.pers (.scr ns),.pers (.int k),.pers (.int (wE ns)),.un] = .ok (.next [.pers (.scr ns),.pers (.int k),.pers (.int (tR ns k)),.un]) := by
    rw [st (tl _ _)]
    by_cases hn : 0 < ns.length
    ·have hmin : (if (ns.length : Int) < 63 then (ns.length : Int) else 63) = min 63 (ns.length : Int) := by
      rw [Int.min_def]; split <;> split <;> lia
     have hmp : 0 < min 63 (ns.length : Int) := by lia
     have hq0 : 0 ≤ k % min 63 (ns.length : Int) := Int.emod_nonneg _ (by lia)
     have hq1 : k % min 63 (ns.length : Int) < min 63 (ns.length : Int) := Int.emod_lt_of_pos _ hmp
     have hq2 : (k % min 63 (ns.length : Int)).toNat < ns.length := by lia
     have ak : atI ns (k % min 63 (ns.length : Int)) = some (tR ns k) := by
      rw [wG _ _ hq0]
      unfold tR
      rw [if_pos hn,List.getD_eq_getElem?_getD,List.getElem?_eq_getElem hq2]
      rfl
     rw [decide_eq_true (by lia : (0 : Int) < ns.length),if_pos rfl]
     simp [hmin,hmp,ak]
    ·rw [decide_eq_false (by lia : ¬ (0 : Int) < ns.length),if_neg Bool.false_ne_true]
     unfold wE tR
     rw [if_neg hn,if_neg hn]
     rfl
   have hbl : zz xY (zh (fVar 0) (zh (fVar 1) (fNil))) [.pers (.scr ns),.pers (.int k),.pers (.int (wE ns)),.un] = .ok (.pers (.int (vY ns k))) := by simp [xY,hk0]
   have t3 : fAnd (fTrB (f2 gEq (f2 gMod (f2 gDiv (fVar 2) (f2 gPow (fC (.int 10)) (fC (.int 6)))) (fC (.int 2))) (fC (.int 1)))) (fTrB (f2 gNe (zz xY (zh (fVar 0) (zh (fVar 1) (fNil)))) (fC (.int 0)))) [.pers (.scr ns),.pers (.int k),.pers (.int (wE ns)),.un] = .ok (decide (wE ns / 10 ^ 6 % 2 = 1 ∧ vY ns k ≠ 0)) := by
    have c1 : fTrB (f2 gEq (f2 gMod (f2 gDiv (fVar 2) (f2 gPow (fC (.int 10)) (fC (.int 6)))) (fC (.int 2))) (fC (.int 1))) [.pers (.scr ns),.pers (.int k),.pers (.int (wE ns)),.un] = .ok (decide (wE ns / 10 ^ 6 % 2 = 1)) := by
     simp [d6]
     rfl
    have c2 : fTrB (f2 gNe (zz xY (zh (fVar 0) (zh (fVar 1) (fNil)))) (fC (.int 0))) [.pers (.scr ns),.pers (.int k),.pers (.int (wE ns)),.un] = .ok (decide (vY ns k ≠ 0)) := by
     simp only [fTrB,f2,hbl,zj,fC,Val.d]
     by_cases z : vY ns k = 0 <;> simp [z]
    simp only [fAnd,c1,c2,zj]
    by_cases z : wE ns / 10 ^ 6 % 2 = 1
    ·rw [decide_eq_true z,if_pos rfl]
     exact congrArg Out.ok (decide_eq_decide.mpr ⟨fun q => ⟨z,q⟩,fun q => q.2⟩)
    ·rw [decide_eq_false z,if_neg Bool.false_ne_true,decide_eq_false (fun q => z q.1)]
   have sn : ∀ {A B : FS} {env env' : Ev},A env = .ok (.next env') → seqS A B env = B env' := fun {A B env env'} q => by simp only [seqS,q,zj]
   unfold zc2 zq
   show (((seqS _ _ : FS) [.pers (.scr ns),.pers (.int k),.un,.un]).bind _) = _
   rw [sn (env' := [.pers (.scr ns),.pers (.int k),.pers (.int 0),.un]) rfl,sn s2]
   by_cases hc : wE ns / 10 ^ 6 % 2 = 1 ∧ vY ns k ≠ 0
   ·rw [decide_eq_true hc] at t3
    rw [if_pos hc,seqS,st t3,if_pos rfl]
    simp only [retS,f2,hbl,zj,fC,Val.d]
    rfl
   ·rw [decide_eq_false hc] at t3
    rw [if_neg hc,sn (env' := [.pers (.scr ns),.pers (.int k),.pers (.int (wE ns)),.un]) (by
     rw [st t3,if_neg Bool.false_ne_true]
     rfl),sn s4]
    simp [m1,m2,u1,m3,u2,m4]
  ·cases h
 ·cases h
noncomputable def zc4 : FS :=
 seqS (setS 1 true (f2 gIx (fLst (zy (fC (.int 1)) (zy (f2 gAdd (fC (.int 1)) (f2 gMod (zz yI (zh (fVar 0) (zh (fC (.int 0)) (fNil)))) (f2 gPow (fC (.int 10)) (fC (.int 9))))) (hNil)))) (f2 gMod (zz zV (zh (fVar 0) (zh (fC (.int 14)) (fNil)))) (fC (.int 2)))))
 (seqS (setS 2 true (f2 gIx (fLst (zy (fC (.int 1)) (zy (f2 gAdd (fC (.int 1)) (f2 gMod (zz yI (zh (fVar 0) (zh (fC (.int 1)) (fNil)))) (f2 gPow (fC (.int 10)) (fC (.int 18))))) (hNil)))) (f2 gMod (zz zV (zh (fVar 0) (zh (fC (.int 15)) (fNil)))) (fC (.int 2)))))
 (seqS (setS 3 true (f2 gIx (fLst (zy (fC (.int 20)) (zy (f2 gPow (fC (.int 10)) (fC (.int 30))) (hNil)))) (f2 gMod (zz zV (zh (fVar 0) (zh (fC (.int 16)) (fNil)))) (fC (.int 2)))))
 (seqS (setS 4 true (f2 gSub (f2 gMod (zz zV (zh (fVar 0) (zh (fC (.int 17)) (fNil)))) (fC (.int 7))) (fC (.int 3))))
 (seqS (setS 5 true (f2 gSub (f2 gMod (zz yI (zh (fVar 0) (zh (fC (.int 2)) (fNil)))) (fVar 3)) (f2 gDiv (fVar 3) (fC (.int 2)))))
 (retS (fTup (zy (fVar 1) (zy (fVar 2) (zy (fVar 4) (zy (fVar 5) (zy (f2 gSub (f2 gMod (zz yI (zh (fVar 0) (zh (fC (.int 3)) (fNil)))) (fVar 3)) (f2 gDiv (fVar 3) (fC (.int 2)))) (hNil))))))))))))
noncomputable def farV (ns : List Int) : Int := if zq ns 16 % 2 = 0 then 20 else 10 ^ 30
noncomputable def frmV (ns : List Int) : Frm where
 w := if zq ns 14 % 2 = 0 then 1 else 1 + ns.getD 0 0 % 10 ^ 9
 h := if zq ns 15 % 2 = 0 then 1 else 1 + ns.getD 1 0 % 10 ^ 18
 s := zq ns 17 % 7 - 3
 r := ns.getD 2 0 % farV ns - farV ns / 2
 u := ns.getD 3 0 % farV ns - farV ns / 2
theorem zir (ns : List Int) : 20 ≤ farV ns ∧ farV ns ≤ 10 ^ 30 := by
 unfold farV
 split <;> decide
theorem ziq (ns : List Int) : FrmOk (frmV ns) := by
 have hf := zir ns
 have a1 := Int.emod_nonneg (ns.getD 2 0) (show farV ns ≠ 0 by lia)
 have a2 := Int.emod_lt_of_pos (ns.getD 2 0) (show 0 < farV ns by lia)
 have b1 := Int.emod_nonneg (ns.getD 3 0) (show farV ns ≠ 0 by lia)
 have b2 := Int.emod_lt_of_pos (ns.getD 3 0) (show 0 < farV ns by lia)
 constructor <;> simp only [frmV]
 ·split <;> lia
 ·split <;> lia
 ·split <;> lia
 ·split <;> lia
 ·lia
 ·lia
 ·lia
 ·lia
 ·lia
 ·lia
noncomputable def zaZ : List D → Out Val
 | [.scr ns] => .ok (.pers (frmD (frmV ns)))
 | _ => .bad
theorem zjy (a b : D) (m : Int) : atI [a,b] (m % 2) = some (if m % 2 = 0 then a else b) := by
 rw [wG _ _ (by lia)]
 have : m % 2 = 0 ∨ m % 2 = 1 := by lia
 rcases this with h | h <;> rw [h] <;> rfl
theorem zeD : ∀ ds v,ds.length = 1 → zaZ ds = .ok v → runD 6 zc4 ds = .ok v := by
 intro ds v hlen h
 clear hlen
 unfold zaZ at h
 split at h
 ·rename_i ns
  cases h
  have hf := zir ns
  have d2 : cDiv (farV ns) 2 = true := xF (by decide) (by decide)
  have hp : 0 < farV ns := by lia
  have sn : ∀ {A B : FS} {env env' : Ev},A env = .ok (.next env') → seqS A B env = B env' := fun {A B env env'} q => by simp only [seqS,q,zj]
  have pk : ∀ a b m : Int,gIx (.lst [.int a,.int b]) (.int (m % 2)) = .ok (.pers (.int (if m % 2 = 0 then a else b))) := fun a b m => by
   simp only [gIx,zjy]
   split <;> rfl
  have lo : ∀ c : Int,f2 gSub (f2 gMod (fC (.int c)) (fC (.int (farV ns)))) (f2 gDiv (fC (.int (farV ns))) (fC (.int 2))) [] = .ok (.pers (.int (c % farV ns - farV ns / 2))) := fun c => by simp [hp,d2]
  unfold zc4
  show (((seqS _ _ : FS) [.pers (.scr ns),.un,.un,.un,.un,.un]).bind _) = _
  rw [sn (env' := [.pers (.scr ns),.pers (.int (frmV ns).w),.un,.un,.un,.un]) (by
   show ((gIx (.lst [.int 1,.int (1 + ns.getD 0 0 % 10 ^ 9)]) (.int (zq ns 14 % 2))).bind _) = _
   rw [pk]
   rfl)]
  rw [sn (env' := [.pers (.scr ns),.pers (.int (frmV ns).w),.pers (.int (frmV ns).h),.un,.un,.un]) (by
   show ((gIx (.lst [.int 1,.int (1 + ns.getD 1 0 % 10 ^ 18)]) (.int (zq ns 15 % 2))).bind _) = _
   rw [pk]
   rfl)]
  rw [sn (env' := [.pers (.scr ns),.pers (.int (frmV ns).w),.pers (.int (frmV ns).h),.pers (.int (farV ns)),.un,.un]) (by
   show ((gIx (.lst [.int 20,.int (10 ^ 30)]) (.int (zq ns 16 % 2))).bind _) = _
   rw [pk]
   rfl)]
  rw [sn (env' := [.pers (.scr ns),.pers (.int (frmV ns).w),.pers (.int (frmV ns).h),.pers (.int (farV ns)),.pers (.int (frmV ns).s),.un]) rfl]
  rw [sn (env' := [.pers (.scr ns),.pers (.int (frmV ns).w),.pers (.int (frmV ns).h),.pers (.int (farV ns)),.pers (.int (frmV ns).s),.pers (.int (frmV ns).r)]) (by
   show ((f2 gSub (f2 gMod (fC (.int (ns.getD 2 0))) (fC (.int (farV ns)))) (f2 gDiv (fC (.int (farV ns))) (fC (.int 2))) []).bind _) = _
   rw [lo]
   rfl)]
  have fin : fTup (zy (fVar 1) (zy (fVar 2) (zy (fVar 4) (zy (fVar 5) (zy (f2 gSub (f2 gMod (zz yI (zh (fVar 0) (zh (fC (.int 3)) (fNil)))) (fVar 3)) (f2 gDiv (fVar 3) (fC (.int 2)))) (hNil)))))) [.pers (.scr ns),.pers (.int (frmV ns).w),.pers (.int (frmV ns).h),.pers (.int (farV ns)),.pers (.int (frmV ns).s),.pers (.int (frmV ns).r)] = .ok (.pers (frmD (frmV ns))) := by
   have : f2 gSub (f2 gMod (zz yI (zh (fVar 0) (zh (fC (.int 3)) (fNil)))) (fVar 3)) (f2 gDiv (fVar 3) (fC (.int 2))) [.pers (.scr ns),.pers (.int (frmV ns).w),.pers (.int (frmV ns).h),.pers (.int (farV ns)),.pers (.int (frmV ns).s),.pers (.int (frmV ns).r)] = .ok (.pers (.int (frmV ns).u)) := lo (ns.getD 3 0)
   simp only [fTup,zy,hNil,this,zj]
   rfl
  simp only [retS,fin,zj]
 ·cases h
noncomputable def zga : FS :=
 seqS (setS 1 true (zz zV (zh (fVar 0) (zh (fC (.int 0)) (fNil)))))
 (seqS (setS 2 true (f2 gIx (fLst (zy (f2 gMod (fVar 1) (fC (.int 7))) (zy (f2 gMod (fVar 1) (fC (.int 7))) (zy (fC (.int 12)) (hNil))))) (f2 gMod (f2 gDiv (f2 gMod (f2 gDiv (fVar 1) (fC (.int 7))) (fC (.int 8))) (fC (.int 3))) (fC (.int 3)))))
 (seqS (setS 3 false (fLst (hNil)))
 (seqS (forS (tB (zh (fVar 2) (fNil))) (gN 4)
 (seqS (setS 1 true (zz zV (zh (fVar 0) (zh (f2 gAdd (fC (.int 1)) (fVar 4)) (fNil)))))
 (seqS (setS 5 true (fTup (zy (f2 gMul (fC (.int 2)) (f2 gMod (fVar 1) (fC (.int 5)))) (zy (f2 gMod (f2 gDiv (fVar 1) (fC (.int 5))) (fC (.int 7))) (hNil)))))
 (ifS (fTrB (f2 gNin (fVar 5) (fVar 3)))
 (appS 3 (fVar 5))
 (nxtS)))))
 (retS (fVar 3)))))
noncomputable def xV (ns : List Int) (k : Nat) : Int × Int := (2 * (zq ns (1 + k) % 5),zq ns (1 + k) / 5 % 7)
noncomputable def xZ (ns : List Int) : Int := if zq ns 0 / 7 % 8 / 3 % 3 = 2 then 12 else zq ns 0 % 7
noncomputable def zE (ns : List Int) : Nat → List (Int × Int)
 | 0 => []
 | n + 1 => if xV ns n ∈ zE ns n then zE ns n else zE ns n ++ [xV ns n]
noncomputable def yM (ns : List Int) : List (Int × Int) := zE ns (xZ ns).toNat
theorem zcS (ns : List Int) : 0 ≤ xZ ns ∧ xZ ns ≤ 12 := by
 unfold xZ
 split <;> lia
theorem uO (ns : List Int) : ∀ n,(zE ns n).length ≤ n
 | 0 => Nat.le_refl _
 | n + 1 => by
   have := uO ns n
   unfold zE
   split
   ·lia
   ·simp; lia
theorem v9 (ns : List Int) : ∀ n,(zE ns n).Nodup
 | 0 => List.nodup_nil
 | n + 1 => by
   unfold zE
   split
   ·exact v9 ns n
   ·rename_i h
    rw [List.nodup_append]
    refine ⟨v9 ns n,by simp,fun a ha b hb => ?_⟩
    have : b = xV ns n := by simpa using hb
    subst this
    rintro rfl
    exact h ha
theorem zcL (ns : List Int) (k : Nat) : (∃ i : Int,(xV ns k).1 = 2 * i ∧ 0 ≤ i ∧ i ≤ 4) ∧ 0 ≤ (xV ns k).2 ∧ (xV ns k).2 ≤ 6 := by
 unfold xV
 refine ⟨⟨zq ns (1 + k) % 5,rfl,by lia,by lia⟩,by lia,by lia⟩
theorem v8 (ns : List Int) : ∀ n,∀ p ∈ zE ns n,(∃ i : Int,p.1 = 2 * i ∧ 0 ≤ i ∧ i ≤ 4) ∧ 0 ≤ p.2 ∧ p.2 ≤ 6
 | 0,p,h => by simp [zE] at h
 | n + 1,p,h => by
   unfold zE at h
   split at h
   ·exact v8 ns n p h
   ·rcases List.mem_append.mp h with h | h
    ·exact v8 ns n p h
    ·have : p = xV ns n := by simpa using h
     rw [this]; exact zcL ns n
noncomputable def zdT : List D → Out Val
 | [.scr ns] => .ok (.fresh ((yM ns).map zd))
 | _ => .bad
theorem zfK : ∀ ds v,ds.length = 1 → zdT ds = .ok v → runD 6 zga ds = .ok v := by
 intro ds v hlen h
 clear hlen
 unfold zdT at h
 split at h
 ·rename_i ns
  cases h
  have hm0 := zdU ns 0
  have d7 : cDiv (zq ns 0) 7 = true := xF (by decide) (by decide)
  have d3 : cDiv (zq ns 0 / 7 % 8) 3 = true := xF (by decide) (by decide)
  have hmany := zcS ns
  have hat : atI [D.int (zq ns 0 % 7),D.int (zq ns 0 % 7),D.int 12] (zq ns 0 / 7 % 8 / 3 % 3) = some (.int (xZ ns)) := by
   rw [wG _ _ (by lia)]
   unfold xZ
   have : zq ns 0 / 7 % 8 / 3 % 3 = 0 ∨ zq ns 0 / 7 % 8 / 3 % 3 = 1 ∨ zq ns 0 / 7 % 8 / 3 % 3 = 2 := by lia
   rcases this with h | h | h <;> rw [h] <;> rfl
  have hr : (-1000000 : Int) ≤ xZ ns ∧ xZ ns ≤ 1000000 := by lia
  have loop := uQ (g := gN 4) (fb := seqS (setS 1 true (zz zV (zh (fVar 0) (zh (f2 gAdd (fC (.int 1)) (fVar 4)) (fNil)))))
 (seqS (setS 5 true (fTup (zy (f2 gMul (fC (.int 2)) (f2 gMod (fVar 1) (fC (.int 5)))) (zy (f2 gMod (f2 gDiv (fVar 1) (fC (.int 5))) (fC (.int 7))) (hNil)))))
 (ifS (fTrB (f2 gNin (fVar 5) (fVar 3)))
 (appS 3 (fVar 5))
 (nxtS)))) (fun i env => ∃ s1 s2 s4 s5,env = [.pers (.scr ns),s1,s2,.own ((zE ns i).map zd),s4,s5]) (rngD 0 (xZ ns).toNat) 0
   [.pers (.scr ns),.pers (.int (zq ns 0)),.pers (.int (xZ ns)),.own [],.un,.un] ⟨_,_,_,_,rfl⟩ (fun j d env _ hd ⟨s1,s2,s4,s5,he⟩ => by
    subst he
    obtain ⟨hj,rfl⟩ := zcG hd
    simp only [Nat.sub_zero] at hj ⊢
    have hk : (0 : Int) ≤ 1 + (j : Int) ∧ 1 + (j : Int) ≤ 1000000 := by lia
    have c2 : cMul 2 (zq ns (1 + (j : Int)) % 5) = true := ve (by decide) (by decide)
    have d5 : cDiv (zq ns (1 + (j : Int))) 5 = true := xF (by decide) (by decide)
    have hs : shal 4 (.tup [.int (2 * (zq ns (1 + (j : Int)) % 5)),.int (zq ns (1 + (j : Int)) / 5 % 7)]) = true := by simp
    have ha : ((zE ns j).map zd).any (fun z => eqD z (.tup [.int (2 * (zq ns (1 + (j : Int)) % 5)),.int (zq ns (1 + (j : Int)) / 5 % 7)])) = decide (xV ns j ∈ zE ns j) := zeh (xV ns j) _
    have hl := uO ns j
    have hl2 : (zE ns j).length < 100000 := by lia
    have sn : ∀ {A B : FS} {env env' : Ev},A env = .ok (.next env') → seqS A B env = B env' := fun {A B env env'} q => by simp only [seqS,q,zj]
    have b1 : setS 1 true (zz zV (zh (fVar 0) (zh (f2 gAdd (fC (.int 1)) (fVar 4)) (fNil)))) [.pers (.scr ns),s1,s2,.own ((zE ns j).map zd),.pers (.int j),s5] = .ok (.next [.pers (.scr ns),.pers (.int (zq ns (1 + (j : Int)))),s2,.own ((zE ns j).map zd),.pers (.int j),s5]) := by
     have : zz zV (zh (fVar 0) (zh (f2 gAdd (fC (.int 1)) (fVar 4)) (fNil))) [.pers (.scr ns),s1,s2,.own ((zE ns j).map zd),.pers (.int j),s5] = .ok (.pers (.int (zq ns (1 + (j : Int))))) := by
      show ((if 0 ≤ 1 + (j : Int) ∧ 1 + (j : Int) ≤ 1000000 then Out.ok (Val.pers (.int (zq ns (1 + (j : Int))))) else Out.bad).bind _) = _
      rw [if_pos hk]
      rfl
     simp only [setS,this,zj]
     rfl
    have b2 : setS 5 true (fTup (zy (f2 gMul (fC (.int 2)) (f2 gMod (fVar 1) (fC (.int 5)))) (zy (f2 gMod (f2 gDiv (fVar 1) (fC (.int 5))) (fC (.int 7))) (hNil)))) [.pers (.scr ns),.pers (.int (zq ns (1 + (j : Int)))),s2,.own ((zE ns j).map zd),.pers (.int j),s5] = .ok (.next [.pers (.scr ns),.pers (.int (zq ns (1 + (j : Int)))),s2,.own ((zE ns j).map zd),.pers (.int j),.pers (zd (xV ns j))]) := by
     simp [c2,d5,zd,xV]
    have b3 : fTrB (f2 gNin (fVar 5) (fVar 3)) [.pers (.scr ns),.pers (.int (zq ns (1 + (j : Int)))),s2,.own ((zE ns j).map zd),.pers (.int j),.pers (zd (xV ns j))] = .ok (!decide (xV ns j ∈ zE ns j)) := by
     rw [← ha]
     simp [-List.any_map,zd,xV]
    by_cases hin : xV ns j ∈ zE ns j
    ·rw [decide_eq_true hin] at b3
     refine ⟨_,[.pers (.scr ns),.pers (.int (zq ns (1 + (j : Int)))),s2,.own ((zE ns j).map zd),.pers (.int j),.pers (zd (xV ns j))],rfl,?_,⟨_,_,_,_,by rw [zE,if_pos hin]⟩⟩
     rw [Int.zero_add]
     show (seqS _ _ : FS) [.pers (.scr ns),s1,s2,.own ((zE ns j).map zd),.pers (.int j),s5] = _
     rw [sn b1,sn b2]
     simp only [ifS,b3,zj]
     rfl
    ·rw [decide_eq_false hin] at b3
     refine ⟨_,[.pers (.scr ns),.pers (.int (zq ns (1 + (j : Int)))),s2,.own ((zE ns j ++ [xV ns j]).map zd),.pers (.int j),.pers (zd (xV ns j))],rfl,?_,⟨_,_,_,_,by rw [zE,if_neg hin]⟩⟩
     rw [Int.zero_add]
     show (seqS _ _ : FS) [.pers (.scr ns),s1,s2,.own ((zE ns j).map zd),.pers (.int j),s5] = _
     rw [sn b1,sn b2]
     simp only [ifS,b3,zj]
     simp [hl2])
  obtain ⟨env',e,s1,s2,s4,s5,he⟩ := loop
  subst he
  simp only [zcF,Nat.zero_add] at e
  have sn : ∀ {A B : FS} {env env' : Ev},A env = .ok (.next env') → seqS A B env = B env' := fun {A B env env'} q => by simp only [seqS,q,zj]
  have ix : f2 gMod (f2 gDiv (f2 gMod (f2 gDiv (fVar 1) (fC (.int 7))) (fC (.int 8))) (fC (.int 3))) (fC (.int 3)) [.pers (.scr ns),.pers (.int (zq ns 0)),.un,.un,.un,.un] = .ok (.pers (.int (zq ns 0 / 7 % 8 / 3 % 3))) := by simp [d7,d3]
  have pk : f2 gIx (fLst (zy (f2 gMod (fVar 1) (fC (.int 7))) (zy (f2 gMod (fVar 1) (fC (.int 7))) (zy (fC (.int 12)) (hNil))))) (f2 gMod (f2 gDiv (f2 gMod (f2 gDiv (fVar 1) (fC (.int 7))) (fC (.int 8))) (fC (.int 3))) (fC (.int 3))) [.pers (.scr ns),.pers (.int (zq ns 0)),.un,.un,.un,.un] = .ok (.pers (.int (xZ ns))) := by
   have l : fLst (zy (f2 gMod (fVar 1) (fC (.int 7))) (zy (f2 gMod (fVar 1) (fC (.int 7))) (zy (fC (.int 12)) (hNil)))) [.pers (.scr ns),.pers (.int (zq ns 0)),.un,.un,.un,.un] = .ok (.fresh [.int (zq ns 0 % 7),.int (zq ns 0 % 7),.int 12]) := rfl
   show ((fLst (zy (f2 gMod (fVar 1) (fC (.int 7))) (zy (f2 gMod (fVar 1) (fC (.int 7))) (zy (fC (.int 12)) (hNil)))) [.pers (.scr ns),.pers (.int (zq ns 0)),.un,.un,.un,.un]).bind _) = _
   rw [l,zj,ix,zj]
   simp only [gIx,Val.d,hat]
  have rg : tB (zh (fVar 2) (fNil)) [.pers (.scr ns),.pers (.int (zq ns 0)),.pers (.int (xZ ns)),.own [],.un,.un] = .ok (rngD 0 (xZ ns).toNat) := by
   show (if -1000000 ≤ xZ ns ∧ xZ ns ≤ 1000000 then _ else _) = _
   rw [if_pos hr]
  unfold zga
  show (((seqS _ _ : FS) [.pers (.scr ns),.un,.un,.un,.un,.un]).bind _) = _
  rw [sn (env' := [.pers (.scr ns),.pers (.int (zq ns 0)),.un,.un,.un,.un]) rfl]
  rw [sn (env' := [.pers (.scr ns),.pers (.int (zq ns 0)),.pers (.int (xZ ns)),.un,.un,.un]) (by
   simp only [setS,pk,zj]
   rfl)]
  rw [sn (env' := [.pers (.scr ns),.pers (.int (zq ns 0)),.pers (.int (xZ ns)),.own [],.un,.un]) rfl]
  rw [sn (by
   simp only [forS,rg,zj]
   exact e)]
  rfl
 ·cases h
noncomputable def zhI : FS :=
 seqS (asgS (gT [2,3,4,5,6]) (fVar 1))
 (retS (y0 [2,5,3,4,6] 2 (fItL (fVar 0)) (gT [5,6]) (fYes) (fTup (zy (f2 gAdd (f2 gMul (fVar 0) (fVar 5)) (fVar 1)) (zy (f2 gAdd (f2 gAdd (f2 gMul (fVar 2) (fVar 6)) (f2 gMul (fVar 3) (fVar 5))) (fVar 4)) (hNil))))))
noncomputable def vM : List D → Out Val := runD 7 zhI
theorem zhv : ∀ ds v,ds.length = 2 → vM ds = .ok v → runD 7 zhI ds = .ok v := fun _ _ _ h => h
theorem ziJ {ps : List (Int × Int)} {w h' s r u : Int} (hl : ps.length ≤ 100000) (w1 : 1 ≤ w) (w2 : w ≤ 10 ^ 9) (h1 : 1 ≤ h') (h2 : h' ≤ 10 ^ 18) (s1 : -3 ≤ s) (s2 : s ≤ 3) :
 vM [.lst (ps.map zd),.tup [.int w,.int h',.int s,.int r,.int u]] = .ok (.fresh ((ps.map (putP ⟨w,h',s,r,u⟩)).map zd)) := by
 have cw : ∀ j,cMul w j = true := fun j => ve (by lia) (by lia)
 have ch : ∀ j,cMul h' j = true := fun j => ve (by lia) (by lia)
 have cs : ∀ j,cMul s j = true := fun j => ve (by lia) (by lia)
 have loop := yB (g := gT [5,6]) (ft := fYes) (fe := fTup (zy (f2 gAdd (f2 gMul (fVar 0) (fVar 5)) (fVar 1)) (zy (f2 gAdd (f2 gAdd (f2 gMul (fVar 2) (fVar 6)) (f2 gMul (fVar 3) (fVar 5))) (fVar 4)) (hNil))))
  (fun env => ∃ s5 s6,env = [.pers (.int w),.pers (.int r),.pers (.int h'),.pers (.int s),.pers (.int u),s5,s6]) zd (fun p => some (zd (putP ⟨w,h',s,r,u⟩ p))) ps
  [.pers (.int w),.pers (.int r),.pers (.int h'),.pers (.int s),.pers (.int u),.un,.un] ⟨_,_,rfl⟩ (fun p env _ ⟨s5,s6,he⟩ => by
   subst he
   refine ⟨[.pers (.int w),.pers (.int r),.pers (.int h'),.pers (.int s),.pers (.int u),.pers (.int p.1),.pers (.int p.2)],by simp [zd],⟨_,_,rfl⟩,.inr ⟨_,.pers (zd (putP ⟨w,h',s,r,u⟩ p)),rfl,rfl,?_,rfl⟩⟩
   simp [cw,ch,cs,zd,putP])
 have e : ps.filterMap (fun p => some (zd (putP ⟨w,h',s,r,u⟩ p))) = (ps.map (putP ⟨w,h',s,r,u⟩)).map zd := by
  rw [List.filterMap_eq_map',List.map_map]
  rfl
 simp at loop e
 unfold vM
 simp [zhI,hl,loop,e]
noncomputable def zc5 : FS :=
 retS (y0 [0] 1 (fItL (f1 uP (y0 [] 2 (fItL (fVar 0)) (gT [0,1]) (fYes) (fVar 0)))) (gN 1) (fYes) (fTup (zy (fVar 1) (zy (fB tw (zh (y0 [1] 2 (fItL (fVar 0)) (gT [1,2]) (fTrB (f2 gEq (fVar 1) (fVar 0))) (fVar 2)) (fNil))) (hNil)))))
noncomputable def vh : List D → Out Val
 | [.lst ds] => match xG ds with
   | some ps => if ps.length < 18 then .ok (.fresh ((boardV ps).map zt)) else .bad
   | none => .bad
 | _ => .bad
theorem zeE : ∀ ds v,ds.length = 1 → vh ds = .ok v → runD 1 zc5 ds = .ok v := by
 intro ds v hlen h
 clear hlen
 unfold vh at h
 split at h
 ·rename_i ds
  split at h
  ·rename_i ps hps
   split at h
   ·rename_i hl
    cases h
    rw [xM hps]
    have hl' : ps.length ≤ 100000 := by lia
    have xs := yB (g := gT [0,1]) (ft := fYes) (fe := fVar 0) (fun env => ∃ s0 s1,env = [s0,s1]) zd (fun p => some (.int p.1)) ps [.un,.un] ⟨_,_,rfl⟩ (fun p env _ ⟨s0,s1,he⟩ => by
     subst he
     exact ⟨[.pers (.int p.1),.pers (.int p.2)],by simp [zd],⟨_,_,rfl⟩,.inr ⟨_,.pers (.int p.1),rfl,rfl,rfl,rfl⟩⟩)
    have xs' : compD (gT [0,1]) fYes (fVar 0) (ps.map zd) [.un,.un] = .ok ((ps.map (·.1)).map .int) := by
     rw [xs,List.filterMap_eq_map',List.map_map]
     rfl
    have ys : ∀ (x : Int),compD (gT [1,2]) (fTrB (f2 gEq (fVar 1) (fVar 0))) (fVar 2) (ps.map zd) [.pers (.int x),.un,.un] = .ok (((ps.filter fun p => p.1 == x).map (·.2)).map .int) := by
     intro x
     rw [yB (fun env => ∃ s1 s2,env = [.pers (.int x),s1,s2]) zd (fun p => if p.1 == x then some (.int p.2) else none) ps [.pers (.int x),.un,.un] ⟨_,_,rfl⟩ (fun p env _ ⟨s1,s2,he⟩ => by
      subst he
      refine ⟨[.pers (.int x),.pers (.int p.1),.pers (.int p.2)],by simp [zd],⟨_,_,rfl⟩,?_⟩
      by_cases hx : p.1 = x
      ·exact .inr ⟨.int p.2,.pers (.int p.2),by simp [hx],by simp [hx],rfl,rfl⟩
      ·exact .inl ⟨by simp [hx],by simp [hx]⟩)]
     clear hps hl hl' xs xs'
     induction ps with
     | nil => rfl
     | cons p ps ih =>
       simp only [List.filterMap_cons,List.filter_cons]
       by_cases hx : (p.1 == x) = true
       ·simp only [hx,if_true,List.map_cons]
        simpa using ih
       ·simp only [hx]
        simpa using ih
    have hz : ∀ x : Int,((ps.filter fun p => p.1 == x).map (·.2)).length < 64 := fun x => by
     rw [List.length_map]
     have := List.length_filter_le (fun p : Int × Int => p.1 == x) ps
     lia
    have hout := yB (g := gN 1) (ft := fYes) (fe := fTup (zy (fVar 1) (zy (fB tw (zh (y0 [1] 2 (fItL (fVar 0)) (gT [1,2]) (fTrB (f2 gEq (fVar 1) (fVar 0))) (fVar 2)) (fNil))) (hNil))))
     (fun env => ∃ s1,env = [.pers (.lst (ps.map zd)),s1]) D.int (fun x => some (zt (x,yG ((ps.filter fun p => p.1 == x).map (·.2))))) (yG (ps.map (·.1)).eraseDups) [.pers (.lst (ps.map zd)),.un] ⟨_,rfl⟩ (fun x env _ ⟨s1,he⟩ => by
      subst he
      refine ⟨[.pers (.lst (ps.map zd)),.pers (.int x)],by simp,⟨_,rfl⟩,.inr ⟨_,.pers (zt (x,yG ((ps.filter fun p => p.1 == x).map (·.2)))),rfl,rfl,?_,rfl⟩⟩
      have hz' := hz x
      have ys' := ys x
      simp only [fTup,zy,fVar,fB,zh,y0,fItL,hNil,fNil,List.getElem?_cons_succ,List.getElem?_cons_zero,zj,Val.hold,List.length_map,hl',if_true,capE,List.map_cons,List.map_nil,List.cons_append,List.nil_append,List.replicate,ys',frz,Val.d,tw,xN,List.length_cons,List.length_nil,zt]
      simp only [List.length_map] at hz'
      simp [hz'])
    have hlen2 : (yG (ps.map (·.1)).eraseDups).length ≤ 100000 := by
     have := wF ps
     unfold boardV at this
     simp only [List.length_map] at this
     lia
    have hl3 : (ps.map (·.1)).length < 18 := by simpa using hl
    have he : (yG (ps.map (·.1)).eraseDups).filterMap (fun x => some (zt (x,yG ((ps.filter fun p => p.1 == x).map (·.2))))) = (boardV ps).map zt := by
     rw [List.filterMap_eq_map']
     unfold boardV
     rw [List.map_map]
     rfl
    rw [he] at hout
    unfold zc5
    simp only [runD,retS,y0,fItL,f1,fVar,List.map_cons,List.map_nil,List.cons_append,List.nil_append,List.length_cons,List.length_nil,Nat.sub_self,List.replicate,List.append_nil,List.getElem?_cons_zero,zj,Val.hold,List.length_map,hl',if_true,capE,xs',Val.d,uP,xN,hl3,hlen2,hout]
    simp only [List.length_map] at hl3
    simp [hl3,hlen2,hout]
   ·cases h
  ·cases h
 ·cases h
end My
namespace My
open PySem PySem.Spec PyProof.Rows L2 DL
structure Gate where
 x : Int
 lo : Option Int
 hi : Option Int
 w : Int
deriving DecidableEq
noncomputable def optD : Option Int → D
 | none => .non
 | some i => .int i
noncomputable def zn (g : Gate) : D := .tup [.int g.x,optD g.lo,optD g.hi,.int g.w]
theorem zd9 (a b : Option Int) : eqD (optD a) (optD b) = decide (a = b) := by
 cases a with
 | none => cases b <;> simp [optD]
 | some i =>
   cases b with
   | none => simp [optD]
   | some j => by_cases h : i = j <;> simp [optD,h]
theorem uL (n : Nat) (a : Option Int) : shal n (optD a) = true := by cases a <;> simp [optD]
theorem zbc (g h : Gate) : eqD (zn g) (zn h) = decide (g = h) := by
 unfold zn
 rw [zc9,ye,ye,ye,ye,vT,ug,ug,zd9,zd9]
 obtain ⟨a,b,c,d⟩ := g
 obtain ⟨a',b',c',d'⟩ := h
 by_cases h1 : a = a' <;> by_cases h2 : b = b' <;> by_cases h3 : c = c' <;> by_cases h4 : d = d' <;> simp [h1,h2,h3,h4]
theorem zbz (n : Nat) (g : Gate) : shal (n + 1) (zn g) = true := by simp [zn,uL]
theorem v6 (n : Nat) (gs : List Gate) : shal (n + 2) (.lst (gs.map zn)) = true := by
 rw [zg6,List.all_map,List.all_eq_true]
 intro g _
 exact zbz n g
noncomputable def zgJ : D → Option (Option Int)
 | .non => some none
 | .int i => some (some i)
 | _ => none
noncomputable def t0 : D → Option Gate
 | .tup [.int x,lo,hi,.int w] => match zgJ lo,zgJ hi with
   | some l,some h => some ⟨x,l,h,w⟩
   | _,_ => none
 | _ => none
theorem zgI (a : Option Int) : zgJ (optD a) = some a := by cases a <;> rfl
theorem zef {d : D} {a : Option Int} (h : zgJ d = some a) : d = optD a := by
 unfold zgJ at h
 split at h
 ·cases h; rfl
 ·cases h; rfl
 ·cases h
theorem tZ (g : Gate) : t0 (zn g) = some g := by
 simp [t0,zn,zgI]
theorem tY {d : D} {g : Gate} (h : t0 d = some g) : d = zn g := by
 unfold t0 at h
 split at h
 ·split at h
  ·rename_i h1 h2
   cases h
   rw [zef h1,zef h2]
   rfl
  ·cases h
 ·cases h
noncomputable def ui : List D → Option (List Gate)
 | [] => some []
 | d :: ds => match t0 d,ui ds with
   | some g,some gs => some (g :: gs)
   | _,_ => none
theorem vw : ∀ gs : List Gate,ui (gs.map zn) = some gs
 | [] => rfl
 | g :: gs => by simp [ui,tZ,vw gs]
theorem zaH : ∀ {ds : List D} {gs : List Gate},ui ds = some gs → ds = gs.map zn
 | [],gs,h => by cases h; rfl
 | d :: ds,gs,h => by
   unfold ui at h
   split at h
   ·rename_i g gs' h1 h2
    cases h
    rw [tY h1,zaH h2]
    rfl
   ·cases h
noncomputable def opp (g h : Gate) : Bool := decide (g.x = h.x ∧ g.lo = h.lo ∧ g.hi = h.hi) && !decide (g.w = h.w)
noncomputable def vC (st : List Gate) (g : Gate) : List Gate := match st.getLast? with
 | some t => if opp t g = true then st.dropLast else st ++ [g]
 | none => st ++ [g]
noncomputable def yc (gs : List Gate) : List Gate := gs.foldl vC []
theorem zbv (st : List Gate) (g : Gate) : (vC st g).length ≤ st.length + 1 := by
 unfold vC
 split
 ·split <;> simp
  lia
 ·simp
theorem zm {f g : FS} {env env' : Ev} (h : f env = .ok (.next env')) : seqS f g env = g env' := by
 simp only [seqS,h,zj]
theorem zcA {f g : FS} {env : Ev} {v : Val} (h : f env = .ok (.ret v)) : seqS f g env = .ok (.ret v) := by
 simp only [seqS,h,zj]
theorem ziE : ¬ (HT.sIx 4 0 none = 0 ∧ HT.sIx 4 4 (some 3) = 4) := by decide
theorem eq3 (g h : Gate) : eqD (.tup [.int g.x,optD g.lo,optD g.hi]) (.tup [.int h.x,optD h.lo,optD h.hi]) = decide (g.x = h.x ∧ g.lo = h.lo ∧ g.hi = h.hi) := by
 rw [zc9,ye,ye,ye,vT,ug,zd9,zd9]
 by_cases h1 : g.x = h.x <;> by_cases h2 : g.lo = h.lo <;> by_cases h3 : g.hi = h.hi <;> simp [h1,h2,h3]
theorem cut3 (a b c d : D) : cutD [a,b,c,d] none (some 3) = [a,b,c] := rfl
noncomputable def Way (g : Gate) : Prop := g.w = 1 ∨ g.w = -1
theorem zi1 (ns : List Int) : (met ns).Sublist ns := by
 refine zcR (fun ns => (met ns).Sublist ns) (List.Sublist.refl _) (fun l k ih => ?_) ns
 rw [vN]
 split
 ·exact ih.trans (List.sublist_append_left l [k])
 ·exact ih.append (List.Sublist.refl _)
theorem zeO (qs : List (Int × Int)) : xL qs = (met (qs.map (·.1))).map fun x => (x,(qs.filter fun p => p.1 == x).map (·.2)) := by
 have ind : ∀ (n : Nat) (qs : List (Int × Int)),qs.length = n → xL qs = (met (qs.map (·.1))).map fun x => (x,(qs.filter fun p => p.1 == x).map (·.2)) := by
  intro n
  induction n with
  | zero => intro qs h; rw [List.eq_nil_of_length_eq_zero h]; rfl
  | succ n ih =>
    intro qs h
    rcases List.eq_nil_or_concat qs with e | ⟨m,p,e⟩
    ·subst e; simp at h
    ·have e' : qs = m ++ [p] := by simpa using e
     subst e'
     have ihm := ih m (by simpa using h)
     rw [tt,ihm,List.map_append,List.map_cons,List.map_nil,vN]
     have hany : ((met (m.map (·.1))).map fun x => ((x,(m.filter fun p => p.1 == x).map (·.2)) : Grp)).any (fun g => decide (g.1 = p.1)) = decide (p.1 ∈ met (m.map (·.1))) := by
      rw [List.any_map]
      by_cases hp : p.1 ∈ met (m.map (·.1))
      ·rw [decide_eq_true hp,List.any_eq_true]
       exact ⟨p.1,hp,by simp⟩
      ·rw [decide_eq_false hp,List.any_eq_false]
       intro x hx
       simp only [Function.comp,decide_eq_true_eq]
       intro z
       exact hp (z ▸ hx)
     unfold addG
     rw [hany]
     by_cases hp : p.1 ∈ met (m.map (·.1))
     ·rw [if_pos (decide_eq_true hp),if_pos hp,List.map_map]
      refine List.map_congr_left fun x _ => ?_
      simp only [Function.comp,List.filter_append,List.map_append]
      by_cases hx : x = p.1
      ·subst hx
       simp
      ·have hx' : ¬ p.1 = x := fun z => hx z.symm
       simp [hx,hx']
     ·rw [if_neg (by simp [hp]),if_neg hp,List.map_append]
      congr 1
      ·refine List.map_congr_left fun x hx => ?_
       have hx' : ¬ p.1 = x := fun z => hp (z ▸ hx)
       simp [List.filter_append,hx']
      ·have hm : m.filter (fun q => q.1 == p.1) = [] := by
        rw [List.filter_eq_nil_iff]
        intro q hq
        simp only [beq_iff_eq]
        intro z
        exact hp ((zcQ _ _).mpr (List.mem_map.mpr ⟨q,hq,z⟩))
       simp [List.filter_append,hm]
 exact ind _ qs rfl
theorem zbW {ps : List (Int × Int)} (hn : ps.Nodup) : xL (we ps) = boardV ps := by
 have hs := wu hn
 have hp := xJ ps
 rw [zeO]
 unfold boardV
 have e1 : met ((we ps).map (·.1)) = yG (ps.map (·.1)).eraseDups := by
  refine yv (List.Perm.trans ?_ (zS _).symm) ?_ (yj _)
  ·rw [List.perm_ext_iff_of_nodup (zbO _) (xr _ _ (Nat.le_refl _))]
   intro k
   rw [zcQ,List.mem_eraseDups]
   exact (hp.map (·.1)).mem_iff
  ·refine List.Pairwise.sublist (zi1 _) ?_
   rw [List.pairwise_map]
   refine hs.imp fun {a b} h => ?_
   simp only [pLt,decide_eq_true_eq] at h
   lia
 rw [e1]
 refine List.map_congr_left fun x _ => ?_
 refine congrArg (Prod.mk x) (yv (List.Perm.trans ((hp.filter _).map _) (zS _).symm) ?_ (yj _))
 rw [List.pairwise_map]
 refine List.Pairwise.imp_of_mem ?_ (hs.filter _)
 intro a b ha hb h
 have h1 : a.1 = x := by simpa using (List.mem_filter.mp ha).2
 have h2 : b.1 = x := by simpa using (List.mem_filter.mp hb).2
 simp only [pLt,decide_eq_true_eq] at h
 lia
theorem zeH : ∀ {ks : List (List Int)},ks.Nodup → metP ks = ks := by
 intro ks
 have ind : ∀ (n : Nat) (ks : List (List Int)),ks.length = n → ks.Nodup → metP ks = ks := by
  intro n
  induction n with
  | zero => intro ks h _; rw [List.eq_nil_of_length_eq_zero h]; rfl
  | succ n ih =>
    intro ks h hn
    rcases List.eq_nil_or_concat ks with e | ⟨m,k,e⟩
    ·subst e; simp at h
    ·have e' : ks = m ++ [k] := by simpa using e
     subst e'
     rw [List.nodup_append] at hn
     rw [zbP,ih m (by simpa using h) hn.1,if_neg]
     intro hk
     exact hn.2.2 k hk k (by simp) rfl
 exact ind _ ks rfl
theorem zev {ps : List (Int × Int)} (hn : ps.Nodup) : (ps.map pkey).Nodup := by
 rw [List.nodup_iff_pairwise_ne,List.pairwise_map]
 refine (List.nodup_iff_pairwise_ne.mp hn).imp fun {a b} h z => h ?_
 simp only [pkey,List.cons.injEq,and_true] at z
 obtain ⟨a1,a2⟩ := a
 obtain ⟨b1,b2⟩ := b
 simp_all
noncomputable abbrev Spot := Int × Int
noncomputable abbrev Line := Int × List Int
noncomputable def near (a b : Spot) : Prop := -(2 ^ 64) < b.1 - a.1 ∧ b.1 - a.1 < 2 ^ 64
noncomputable def yh (a b : Spot) (x : Int) : Bool := (decide (a.1 < x) && decide (x < b.1)) || (decide (b.1 < x) && decide (x < a.1))
noncomputable def onIt (a b p : Spot) : Bool := decide ((b.2 - a.2) * (p.1 - a.1) = (p.2 - a.2) * (b.1 - a.1))
noncomputable def hitV (a b : Spot) (ps : List Spot) : Bool := ps.any fun p => yh a b p.1 && onIt a b p
theorem zct {a b : Spot} {x : Int} (h : yh a b x = true) (n : near a b) : -(2 ^ 64) < x - a.1 ∧ x - a.1 < 2 ^ 64 := by
 unfold yh at h
 unfold near at n
 simp only [Bool.or_eq_true,Bool.and_eq_true,decide_eq_true_eq] at h
 lia
theorem at0 (p : Spot) : atI [D.int p.1,D.int p.2] 0 = some (.int p.1) := rfl
theorem at1 (p : Spot) : atI [D.int p.1,D.int p.2] 1 = some (.int p.2) := rfl
noncomputable def ue (a : Spot) (ps : List Spot) : Nat → Spot → Spot
 | 0,c => c
 | n + 1,c => if hitV a c ps = true then ue a ps n (c.1,c.2 + 1) else c
theorem zil (a : Spot) (ps : List Spot) : ∀ n c,(ue a ps n c).1 = c.1
 | 0,c => rfl
 | n + 1,c => by
   unfold ue
   split
   ·rw [zil a ps n]
   ·rfl
theorem few {α β : Type} (f : α → β → Bool) (uniq : ∀ p j k,f p j = true → f p k = true → j = k) : ∀ (ps : List α) (js : List β),js.Nodup → (∀ j ∈ js,∃ p ∈ ps,f p j = true) → js.length ≤ ps.length
 | [],[],_,_ => Nat.le_refl _
 | [],j :: js,_,h => by obtain ⟨p,hp,_⟩ := h j (by simp); cases hp
 | p :: ps,js,hn,h => by
   have h1 : (js.filter fun j => f p j).length ≤ 1 := by
    have hn1 : (js.filter fun j => f p j).Nodup := hn.sublist List.filter_sublist
    match q : js.filter fun j => f p j with
    | [] => simp
    | [_] => simp
    | j :: k :: r =>
      exfalso
      have hj : f p j = true := (List.mem_filter.mp (q ▸ List.mem_cons_self : j ∈ js.filter fun j => f p j)).2
      have hk : f p k = true := (List.mem_filter.mp (q ▸ List.mem_cons_of_mem _ List.mem_cons_self : k ∈ js.filter fun j => f p j)).2
      rw [q] at hn1
      have := uniq p j k hj hk
      subst this
      simp at hn1
   have h2 : (js.filter fun j => !f p j).length ≤ ps.length := few f uniq ps _ (hn.sublist List.filter_sublist) fun j hj => by
    obtain ⟨hj1,hj2⟩ := List.mem_filter.mp hj
    obtain ⟨q,hq,hf⟩ := h j hj1
    rcases List.mem_cons.mp hq with rfl | hq
    ·rw [hf] at hj2; cases hj2
    ·exact ⟨q,hq,hf⟩
   have h3 : js.length = (js.filter fun j => f p j).length + (js.filter fun j => !f p j).length := by
    clear h hn h1 h2
    induction js with
    | nil => rfl
    | cons j js ih =>
      cases hf : f p j <;> simp [hf,ih] <;> lia
   rw [List.length_cons]
   lia
theorem zfH {a c p : Spot} (hp : p.1 ≠ a.1) {i j : Int} (h1 : onIt a (c.1,i) p = true) (h2 : onIt a (c.1,j) p = true) : i = j := by
 unfold onIt at h1 h2
 have e1 := of_decide_eq_true h1
 have e2 := of_decide_eq_true h2
 simp only at e1 e2
 have e3 : (i - a.2) * (p.1 - a.1) = (j - a.2) * (p.1 - a.1) := by rw [e1,e2]
 have e4 := Int.eq_of_mul_eq_mul_right (by lia) e3
 lia
theorem ze2 {a b : Spot} {x : Int} (h : yh a b x = true) : x ≠ a.1 := by
 unfold yh at h
 simp only [Bool.or_eq_true,Bool.and_eq_true,decide_eq_true_eq] at h
 lia
theorem zbR (a : Spot) (ps : List Spot) : ∀ (n : Nat) (c : Spot),ps.length ≤ n → hitV a (ue a ps n c) ps = false := by
 have key : ∀ (n : Nat) (c : Spot),hitV a (ue a ps n c) ps = true → ∀ j : Nat,j ≤ n → hitV a (c.1,c.2 + j) ps = true := by
  intro n
  induction n with
  | zero =>
    intro c h j hj
    have : j = 0 := by lia
    subst this
    simpa [ue] using h
  | succ n ih =>
    intro c h j hj
    unfold ue at h
    by_cases hc : hitV a c ps = true
    ·rw [if_pos hc] at h
     cases j with
     | zero => simpa using hc
     | succ j =>
       have := ih (c.1,c.2 + 1) h j (by lia)
       have e : c.2 + 1 + (j : Int) = c.2 + ((j + 1 : Nat) : Int) := by lia
       simpa [e] using this
    ·rw [if_neg hc] at h
     exact absurd h hc
 intro n c hn
 cases q : hitV a (ue a ps n c) ps with
 | false => rfl
 | true =>
   exfalso
   have hk := key n c q
   have := few (fun (p : Spot) (j : Nat) => yh a c p.1 && onIt a (c.1,c.2 + j) p) (fun p j k h1 h2 => by
    simp only [Bool.and_eq_true] at h1 h2
    have := zfH (ze2 h1.1) h1.2 h2.2
    lia) ps (List.range (n + 1)) List.nodup_range (fun j hj => by
    have h1 := hk j (by have := List.mem_range.mp hj; lia)
    unfold hitV at h1
    obtain ⟨p,hp,h2⟩ := List.any_eq_true.mp h1
    exact ⟨p,hp,h2⟩)
   rw [List.length_range] at this
   lia
noncomputable def yo (l : List Spot) : Spot := l.getLastD (0,0)
noncomputable def x5 (m : Int) : Spot := (2 * (m % 6) - 1,m / 6 % 9 - 1)
noncomputable def vq (ns : List Int) (zx : Int) (ps : List Spot) (k : Nat) (got : List Spot) : Spot :=
 if k = 0 then x5 (zq ns (zx + k)) else
  ue (yo got) ps 12 (if zq ns (zx + k) / 54 % 6 = 1 then yo got else x5 (zq ns (zx + k)))
noncomputable def zB (ns : List Int) (zx : Int) (ps : List Spot) : Nat → List Spot
 | 0 => []
 | k + 1 => zB ns zx ps k ++ [vq ns zx ps k (zB ns zx ps k)]
theorem xU (ns : List Int) (zx : Int) (ps : List Spot) : ∀ k,(zB ns zx ps k).length = k
 | 0 => rfl
 | k + 1 => by unfold zB; simp [xU ns zx ps k]
noncomputable def odd9 (c : Spot) : Prop := ∃ i : Int,c.1 = 2 * i - 1 ∧ 0 ≤ i ∧ i ≤ 5
theorem vt (m : Int) : odd9 (x5 m) := ⟨m % 6,rfl,by lia,by lia⟩
theorem wM (ns : List Int) (zx : Int) (ps : List Spot) : ∀ k,∀ c ∈ zB ns zx ps k,odd9 c
 | 0,c,h => by cases h
 | k + 1,c,h => by
   unfold zB at h
   rcases List.mem_append.mp h with h | h
   ·exact wM ns zx ps k c h
   ·rw [List.mem_singleton] at h
    subst h
    unfold vq
    split
    ·exact vt _
    ·unfold odd9
     rw [zil]
     split
     ·rename_i hk _
      have hne : zB ns zx ps k ≠ [] := fun z => hk (by rw [← xU ns zx ps k,z]; rfl)
      unfold yo
      rw [List.getLastD_eq_getLast?,List.getLast?_eq_some_getLast hne,Option.getD_some]
      exact wM ns zx ps k _ (List.getLast_mem hne)
     ·exact vt _
noncomputable def consec (l : List Spot) : List (Spot × Spot) := l.zip l.tail
theorem tQ : ∀ (l : List Spot) (c : Spot),l ≠ [] → consec (l ++ [c]) = consec l ++ [(yo l,c)]
 | [],c,h => absurd rfl h
 | [a],c,_ => rfl
 | a :: b :: l,c,_ => by
   have ih := tQ (b :: l) c (by simp)
   unfold consec yo at ih ⊢
   simp only [List.cons_append,List.tail_cons,List.zip_cons_cons,List.getLastD_cons] at ih ⊢
   rw [ih]
theorem tm {l : List Spot} (h : l ≠ []) : yo l ∈ l := by
 unfold yo
 rw [List.getLastD_eq_getLast?,List.getLast?_eq_some_getLast h,Option.getD_some]
 exact List.getLast_mem h
theorem zbD (ns : List Int) (zx : Int) (ps : List Spot) (hp : ps.length ≤ 12) : ∀ k,∀ q ∈ consec (zB ns zx ps k),hitV q.1 q.2 ps = false
 | 0,q,h => by cases h
 | k + 1,q,h => by
   unfold zB at h
   by_cases hk : k = 0
   ·subst hk
    simp [zB,consec] at h
   ·have hne : zB ns zx ps k ≠ [] := fun z => hk (by rw [← xU ns zx ps k,z]; rfl)
    rw [tQ _ _ hne] at h
    rcases List.mem_append.mp h with h | h
    ·exact zbD ns zx ps hp k q h
    ·rw [List.mem_singleton] at h
     subst h
     show hitV _ (vq ns zx ps k _) ps = false
     unfold vq
     rw [if_neg hk]
     exact zbR _ ps 12 _ hp
theorem zbI {a b : Spot} (ha : odd9 a) (hb : odd9 b) : near a b := by
 obtain ⟨i,h1,h2,h3⟩ := ha
 obtain ⟨j,k1,k2,k3⟩ := hb
 unfold near
 lia
noncomputable def zbH (a b : Spot) (x h : Int) : Int := (a.2 - h) * (b.1 - a.1) + (b.2 - a.2) * (x - a.1)
noncomputable def xC (a b : Spot) (x h : Int) : Bool := decide (0 < zbH a b x h * (b.1 - a.1))
noncomputable def wW (a b : Spot) (l : Line) : Gate where
 x := l.1
 lo := (l.2.filter (xC a b l.1)).getLast?
 hi := (l.2.filter fun h => !xC a b l.1 h).head?
 w := if 0 < b.1 - a.1 then 1 else -1
theorem getLast?_or {α : Type} (l : List α) (x : α) (o : Option α) : ((x :: l).getLast?).or o = (l.getLast?).or (some x) := by
 cases l with
 | nil => rfl
 | cons y l => rw [List.getLast?_cons_cons]; cases h : (y :: l).getLast? <;> simp_all
noncomputable def rowL (B : List Line) (q : Spot × Spot) : List Gate :=
 let some_ := (B.filter fun l => decide (min q.1.1 q.2.1 < l.1) && decide (l.1 < max q.1.1 q.2.1)).map (wW q.1 q.2)
 if q.2.1 < q.1.1 then some_.reverse else some_
noncomputable def strD (q : Spot × Spot) : D := .tup [zd q.1,zd q.2]
noncomputable def zbs (a b p : Spot) : Int := (b.1 - a.1) * (p.2 - a.2) - (b.2 - a.2) * (p.1 - a.1)
noncomputable def yi (a b p : Spot) : Int := if 0 < b.1 - a.1 then zbs a b p else -zbs a b p
noncomputable def zG (B : List Line) (a b : Spot) : List Line :=
 if a.1 < b.1 then B.filter fun l => decide (a.1 < l.1) && decide (l.1 < b.1) else B.reverse.filter fun l => decide (b.1 < l.1) && decide (l.1 < a.1)
theorem uB {B : List Line} {a b : Spot} {l : Line} (h : l ∈ zG B a b) (n : near a b) : -(2 ^ 64) < l.1 - a.1 ∧ l.1 - a.1 < 2 ^ 64 := by
 unfold zG at h
 unfold near at n
 split at h
 ·have := (List.mem_filter.mp h).2
  simp at this
  lia
 ·have := (List.mem_filter.mp h).2
  simp at this
  lia
theorem vp (B : List Line) (a b : Spot) : (zG B a b).length ≤ B.length := by
 unfold zG
 split
 ·exact List.length_filter_le _ _
 ·have := List.length_filter_le (fun l : Line => decide (b.1 < l.1) && decide (l.1 < a.1)) B.reverse
  rw [List.length_reverse] at this
  exact this
theorem x4 {B : List Line} {a b : Spot} {l : Line} (h : l ∈ zG B a b) : l ∈ B ∧ yh a b l.1 = true := by
 unfold zG at h
 unfold yh
 split at h
 ·obtain ⟨h1,h2⟩ := List.mem_filter.mp h
  simp at h2
  exact ⟨h1,by simp [h2]⟩
 ·obtain ⟨h1,h2⟩ := List.mem_filter.mp h
  simp at h2
  exact ⟨List.mem_reverse.mp h1,by simp [h2]⟩
noncomputable def tu (a b : Spot) (l : Line) : Gate where
 x := l.1
 lo := vR (l.2.filter fun y => decide (yi a b (l.1,y) < 0))
 hi := vQ (l.2.filter fun y => decide (0 < yi a b (l.1,y)))
 w := if a.1 < l.1 then 1 else -1
noncomputable def throughV (B : List Line) (a b : Spot) : Bool := (zG B a b).any fun l => l.2.any fun y => decide (yi a b (l.1,y) = 0)
theorem ats0 (q : Spot × Spot) : atI [zd q.1,zd q.2] 0 = some (zd q.1) := rfl
theorem ats1 (q : Spot × Spot) : atI [zd q.1,zd q.2] 1 = some (zd q.2) := rfl
theorem al0 (l : Line) : atI [D.int l.1,D.lst (l.2.map .int)] 0 = some (.int l.1) := rfl
theorem al1 (l : Line) : atI [D.int l.1,D.lst (l.2.map .int)] 1 = some (.lst (l.2.map .int)) := rfl
theorem wz {α β : Type} (p : α → Bool) (f : α → β) : ∀ l : List α,l.filterMap (fun x => if p x = true then some (f x) else none) = (l.filter p).map f
 | [] => rfl
 | x :: l => by
   cases h : p x <;> simp [List.filterMap_cons,List.filter_cons,h,wz p f l]
structure RopeOk (ps rope : List Spot) : Prop where
 few : ps.length < 18
 nodup : ps.Nodup
 two : 2 ≤ rope.length
 many : rope.length ≤ 100
 off : ∀ c ∈ rope,c.1 ∉ (boardV ps).map (·.1)
 near : ∀ q ∈ consec rope,My.near q.1 q.2
 free : ∀ q ∈ consec rope,throughV (boardV ps) q.1 q.2 = false
theorem zcn (ps : List Spot) (h : ps.length < 18) : ∀ l ∈ boardV ps,l.2.length ≤ 1000 := fun l hl => by have := zhT ps l hl; lia
noncomputable def rowP (B : List Line) (q : Spot × Spot) : List Gate := (zG B q.1 q.2).map (tu q.1 q.2)
theorem uv {x y : Int} (h : 0 < y) : 0 < x * y ↔ 0 < x := by
 constructor
 ·intro hx
  rcases Int.lt_trichotomy x 0 with h1 | h1 | h1
  ·have := Int.mul_neg_of_neg_of_pos h1 h; lia
  ·rw [h1] at hx; simp at hx
  ·exact h1
 ·intro hx; exact Int.mul_pos hx h
theorem za0 {x y : Int} (h : y < 0) : 0 < x * y ↔ x < 0 := by
 have := uv (x := -x) (y := -y) (by lia)
 rw [Int.neg_mul_neg] at this
 rw [this]
 lia
theorem zfb (a b : Spot) (x h : Int) : zbs a b (x,h) = -zbH a b x h := by
 unfold zbs zbH
 have e : (b.1 - a.1) * (h - a.2) = -((a.2 - h) * (b.1 - a.1)) := by
  rw [← Int.neg_mul,Int.neg_sub,Int.mul_comm]
 simp only [e]
 lia
theorem zaG {a b : Spot} (hne : a.1 ≠ b.1) (x h : Int) : xC a b x h = decide (yi a b (x,h) < 0) := by
 unfold xC yi
 rw [zfb]
 rcases Int.lt_or_gt_of_ne hne with h1 | h1
 ·rw [if_pos (by lia)]
  have := uv (x := zbH a b x h) (y := b.1 - a.1) (by lia)
  rw [Bool.eq_iff_iff,decide_eq_true_eq,decide_eq_true_eq,this]
  lia
 ·rw [if_neg (by lia)]
  have := za0 (x := zbH a b x h) (y := b.1 - a.1) (by lia)
  rw [Bool.eq_iff_iff,decide_eq_true_eq,decide_eq_true_eq,this]
  lia
theorem uy : ∀ (l : List Int) (n : Int),(n :: l).Pairwise (· ≤ ·) → some (l.foldl xI n) = (n :: l).getLast?
 | [],n,_ => rfl
 | m :: l,n,h => by
   have h' := List.pairwise_cons.mp h
   have hm : n ≤ m := h'.1 m (by simp)
   have e : xI n m = m := by unfold xI; split <;> lia
   rw [List.foldl_cons,e,List.getLast?_cons_cons]
   exact uy l m h'.2
theorem zc7 (l : List Int) (h : l.Pairwise (· ≤ ·)) : vR l = l.getLast? := by
 cases l with
 | nil => rfl
 | cons n l => exact uy l n h
theorem ux : ∀ (l : List Int) (n : Int),(∀ m ∈ l,n ≤ m) → l.foldl xy n = n
 | [],n,_ => rfl
 | m :: l,n,h => by
   have hm := h m (by simp)
   have e : xy n m = n := by unfold xy; split <;> lia
   rw [List.foldl_cons,e]
   exact ux l n fun k hk => h k (by simp [hk])
theorem zc6 (l : List Int) (h : l.Pairwise (· ≤ ·)) : vQ l = l.head? := by
 cases l with
 | nil => rfl
 | cons n l =>
   have h' := List.pairwise_cons.mp h
   show some (l.foldl xy n) = some n
   rw [ux l n h'.1]
theorem tX {ps : List Spot} {l : Line} (h : l ∈ boardV ps) : (l.1 ∈ ps.map (·.1)) ∧ (∀ y ∈ l.2,(l.1,y) ∈ ps) ∧ l.2.Pairwise (· ≤ ·) := by
 unfold boardV at h
 obtain ⟨x,hx,rfl⟩ := List.mem_map.mp h
 refine ⟨List.mem_eraseDups.mp ((zS _).mem_iff.mp hx),fun y hy => ?_,yj _⟩
 have hy' := (zS _).mem_iff.mp hy
 obtain ⟨p,hp,rfl⟩ := List.mem_map.mp hy'
 obtain ⟨h1,h2⟩ := List.mem_filter.mp hp
 have : p.1 = x := by simpa using h2
 rw [← this]
 exact h1
theorem zjk {a b : Spot} {l : Line} (hb : yh a b l.1 = true) (hs : l.2.Pairwise (· ≤ ·)) (hz : ∀ y ∈ l.2,yi a b (l.1,y) ≠ 0) : tu a b l = wW a b l := by
 have hne : a.1 ≠ b.1 := by
  unfold yh at hb
  simp at hb
  lia
 have h1 : (l.2.filter fun y => decide (yi a b (l.1,y) < 0)) = l.2.filter (xC a b l.1) := by
  apply List.filter_congr
  intro y _
  rw [zaG hne]
 have h2 : (l.2.filter fun y => decide (0 < yi a b (l.1,y))) = l.2.filter fun y => !xC a b l.1 y := by
  apply List.filter_congr
  intro y hy
  rw [zaG hne]
  have := hz y hy
  by_cases h : yi a b (l.1,y) < 0
  ·have h' : ¬ 0 < yi a b (l.1,y) := by lia
   simp [h,h']
  ·have h' : 0 < yi a b (l.1,y) := by lia
   simp [h,h']
 have h3 : (if a.1 < l.1 then (1 : Int) else -1) = if 0 < b.1 - a.1 then 1 else -1 := by
  unfold yh at hb
  simp at hb
  rcases hb with hb | hb
  ·rw [if_pos hb.1,if_pos (by lia)]
  ·rw [if_neg (by lia),if_neg (by lia)]
 unfold tu wW
 rw [h1,h2,h3,zc7 _ (hs.sublist List.filter_sublist),zc6 _ (hs.sublist List.filter_sublist)]
theorem zjO {ps : List Spot} {q : Spot × Spot} (hf : throughV (boardV ps) q.1 q.2 = false) : rowP (boardV ps) q = rowL (boardV ps) q := by
 obtain ⟨a,b⟩ := q
 simp only at hf ⊢
 have hz : ∀ l ∈ zG (boardV ps) a b,tu a b l = wW a b l := by
  intro l hl
  obtain ⟨h1,h2⟩ := x4 hl
  refine zjk h2 (tX h1).2.2 fun y hy e => ?_
  unfold throughV at hf
  rw [List.any_eq_false] at hf
  have := hf l hl
  apply this
  rw [List.any_eq_true]
  exact ⟨y,hy,by simp [e]⟩
 have hm : (zG (boardV ps) a b).map (tu a b) = (zG (boardV ps) a b).map (wW a b) := List.map_congr_left hz
 unfold rowP rowL
 dsimp only
 rw [hm]
 unfold zG
 by_cases h1 : a.1 < b.1
 ·have hmin : min a.1 b.1 = a.1 := by lia
  have hmax : max a.1 b.1 = b.1 := by lia
  rw [if_pos h1,if_neg (by lia),hmin,hmax]
 ·rw [if_neg h1]
  have hmin : min a.1 b.1 = b.1 := by lia
  have hmax : max a.1 b.1 = a.1 := by lia
  rw [hmin,hmax]
  by_cases h2 : b.1 < a.1
  ·rw [if_pos h2,List.filter_reverse,List.map_reverse]
  ·rw [if_neg h2]
   have : ∀ B : List Line,(B.filter fun l => decide (b.1 < l.1) && decide (l.1 < a.1)) = [] := by
    intro B
    rw [List.filter_eq_nil_iff]
    intro l _
    simp
    lia
   rw [this,this]
theorem zcy {ps : List Spot} {a b : Spot} (h : hitV a b ps = false) : throughV (boardV ps) a b = false := by
 unfold throughV
 rw [List.any_eq_false]
 intro l hl
 obtain ⟨h1,h2⟩ := x4 hl
 simp only [List.any_eq_true,decide_eq_true_eq,not_exists,not_and]
 intro y hy e
 have hp := (tX h1).2.1 y hy
 unfold hitV at h
 rw [List.any_eq_false] at h
 apply h _ hp
 have ho : onIt a b (l.1,y) = true := by
  unfold onIt
  rw [decide_eq_true_eq]
  have ht : zbs a b (l.1,y) = 0 := by
   unfold yi at e
   split at e <;> lia
  unfold zbs at ht
  have : (b.1 - a.1) * (y - a.2) = (y - a.2) * (b.1 - a.1) := Int.mul_comm _ _
  simp only at ht ⊢
  lia
 simp [h2,ho]
theorem zfS {f : Frm} (hf : FrmOk f) (x y : Int) : f.w * x + f.r < f.w * y + f.r ↔ x < y := by
 have hw := hf.w1
 have := Int.mul_lt_mul_left (a := f.w) (b := x) (c := y) (by lia)
 lia
theorem zis {f : Frm} (hf : FrmOk f) (x y : Int) : f.w * x + f.r = f.w * y + f.r ↔ x = y := by
 have h1 := zfS hf x y
 have h2 := zfS hf y x
 lia
theorem zdj {f : Frm} (hf : FrmOk f) (a b p : Spot) : yh (putP f a) (putP f b) (putP f p).1 = yh a b p.1 := by
 unfold yh putP
 simp only [zfS hf]
theorem zhs {f : Frm} (hf : FrmOk f) (a b p : Spot) : onIt (putP f a) (putP f b) (putP f p) = onIt a b p := by
 unfold onIt putP
 rw [Bool.eq_iff_iff,decide_eq_true_eq,decide_eq_true_eq]
 simp only
 have e : ∀ u v s t : Int,f.h * u + f.s * s + f.u - (f.h * v + f.s * t + f.u) = f.h * (u - v) + f.s * (s - t) := by
  intro u v s t
  rw [Int.mul_sub,Int.mul_sub]
  lia
 have e2 : ∀ s t : Int,f.w * s + f.r - (f.w * t + f.r) = f.w * (s - t) := by
  intro s t
  rw [Int.mul_sub]
  lia
 rw [e,e,e2,e2]
 have hw := hf.w1
 have hh := hf.h1
 generalize hA : b.2 - a.2 = A
 generalize hB : b.1 - a.1 = B
 generalize hC : p.1 - a.1 = C
 generalize hE : p.2 - a.2 = E
 have k1 : (f.h * A + f.s * B) * (f.w * C) = f.h * f.w * (A * C) + f.s * f.w * (B * C) := by
  rw [Int.add_mul]
  congr 1
  ·ac_rfl
  ·ac_rfl
 have k2 : (f.h * E + f.s * C) * (f.w * B) = f.h * f.w * (E * B) + f.s * f.w * (B * C) := by
  rw [Int.add_mul]
  congr 1
  ·ac_rfl
  ·ac_rfl
 rw [k1,k2]
 have hp : f.h * f.w ≠ 0 := Int.ne_of_gt (Int.mul_pos (by lia) (by lia))
 constructor
 ·intro h
  exact Int.eq_of_mul_eq_mul_left hp (by lia)
 ·intro h
  rw [h]
theorem zjh {f : Frm} (hf : FrmOk f) (a b : Spot) (ps : List Spot) : hitV (putP f a) (putP f b) (ps.map (putP f)) = hitV a b ps := by
 unfold hitV
 rw [List.any_map]
 congr 1
 funext p
 simp only [Function.comp_apply,zdj hf,zhs hf]
theorem zaC (g : Spot → Spot) (l : List Spot) : consec (l.map g) = (consec l).map fun q => (g q.1,g q.2) := by
 unfold consec
 rw [← List.map_tail,List.zip_map]
 rfl
theorem ziK {f : Frm} (hf : FrmOk f) {p q : Spot} (h : putP f p = putP f q) : p = q := by
 unfold putP at h
 obtain ⟨h1,h2⟩ := Prod.mk.inj h
 have e1 := (zis hf _ _).mp h1
 rw [e1] at h2
 have h3 : f.h * p.2 = f.h * q.2 := by lia
 have hh := hf.h1
 have e2 := Int.eq_of_mul_eq_mul_left (by lia) h3
 exact Prod.ext e1 e2
theorem zbJ {f : Frm} (hf : FrmOk f) : ∀ {ps : List Spot},ps.Nodup → (ps.map (putP f)).Nodup
 | [],_ => List.nodup_nil
 | p :: ps,h => by
   have h' := List.nodup_cons.mp h
   refine List.nodup_cons.mpr ⟨fun hm => ?_,zbJ hf h'.2⟩
   obtain ⟨q,hq,e⟩ := List.mem_map.mp hm
   rw [ziK hf e] at hq
   exact h'.1 hq
theorem uh {l : List Spot} {q : Spot × Spot} (h : q ∈ consec l) : q.1 ∈ l ∧ q.2 ∈ l := by
 unfold consec at h
 have := List.of_mem_zip (a := q.1) (b := q.2) h
 exact ⟨this.1,List.mem_of_mem_tail this.2⟩
structure Drawn (ps rope : List Spot) : Prop where
 few : ps.length ≤ 12
 nodup : ps.Nodup
 even : ∀ p ∈ ps,∃ i : Int,p.1 = 2 * i ∧ 0 ≤ i ∧ i ≤ 4
 odd : ∀ c ∈ rope,odd9 c
 free : ∀ q ∈ consec rope,hitV q.1 q.2 ps = false
theorem zea {ps rope : List Spot} {f : Frm} (hf : FrmOk f) (h : Drawn ps rope) (h2 : 2 ≤ rope.length) (hm : rope.length ≤ 100) : RopeOk (ps.map (putP f)) (rope.map (putP f)) where
 few := by have := h.few; rw [List.length_map]; lia
 nodup := zbJ hf h.nodup
 two := by rw [List.length_map]; exact h2
 many := by rw [List.length_map]; exact hm
 off := by
  intro c hc hx
  obtain ⟨l,hl,e⟩ := List.mem_map.mp hx
  have h1 := (tX hl).1
  obtain ⟨p',hp',e'⟩ := List.mem_map.mp h1
  obtain ⟨p,hp,rfl⟩ := List.mem_map.mp hp'
  obtain ⟨d,hd,rfl⟩ := List.mem_map.mp hc
  obtain ⟨i,hi,_,_⟩ := h.even p hp
  obtain ⟨j,hj,_,_⟩ := h.odd d hd
  have : (putP f p).1 = (putP f d).1 := e'.trans e
  have := (zis hf _ _).mp this
  lia
 near := by
  intro q hq
  rw [zaC] at hq
  obtain ⟨r,hr,rfl⟩ := List.mem_map.mp hq
  obtain ⟨r1,r2⟩ := uh hr
  obtain ⟨i,hi,i1,i2⟩ := h.odd _ r1
  obtain ⟨j,hj,j1,j2⟩ := h.odd _ r2
  have hw1 := hf.w1
  have hw2 := hf.w2
  unfold My.near putP
  simp only
  rw [hi,hj]
  have e : f.w * (2 * j - 1) + f.r - (f.w * (2 * i - 1) + f.r) = f.w * (2 * (j - i)) := by
   rw [Int.mul_sub,Int.mul_sub,Int.mul_sub,Int.mul_sub]
   lia
  rw [e]
  have b1 : f.w * (2 * (j - i)) ≤ 10 ^ 9 * 10 := by
   rcases Int.le_total 0 (2 * (j - i)) with g | g
   ·exact Int.mul_le_mul hw2 (by lia) g (by decide)
   ·have := Int.mul_nonpos_of_nonneg_of_nonpos (show 0 ≤ f.w by lia) g
    lia
  have b2 : f.w * (2 * (i - j)) ≤ 10 ^ 9 * 10 := by
   rcases Int.le_total 0 (2 * (i - j)) with g | g
   ·exact Int.mul_le_mul hw2 (by lia) g (by decide)
   ·have := Int.mul_nonpos_of_nonneg_of_nonpos (show 0 ≤ f.w by lia) g
    lia
  have e3 : f.w * (2 * (i - j)) = -(f.w * (2 * (j - i))) := by
   rw [← Int.mul_neg]
   congr 1
   lia
  lia
 free := by
  intro q hq
  rw [zaC] at hq
  obtain ⟨r,hr,rfl⟩ := List.mem_map.mp hq
  apply zcy
  rw [zjh hf]
  exact h.free r hr
theorem zar (ns : List Int) (zx : Int) (k : Nat) : Drawn (yM ns) (zB ns zx (yM ns) k) where
 few := by
  have h1 := uO ns (xZ ns).toNat
  have h2 := zcS ns
  unfold yM
  lia
 nodup := v9 ns _
 even := fun p hp => (v8 ns _ p hp).1
 odd := wM ns zx _ k
 free := zbD ns zx _ (by
  have h1 := uO ns (xZ ns).toNat
  have h2 := zcS ns
  unfold yM
  lia) k
theorem zhc (lo : Int) (n : Nat) : rngD lo (n + 1) = .int lo :: rngD (lo + 1) n := by
 unfold rngD
 rw [List.range_succ_eq_map,List.map_cons,List.map_map]
 congr 1
 ·simp
 ·apply List.map_congr_left
  intro i _
  simp only [Function.comp_apply]
  congr 1
  lia
theorem ziF {f : Ev → Out (List Val)} {env : Ev} {n : Int} (h : f env = .ok [.pers (.int n)]) (hn : -1000000 ≤ n ∧ n ≤ 1000000) : tB f env = .ok (rngD 0 n.toNat) := by
 simp only [tB,h,zj,List.map_cons,List.map_nil,Val.d]
 rw [if_pos hn]
noncomputable def cutL {α : Type} (xs : List α) (lo hi : Option Int) : List α := (xs.drop (HT.sIx xs.length 0 lo)).take (HT.sIx xs.length xs.length hi - HT.sIx xs.length 0 lo)
theorem zbf {α : Type} (f : α → D) (xs : List α) (lo hi : Option Int) : cutD (xs.map f) lo hi = (cutL xs lo hi).map f := by
 unfold DL.cutD cutL
 rw [List.length_map,← List.map_drop,← List.map_take]
theorem zeb {α : Type} (xs : List α) (lo hi : Option Int) : (cutL xs lo hi).Sublist xs := (List.take_sublist _ _).trans (List.drop_sublist _ _)
theorem za1 (ns : List Int) (k : Int) (h : 0 ≤ k ∧ k ≤ 1000000) : zV [.scr ns,.int k] = .ok (.pers (.int (zq ns k))) := by
 show (if 0 ≤ k ∧ k ≤ 1000000 then Out.ok (Val.pers (.int (zq ns k))) else Out.bad) = _
 rw [if_pos h]
noncomputable def xz (l : List Spot) : Spot := l.headD (0,0)
theorem zbo {l : List Spot} (hne : l ≠ []) : atI (l.map zd) 0 = some (zd (xz l)) := by
 rw [wG _ _ (by lia)]
 cases l with
 | nil => exact absurd rfl hne
 | cons c r => rfl
theorem zdo {l : List Spot} (hne : l ≠ []) : atI (l.map zd) (-1) = some (zd (yo l)) := by
 unfold yo
 rw [zcu,List.length_map,List.getElem?_map,← List.getLast?_eq_getElem?,List.getLastD_eq_getLast?,List.getLast?_eq_some_getLast hne]
 rfl
noncomputable def hits (ps rope : List Spot) : Bool := (consec rope).any fun q => hitV q.1 q.2 ps
theorem zdd {rope : List Spot} {k : Nat} (h : k + 1 < rope.length) : (consec rope).drop k = (rope[k],rope[k + 1]) :: (consec rope).drop (k + 1) := by
 unfold consec
 have hl : k < (rope.zip rope.tail).length := by simp; lia
 rw [List.drop_eq_getElem_cons hl,List.getElem_zip,List.getElem_tail]
theorem zix (rope : List Spot) (k : Nat) (i : Int) (hi : i = (k : Int)) (h : k < rope.length) : atI (rope.map zd) i = some (zd rope[k]) := by
 rw [wG _ _ (by lia),hi,Int.toNat_natCast,List.getElem?_map,List.getElem?_eq_getElem h]
 rfl
@[reducible] noncomputable def zky : FS :=
 ifS (fTrB (f2 gEq (fVar 5) (f2 gMul (f2 gSub (fVar 4) (f2 gIx (fVar 0) (fC (.int 1)))) (f2 gSub (f2 gIx (fVar 1) (fC (.int 0))) (f2 gIx (fVar 0) (fC (.int 0)))))))
 (retS (fC (.bl true)))
 (nxtS)
@[reducible] noncomputable def zkw : FS :=
 ifS (fOr (fAnd (fTrB (f2 gLt (f2 gIx (fVar 0) (fC (.int 0))) (fVar 3))) (fTrB (f2 gLt (fVar 3) (f2 gIx (fVar 1) (fC (.int 0)))))) (fAnd (fTrB (f2 gLt (f2 gIx (fVar 1) (fC (.int 0))) (fVar 3))) (fTrB (f2 gLt (fVar 3) (f2 gIx (fVar 0) (fC (.int 0)))))))
 (seqS (setS 5 true (f2 gMul (f2 gSub (f2 gIx (fVar 1) (fC (.int 1))) (f2 gIx (fVar 0) (fC (.int 1)))) (f2 gSub (fVar 3) (f2 gIx (fVar 0) (fC (.int 0))))))
 (zky))
 (nxtS)
@[reducible] noncomputable def zgF : FS :=
 zkw
noncomputable def zgb : FS :=
 seqS (forS (fItL (fVar 2)) (gT [3,4])
 (zgF))
 (retS (fC (.bl false)))
noncomputable def zcP : List D → Out Val := runD 6 zgb
theorem zhw : ∀ ds v,ds.length = 3 → zcP ds = .ok v → runD 6 zgb ds = .ok v := fun _ _ _ h => h
theorem zhF {a b p : Spot} (n : near a b) (s2 s5 : Slot) : ∃ s5',zgF [.pers (zd a),.pers (zd b),s2,.pers (.int p.1),.pers (.int p.2),s5] =
 if (yh a b p.1 && onIt a b p) = true then .ok (.ret (.pers (.bl true))) else .ok (.next [.pers (zd a),.pers (zd b),s2,.pers (.int p.1),.pers (.int p.2),s5']) := by
 have c1 : ∀ j,cMul j (b.1 - a.1) = true := fun j => zcl n.1 n.2
 cases hb : yh a b p.1 with
 | false =>
   refine ⟨s5,?_⟩
   unfold yh at hb
   simp only [Bool.or_eq_false_iff,Bool.and_eq_false_iff,decide_eq_false_iff_not] at hb
   obtain ⟨h1,h2⟩ := hb
   rcases h1 with h1 | h1 <;> rcases h2 with h2 | h2 <;> simp [zd,at0,h1,h2]
 | true =>
   refine ⟨.pers (.int ((b.2 - a.2) * (p.1 - a.1))),?_⟩
   have hn := zct hb n
   have c2 : ∀ j,cMul j (p.1 - a.1) = true := fun j => zcl hn.1 hn.2
   unfold yh at hb
   simp only [Bool.or_eq_true,Bool.and_eq_true,decide_eq_true_eq] at hb
   unfold onIt
   by_cases ho : (b.2 - a.2) * (p.1 - a.1) = (p.2 - a.2) * (b.1 - a.1)
   ·rcases hb with ⟨h1,h2⟩ | ⟨h1,h2⟩
    ·simp [zd,at0,at1,h1,h2,c1,c2,ho]
    ·have h3 : ¬ a.1 < p.1 := by lia
     simp [zd,at0,at1,h1,h2,h3,c1,c2,ho]
   ·rcases hb with ⟨h1,h2⟩ | ⟨h1,h2⟩
    ·simp [zd,at0,at1,h1,h2,c1,c2,ho]
    ·have h3 : ¬ a.1 < p.1 := by lia
     simp [zd,at0,at1,h1,h2,h3,c1,c2,ho]
theorem zf4 (a b : Spot) (n : near a b) (s2 : Slot) : ∀ (ps : List Spot) (s3 s4 s5 : Slot),∃ s3' s4' s5',forD (gT [3,4]) zgF (ps.map zd) [.pers (zd a),.pers (zd b),s2,s3,s4,s5] =
 if hitV a b ps = true then .ok (.ret (.pers (.bl true))) else .ok (.next [.pers (zd a),.pers (zd b),s2,s3',s4',s5'])
 | [],s3,s4,s5 => ⟨s3,s4,s5,rfl⟩
 | p :: ps,s3,s4,s5 => by
   have hh : hitV a b (p :: ps) = ((yh a b p.1 && onIt a b p) || hitV a b ps) := rfl
   obtain ⟨t5,eb⟩ := zhF (p := p) n s2 s5
   have hg : gT [3,4] (zd p) [.pers (zd a),.pers (zd b),s2,s3,s4,s5] = .ok [.pers (zd a),.pers (zd b),s2,.pers (.int p.1),.pers (.int p.2),s5] := rfl
   cases hb : (yh a b p.1 && onIt a b p) with
   | true =>
     refine ⟨s3,s4,s5,?_⟩
     rw [hb] at eb
     simp only [List.map_cons,forD,hg,zj,eb,hh,hb,Bool.true_or,if_true]
   | false =>
     obtain ⟨s3',s4',s5',e⟩ := zf4 a b n s2 ps (.pers (.int p.1)) (.pers (.int p.2)) t5
     refine ⟨s3',s4',s5',?_⟩
     rw [hb] at eb
     simp only [List.map_cons,forD,hg,zj,eb,hh,hb,Bool.false_or,Bool.false_eq_true,if_false,e]
theorem zio {a b : Spot} (n : near a b) (ps : List Spot) : zcP [zd a,zd b,.lst (ps.map zd)] = .ok (.pers (.bl (hitV a b ps))) := by
 obtain ⟨s3,s4,s5,e⟩ := zf4 a b n (.pers (.lst (ps.map zd))) ps .un .un .un
 unfold zcP
 cases hv : hitV a b ps with
 | true =>
   rw [hv] at e
   simp only [if_true] at e
   simp [zgb,e]
 | false =>
   rw [hv] at e
   simp only [Bool.false_eq_true,if_false] at e
   simp [zgb,e]
@[reducible] noncomputable def zjd : FS :=
 ifS (fAnd (fTrB (f2 gGt (fVar 5) (fC (.int 0)))) (fTrB (f2 gEq (f2 gMod (f2 gDiv (fVar 6) (fC (.int 54))) (fC (.int 6))) (fC (.int 1)))))
 (setS 7 true (f2 gIx (fVar 4) (f1 gNeg (fC (.int 1)))))
 (nxtS)
@[reducible] noncomputable def zcz : FT :=
 fAnd (fTrB (f2 gGt (fVar 5) (fC (.int 0)))) (fTr (zz zcP (zh (f2 gIx (fVar 4) (f1 gNeg (fC (.int 1)))) (zh (fVar 7) (zh (fVar 3) (fNil))))))
@[reducible] noncomputable def zdl : FS :=
 setS 7 true (fTup (zy (f2 gIx (fVar 7) (fC (.int 0))) (zy (f2 gAdd (f2 gIx (fVar 7) (fC (.int 1))) (fC (.int 1))) (hNil))))
@[reducible] noncomputable def zdk : FS :=
 seqS (setS 6 true (zz zV (zh (fVar 0) (zh (f2 gAdd (fVar 1) (fVar 5)) (fNil)))))
 (seqS (setS 7 true (fTup (zy (f2 gSub (f2 gMul (fC (.int 2)) (f2 gMod (fVar 6) (fC (.int 6)))) (fC (.int 1))) (zy (f2 gSub (f2 gMod (f2 gDiv (fVar 6) (fC (.int 6))) (fC (.int 9))) (fC (.int 1))) (hNil)))))
 (seqS (zjd)
 (seqS (whlD (zcz)
 (zdl) 100)
 (appS 4 (fVar 7)))))
noncomputable def zd8 : FS :=
 seqS (setS 4 false (fLst (hNil)))
 (seqS (forS (tB (zh (fVar 2) (fNil))) (gN 5)
 (zdk))
 (retS (fVar 4)))
noncomputable def vL : List D → Out Val := runD 8 zd8
theorem zfJ : ∀ ds v,ds.length = 4 → vL ds = .ok v → runD 8 zd8 ds = .ok v := fun _ _ _ h => h
theorem zjF {ft : FT} {fb : FS} {n : Nat} {env : Ev} (h : ft env = .ok false) : whlD ft fb (n + 1) env = .ok (.next env) := by
 unfold whlD
 rw [h]
 rfl
theorem zer (ns : List Int) (s1 s2 : Slot) (ps got : List Spot) (k : Int) (s6 : Slot) (hk : 0 < k) (hne : got ≠ []) (hgo : odd9 (yo got)) : ∀ (n m : Nat) (c : Spot),odd9 c → hitV (yo got) (ue (yo got) ps n c) ps = false →
 whlD zcz zdl (n + 1 + m) [.pers (.scr ns),s1,s2,.pers (.lst (ps.map zd)),.own (got.map zd),.pers (.int k),s6,.pers (zd c)] =
  .ok (.next [.pers (.scr ns),s1,s2,.pers (.lst (ps.map zd)),.own (got.map zd),.pers (.int k),s6,.pers (zd (ue (yo got) ps n c))]) := by
 have hlast : atI (got.map zd) (-1) = some (zd (yo got)) := by
  unfold yo
  rw [zcu,List.length_map,List.getElem?_map,← List.getLast?_eq_getElem?,List.getLastD_eq_getLast?,List.getLast?_eq_some_getLast hne]
  rfl
 have htest : ∀ c : Spot,odd9 c → zcz [.pers (.scr ns),s1,s2,.pers (.lst (ps.map zd)),.own (got.map zd),.pers (.int k),s6,.pers (zd c)] = .ok (hitV (yo got) c ps) := by
  intro c hc
  have hh := zio (zbI hgo hc) ps
  simp [hlast,hh,hk]
 intro n
 induction n with
 | zero =>
   intro m c hc hf
   rw [show 0 + 1 + m = m + 1 by lia]
   unfold whlD
   rw [htest c hc,zj]
   have hf' : hitV (yo got) c ps = false := hf
   rw [hf']
   rfl
 | succ n ih =>
   intro m c hc hf
   rw [show n + 1 + 1 + m = (n + 1 + m) + 1 by lia]
   unfold whlD
   rw [htest c hc,zj]
   unfold ue at hf ⊢
   by_cases hq : hitV (yo got) c ps = true
   ·rw [if_pos hq] at hf
    rw [if_pos hq,if_pos hq]
    have hb : zdl [.pers (.scr ns),s1,s2,.pers (.lst (ps.map zd)),.own (got.map zd),.pers (.int k),s6,.pers (zd c)] = .ok (.next [.pers (.scr ns),s1,s2,.pers (.lst (ps.map zd)),.own (got.map zd),.pers (.int k),s6,.pers (zd (c.1,c.2 + 1))]) := by
     simp [zd,at0,at1]
    rw [hb,zj]
    exact ih m (c.1,c.2 + 1) hc hf
   ·rw [if_neg hq,if_neg hq]
theorem zcE (ns : List Int) (zx many : Int) (ps : List Spot) (h0 : 0 ≤ zx) (h3 : zx ≤ 1000) (h1 : 0 ≤ many) (h2 : many ≤ 1000) (hp : ps.length ≤ 12) :
 vL [.scr ns,.int zx,.int many,.lst (ps.map zd)] = .ok (.fresh ((zB ns zx ps many.toNat).map zd)) := by
 have loop := uQ (g := gN 5) (fb := zdk) (fun j env => ∃ s5 s6 s7,env = [.pers (.scr ns),.pers (.int zx),.pers (.int many),.pers (.lst (ps.map zd)),.own ((zB ns zx ps j).map zd),s5,s6,s7])
  (rngD 0 many.toNat) 0 [.pers (.scr ns),.pers (.int zx),.pers (.int many),.pers (.lst (ps.map zd)),.own [],.un,.un,.un] ⟨_,_,_,rfl⟩ (by
   rintro j d env _ hd ⟨s5,s6,s7,rfl⟩
   obtain ⟨hj,rfl⟩ := zcG hd
   rw [Nat.sub_zero] at hj ⊢
   have hm : zV [.scr ns,.int (zx + (0 + (j : Int)))] = .ok (.pers (.int (zq ns (zx + j)))) := by
    unfold zV
    simp
    lia
   have hlen := xU ns zx ps j
   refine ⟨_,[.pers (.scr ns),.pers (.int zx),.pers (.int many),.pers (.lst (ps.map zd)),.own ((zB ns zx ps (j + 1)).map zd),.pers (.int (0 + (j : Int))),.pers (.int (zq ns (zx + j))),.pers (zd (vq ns zx ps j (zB ns zx ps j)))],rfl,?_,⟨_,_,_,rfl⟩⟩
   have hd6 : cDiv (zq ns (zx + j)) 6 = true := xF (by decide) (by decide)
   have hd54 : cDiv (zq ns (zx + j)) 54 = true := xF (by decide) (by decide)
   have hc2 : ∀ i,cMul 2 i = true := fun i => ve (by decide) (by decide)
   have h6 : zV [.scr ns,.int (zx + (j : Int))] = .ok (.pers (.int (zq ns (zx + j)))) := by simpa using hm
   have hlt : (zB ns zx ps j).length < 100000 := by lia
   have hend : ∀ c : Spot,appS 4 (fVar 7) [.pers (.scr ns),.pers (.int zx),.pers (.int many),.pers (.lst (ps.map zd)),.own ((zB ns zx ps j).map zd),.pers (.int (0 + (j : Int))),.pers (.int (zq ns (zx + j))),.pers (zd c)] =
    .ok (.next [.pers (.scr ns),.pers (.int zx),.pers (.int many),.pers (.lst (ps.map zd)),.own ((zB ns zx ps j ++ [c]).map zd),.pers (.int (0 + (j : Int))),.pers (.int (zq ns (zx + j))),.pers (zd c)]) := by
    intro c
    simp [hlt]
   unfold zdk
   rw [zm (env' := [.pers (.scr ns),.pers (.int zx),.pers (.int many),.pers (.lst (ps.map zd)),.own ((zB ns zx ps j).map zd),.pers (.int (0 + (j : Int))),.pers (.int (zq ns (zx + j))),s7]) (by simp [h6])]
   rw [zm (env' := [.pers (.scr ns),.pers (.int zx),.pers (.int many),.pers (.lst (ps.map zd)),.own ((zB ns zx ps j).map zd),.pers (.int (0 + (j : Int))),.pers (.int (zq ns (zx + j))),.pers (zd (x5 (zq ns (zx + j))))]) (by simp [hd6,hc2,zd,x5])]
   by_cases hj0 : j = 0
   ·subst hj0
    rw [zm (env' := [.pers (.scr ns),.pers (.int zx),.pers (.int many),.pers (.lst (ps.map zd)),.own ((zB ns zx ps 0).map zd),.pers (.int (0 + ((0 : Nat) : Int))),.pers (.int (zq ns (zx + (0 : Nat)))),.pers (zd (x5 (zq ns (zx + (0 : Nat)))))]) (by simp)]
    rw [zm (zjF (n := 99) (by simp))]
    exact hend _
   ·have hjp : (0 : Int) < 0 + (j : Int) := by lia
    have hne : zB ns zx ps j ≠ [] := fun z => hj0 (by rw [← hlen,z]; rfl)
    have hodd := wM ns zx ps j _ (tm hne)
    have hlast : atI ((zB ns zx ps j).map zd) (-1) = some (zd (yo (zB ns zx ps j))) := by
     unfold yo
     rw [zcu,List.length_map,List.getElem?_map,← List.getLast?_eq_getElem?,List.getLastD_eq_getLast?,List.getLast?_eq_some_getLast hne]
     rfl
    have hcv : vq ns zx ps j (zB ns zx ps j) = ue (yo (zB ns zx ps j)) ps 12 (if zq ns (zx + j) / 54 % 6 = 1 then yo (zB ns zx ps j) else x5 (zq ns (zx + j))) := by
     unfold vq
     rw [if_neg hj0]
    have hcodd : odd9 (if zq ns (zx + j) / 54 % 6 = 1 then yo (zB ns zx ps j) else x5 (zq ns (zx + j))) := by
     split
     ·exact hodd
     ·exact vt _
    rw [zm (env' := [.pers (.scr ns),.pers (.int zx),.pers (.int many),.pers (.lst (ps.map zd)),.own ((zB ns zx ps j).map zd),.pers (.int (0 + (j : Int))),.pers (.int (zq ns (zx + j))),.pers (zd (if zq ns (zx + j) / 54 % 6 = 1 then yo (zB ns zx ps j) else x5 (zq ns (zx + j))))]) (by
     have hjp' : 0 < j := by lia
     by_cases hq : zq ns (zx + j) / 54 % 6 = 1
     ·simp [hjp',hd54,hq,hlast]
     ·simp [hjp',hd54,hq])]
    rw [zm (zer ns (.pers (.int zx)) (.pers (.int many)) ps (zB ns zx ps j) (0 + (j : Int)) (.pers (.int (zq ns (zx + j)))) hjp hne hodd 12 87 _ hcodd (zbR _ ps 12 _ hp))]
    rw [← hcv]
    exact hend _)
 obtain ⟨env',e,s5,s6,s7,rfl⟩ := loop
 rw [zcF,Nat.zero_add] at e
 have hb : -1000000 ≤ many ∧ many ≤ 1000000 := by lia
 unfold vL
 simp [zd8,hb,e]
@[reducible] noncomputable def za8 : FS :=
 ifS (fTrB (f2 gEq (fVar 3) (fC (.int 3))))
 (setS 5 true (f2 gAdd (f2 gAdd (fSl (fVar 1) (fSo (fC (.int 1))) (fSo (fVar 4))) (zz vL (zh (fVar 0) (zh (fC (.int 43)) (zh (fC (.int 1)) (zh (fVar 2) (fNil))))))) (fSl (fVar 1) (fSo (fVar 4)) (fSo (f1 gNeg (fC (.int 1)))))))
 (setS 5 true (fSl (fVar 1) (fSo (fC (.int 1))) (fSo (f1 gNeg (fC (.int 1))))))
@[reducible] noncomputable def za7 : FS :=
 ifS (fTrB (f2 gEq (fVar 3) (fC (.int 2))))
 (setS 5 true (f2 gAdd (fSl (fVar 1) (fSo (fC (.int 1))) (fSo (fVar 4))) (fSl (fVar 1) (fSo (f2 gAdd (fVar 4) (fC (.int 1)))) (fSo (f1 gNeg (fC (.int 1)))))))
 (za8)
@[reducible] noncomputable def za6 : FS :=
 ifS (fTrB (f2 gEq (fVar 3) (fC (.int 1))))
 (setS 5 true (f1 zjl (fSl (fVar 1) (fSo (fC (.int 1))) (fSo (f1 gNeg (fC (.int 1)))))))
 (za7)
@[reducible] noncomputable def za5 : FS :=
 ifS (fTrB (f2 gEq (fVar 3) (fC (.int 0))))
 (setS 5 true (zz vL (zh (fVar 0) (zh (fC (.int 42)) (zh (f2 gAdd (fC (.int 1)) (f2 gMod (zz zV (zh (fVar 0) (zh (fC (.int 50)) (fNil)))) (fC (.int 5)))) (zh (fVar 2) (fNil)))))))
 (za6)
noncomputable def tz : FS :=
 seqS (setS 3 true (f2 gMod (zz zV (zh (fVar 0) (zh (fC (.int 40)) (fNil)))) (fC (.int 5))))
 (seqS (setS 4 true (f2 gAdd (fC (.int 1)) (f2 gMod (zz zV (zh (fVar 0) (zh (fC (.int 41)) (fNil)))) (fB zcY (zh (fC (.int 1)) (zh (f2 gSub (fB gLen (zh (fVar 1) (fNil))) (fC (.int 2))) (fNil)))))))
 (seqS (za5)
 (retS (f2 gAdd (f2 gAdd (fLst (zy (f2 gIx (fVar 1) (fC (.int 0))) (hNil))) (fVar 5)) (fLst (zy (f2 gIx (fVar 1) (f1 gNeg (fC (.int 1)))) (hNil)))))))
noncomputable def ud : List D → Out Val := runD 6 tz
theorem zeB : ∀ ds v,ds.length = 3 → ud ds = .ok v → runD 6 tz ds = .ok v := fun _ _ _ h => h
theorem zhq (ns : List Int) {ps rope : List Spot} (hp : ps.length ≤ 12) (ho : ∀ c ∈ rope,odd9 c) (h2 : 2 ≤ rope.length) (h8 : rope.length ≤ 20) : ∃ mid : List Spot,
 ud [.scr ns,.lst (rope.map zd),.lst (ps.map zd)] = .ok (.fresh (([xz rope] ++ mid ++ [yo rope]).map zd)) ∧ (∀ c ∈ mid,odd9 c) ∧ mid.length ≤ 50 := by
 have hm40 := za1 ns 40 (by lia)
 have hm41 := za1 ns 41 (by lia)
 have hm50 := za1 ns 50 (by lia)
 obtain ⟨w,hw⟩ : ∃ w,w = zq ns 40 % 5 := ⟨_,rfl⟩
 obtain ⟨mx,hmx⟩ : ∃ mx : Int,mx = if (rope.length : Int) - 2 > 1 then (rope.length : Int) - 2 else 1 := ⟨_,rfl⟩
 have hmp : 0 < mx := by rw [hmx]; split <;> lia
 obtain ⟨at_,hat⟩ : ∃ at_,at_ = 1 + zq ns 41 % mx := ⟨_,rfl⟩
 obtain ⟨E,hE⟩ : ∃ E : Slot → Ev,E = fun s => [.pers (.scr ns),.pers (.lst (rope.map zd)),.pers (.lst (ps.map zd)),.pers (.int w),.pers (.int at_),s] := ⟨_,rfl⟩
 have hsub : ∀ lo hi,∀ c ∈ cutL rope lo hi,odd9 c := fun lo hi c hc => ho c ((zeb rope lo hi).subset hc)
 have hsl : ∀ lo hi,(cutL rope lo hi).length ≤ 20 := fun lo hi => Nat.le_trans (zeb rope lo hi).length_le h8
 have hmid : ∃ mid : List Spot,za5 (E .un) = .ok (.next (E (.pers (.lst (mid.map zd))))) ∧ (∀ c ∈ mid,odd9 c) ∧ mid.length ≤ 50 := by
  by_cases h0 : w = 0
  ·have hr := zcE ns 42 (1 + zq ns 50 % 5) ps (by lia) (by lia) (by lia) (by lia) hp
   refine ⟨zB ns 42 ps (1 + zq ns 50 % 5).toNat,?_,wM ns 42 ps _,?_⟩
   ·subst hE
    have hc : fTrB (f2 gEq (fVar 3) (fC (.int 0))) [.pers (.scr ns),.pers (.lst (rope.map zd)),.pers (.lst (ps.map zd)),.pers (.int w),.pers (.int at_),.un] = .ok true := by simp [h0]
    simp only [ifS,hc,zj,if_true]
    simp [hm50,hr]
   ·rw [xU]; lia
  ·have hc0 : fTrB (f2 gEq (fVar 3) (fC (.int 0))) (E .un) = .ok false := by subst hE; simp [h0]
   simp only [za5,ifS,hc0,zj,Bool.false_eq_true,if_false]
   by_cases h1 : w = 1
   ·have hc1 : fTrB (f2 gEq (fVar 3) (fC (.int 1))) (E .un) = .ok true := by subst hE; simp [h1]
    simp only [za6,ifS,hc1,zj,if_true]
    refine ⟨(cutL rope (some 1) (some (-1))).reverse,?_,fun c hc => hsub _ _ c (List.mem_reverse.mp hc),?_⟩
    ·subst hE; simp [zbf]
    ·rw [List.length_reverse]; have := hsl (some 1) (some (-1)); lia
   ·have hc1 : fTrB (f2 gEq (fVar 3) (fC (.int 1))) (E .un) = .ok false := by subst hE; simp [h1]
    simp only [za6,ifS,hc1,zj,Bool.false_eq_true,if_false]
    by_cases h2' : w = 2
    ·have hc2 : fTrB (f2 gEq (fVar 3) (fC (.int 2))) (E .un) = .ok true := by subst hE; simp [h2']
     simp only [za7,ifS,hc2,zj,if_true]
     have l1 := hsl (some 1) (some at_)
     have l2 := hsl (some (at_ + 1)) (some (-1))
     refine ⟨cutL rope (some 1) (some at_) ++ cutL rope (some (at_ + 1)) (some (-1)),?_,fun c hc => ?_,?_⟩
     ·subst hE
      have hl : (cutL rope (some 1) (some at_)).length + (cutL rope (some (at_ + 1)) (some (-1))).length ≤ 100000 := by lia
      simp [zbf,hl]
     ·rcases List.mem_append.mp hc with hc | hc
      ·exact hsub _ _ c hc
      ·exact hsub _ _ c hc
     ·rw [List.length_append]; lia
    ·have hc2 : fTrB (f2 gEq (fVar 3) (fC (.int 2))) (E .un) = .ok false := by subst hE; simp [h2']
     simp only [za7,ifS,hc2,zj,Bool.false_eq_true,if_false]
     by_cases h3 : w = 3
     ·have hc3 : fTrB (f2 gEq (fVar 3) (fC (.int 3))) (E .un) = .ok true := by subst hE; simp [h3]
      simp only [za8,ifS,hc3,zj,if_true]
      have hr := zcE ns 43 1 ps (by lia) (by lia) (by lia) (by lia) hp
      have l0 := xU ns 43 ps (1 : Int).toNat
      have l1 := hsl (some 1) (some at_)
      have l2 := hsl (some at_) (some (-1))
      refine ⟨cutL rope (some 1) (some at_) ++ zB ns 43 ps (1 : Int).toNat ++ cutL rope (some at_) (some (-1)),?_,fun c hc => ?_,?_⟩
      ·subst hE
       generalize hR : zB ns 43 ps (1 : Int).toNat = R at hr l0 ⊢
       have hl : (cutL rope (some 1) (some at_)).length + R.length ≤ 100000 := by rw [l0]; simp; lia
       have hl' : (cutL rope (some 1) (some at_)).length + R.length + (cutL rope (some at_) (some (-1))).length ≤ 100000 := by rw [l0]; simp; lia
       simp [zbf,hr,hl,hl']
      ·rcases List.mem_append.mp hc with hc | hc
       ·rcases List.mem_append.mp hc with hc | hc
        ·exact hsub _ _ c hc
        ·exact wM ns 43 ps _ c hc
       ·exact hsub _ _ c hc
      ·rw [List.length_append,List.length_append,l0]; simp; lia
     ·have hc3 : fTrB (f2 gEq (fVar 3) (fC (.int 3))) (E .un) = .ok false := by subst hE; simp [h3]
      simp only [za8,ifS,hc3,zj,Bool.false_eq_true,if_false]
      have l1 := hsl (some 1) (some (-1))
      refine ⟨cutL rope (some 1) (some (-1)),?_,hsub _ _,by lia⟩
      subst hE
      simp [zbf]
 obtain ⟨mid,e,mo,ml⟩ := hmid
 refine ⟨mid,?_,mo,ml⟩
 have hne : rope ≠ [] := fun z => by rw [z] at h2; simp at h2
 have hA := zbo hne
 have hZ := zdo hne
 unfold ud
 show ((tz [.pers (.scr ns),.pers (.lst (rope.map zd)),.pers (.lst (ps.map zd)),.un,.un,.un]).bind _) = _
 unfold tz
 rw [zm (env' := [.pers (.scr ns),.pers (.lst (rope.map zd)),.pers (.lst (ps.map zd)),.pers (.int w),.un,.un]) (by simp [hm40,hw])]
 rw [zm (env' := [.pers (.scr ns),.pers (.lst (rope.map zd)),.pers (.lst (ps.map zd)),.pers (.int w),.pers (.int at_),.un]) (by
  have hB : fB zcY (zh (fC (.int 1)) (zh (f2 gSub (fB gLen (zh (fVar 1) (fNil))) (fC (.int 2))) (fNil))) [.pers (.scr ns),.pers (.lst (rope.map zd)),.pers (.lst (ps.map zd)),.pers (.int w),.un,.un] = .ok (.pers (.int mx)) := by
   rw [hmx]
   simp
  have hC : zz zV (zh (fVar 0) (zh (fC (.int 41)) (fNil))) [.pers (.scr ns),.pers (.lst (rope.map zd)),.pers (.lst (ps.map zd)),.pers (.int w),.un,.un] = .ok (.pers (.int (zq ns 41))) := by simp [hm41]
  rw [hat]
  simp only [setS,f2,fC,hB,hC,zj,Val.d,gMod,gI,hmp,decide_true,if_true,gAdd]
  try rfl)]
 rw [zm (by subst hE; exact e)]
 have l1 : 1 + mid.length ≤ 100000 := by lia
 have l2 : 1 + mid.length + 1 ≤ 100000 := by lia
 subst hE
 have hR : f2 gAdd (f2 gAdd (fLst (zy (f2 gIx (fVar 1) (fC (.int 0))) (hNil))) (fVar 5)) (fLst (zy (f2 gIx (fVar 1) (f1 gNeg (fC (.int 1)))) (hNil))) [.pers (.scr ns),.pers (.lst (rope.map zd)),.pers (.lst (ps.map zd)),.pers (.int w),.pers (.int at_),.pers (.lst (mid.map zd))] = .ok (.fresh (([xz rope] ++ mid ++ [yo rope]).map zd)) := by
  have a1 : fLst (zy (f2 gIx (fVar 1) (fC (.int 0))) (hNil)) [.pers (.scr ns),.pers (.lst (rope.map zd)),.pers (.lst (ps.map zd)),.pers (.int w),.pers (.int at_),.pers (.lst (mid.map zd))] = .ok (.fresh [zd (xz rope)]) := by simp [hA]
  have a2 : fLst (zy (f2 gIx (fVar 1) (f1 gNeg (fC (.int 1)))) (hNil)) [.pers (.scr ns),.pers (.lst (rope.map zd)),.pers (.lst (ps.map zd)),.pers (.int w),.pers (.int at_),.pers (.lst (mid.map zd))] = .ok (.fresh [zd (yo rope)]) := by simp [hZ]
  simp only [f2,fVar,List.getElem?_cons_zero,List.getElem?_cons_succ,zj] at a1 a2 ⊢
  rw [a1,a2]
  simp only [zj,Val.d,gAdd]
  rw [if_pos (by simp; lia)]
  simp only [zj,Val.d]
  rw [if_pos (by simp; lia)]
  simp
 simp only [retS,hR,zj]
@[reducible] noncomputable def zjg : FS :=
 ifS (fTr (zz zcP (zh (f2 gIx (fVar 0) (fVar 2)) (zh (f2 gIx (fVar 0) (f2 gAdd (fVar 2) (fC (.int 1)))) (zh (fVar 1) (fNil))))))
 (retS (fC (.bl false)))
 (nxtS)
@[reducible] noncomputable def zdn : FS :=
 zjg
noncomputable def zb5 : FS :=
 seqS (forS (tB (zh (f2 gSub (fB gLen (zh (fVar 0) (fNil))) (fC (.int 1))) (fNil))) (gN 2)
 (zdn))
 (retS (fC (.bl true)))
noncomputable def u7 : List D → Out Val := runD 3 zb5
theorem zfN : ∀ ds v,ds.length = 2 → u7 ds = .ok v → runD 3 zb5 ds = .ok v := fun _ _ _ h => h
theorem zd7 (rope ps : List Spot) (hn : ∀ q ∈ consec rope,near q.1 q.2) : ∀ (n k : Nat) (s2 : Slot),k + n + 1 ≤ rope.length → ∃ s2',forD (gN 2) zdn (rngD (k : Int) n) [.pers (.lst (rope.map zd)),.pers (.lst (ps.map zd)),s2] =
 if (((consec rope).drop k).take n).any (fun q => hitV q.1 q.2 ps) = true then .ok (.ret (.pers (.bl false))) else .ok (.next [.pers (.lst (rope.map zd)),.pers (.lst (ps.map zd)),s2'])
 | 0,k,s2,_ => ⟨s2,by simp [rngD,forD]⟩
 | n + 1,k,s2,hk => by
   obtain ⟨s2',e⟩ := zd7 rope ps hn n (k + 1) (.pers (.int (k : Int))) (by lia)
   have hd := zdd (rope := rope) (k := k) (by lia)
   have hm : (rope[k],rope[k + 1]) ∈ consec rope := List.mem_of_mem_drop (i := k) (by rw [hd]; simp)
   have hh := zio (hn _ hm) ps
   simp only at hh
   have ha := zix rope k k rfl (by lia)
   have hb := zix rope (k + 1) ((k : Int) + 1) (by lia) (by lia)
   refine ⟨s2',?_⟩
   have hg : gN 2 (.int (k : Int)) [.pers (.lst (rope.map zd)),.pers (.lst (ps.map zd)),s2] = .ok [.pers (.lst (rope.map zd)),.pers (.lst (ps.map zd)),.pers (.int (k : Int))] := rfl
   have hc : zz zcP (zh (f2 gIx (fVar 0) (fVar 2)) (zh (f2 gIx (fVar 0) (f2 gAdd (fVar 2) (fC (.int 1)))) (zh (fVar 1) (fNil)))) [.pers (.lst (rope.map zd)),.pers (.lst (ps.map zd)),.pers (.int (k : Int))] = .ok (.pers (.bl (hitV rope[k] rope[k + 1] ps))) := by
    simp [ha,hb,hh]
   have hb' : zdn [.pers (.lst (rope.map zd)),.pers (.lst (ps.map zd)),.pers (.int (k : Int))] = if hitV rope[k] rope[k + 1] ps = true then .ok (.ret (.pers (.bl false))) else .ok (.next [.pers (.lst (rope.map zd)),.pers (.lst (ps.map zd)),.pers (.int (k : Int))]) := by
    simp only [ifS,fTr,hc,zj,Val.d,trD]
    rfl
   rw [zhc,forD,hg,zj,hb',hd,List.take_succ_cons,List.any_cons]
   have hk1 : ((k : Int) + 1) = ((k + 1 : Nat) : Int) := by lia
   cases hv : hitV rope[k] rope[k + 1] ps with
   | true => simp
   | false =>
     simp only [Bool.false_eq_true,if_false,zj,Bool.false_or]
     rw [hk1,e]
theorem zjn {rope ps : List Spot} (hn : ∀ q ∈ consec rope,near q.1 q.2) (h1 : 1 ≤ rope.length) (h2 : rope.length ≤ 1000) : u7 [.lst (rope.map zd),.lst (ps.map zd)] = .ok (.pers (.bl (!hits ps rope))) := by
 obtain ⟨s2,e⟩ := zd7 rope ps hn (rope.length - 1) 0 .un (by lia)
 have ht : ((consec rope).drop 0).take (rope.length - 1) = consec rope := by
  rw [List.drop_zero,List.take_of_length_le]
  simp [consec]
 rw [ht] at e
 have hr : tB (zh (f2 gSub (fB gLen (zh (fVar 0) (fNil))) (fC (.int 1))) (fNil)) [.pers (.lst (rope.map zd)),.pers (.lst (ps.map zd)),.un] = .ok (rngD 0 (rope.length - 1)) := by
  rw [ziF (n := (rope.length : Int) - 1) (by simp) (by lia)]
  congr 2
  lia
 unfold u7
 show ((zb5 [.pers (.lst (rope.map zd)),.pers (.lst (ps.map zd)),.un]).bind _) = _
 unfold zb5 hits
 cases hv : (consec rope).any (fun q => hitV q.1 q.2 ps) with
 | true =>
   rw [hv,if_pos rfl] at e
   rw [zcA (by simp only [forS,hr,zj]; exact e)]
   rfl
 | false =>
   rw [hv,if_neg (by simp)] at e
   rw [zm (by simp only [forS,hr,zj]; exact e)]
   rfl
@[reducible] noncomputable def zje : FS :=
 ifS (fAnd (fTrB (f2 gNe (fVar 1) (fLst (hNil)))) (fTrB (f2 gEq (f2 gIx (fVar 1) (f1 gNeg (fC (.int 1)))) (fTup (zy (fVar 2) (zy (fVar 3) (zy (fVar 4) (zy (f2 gSub (fC (.int 0)) (fVar 5)) (hNil)))))))))
 (popS 1)
 (appS 1 (fTup (zy (fVar 2) (zy (fVar 3) (zy (fVar 4) (zy (fVar 5) (hNil)))))))
@[reducible] noncomputable def zdm : FS :=
 zje
noncomputable def zb4 : FS :=
 seqS (setS 1 false (fLst (hNil)))
 (seqS (forS (fItL (fVar 0)) (gT [2,3,4,5])
 (zdm))
 (retS (fVar 1)))
noncomputable def w8 : List D → Out Val := runD 6 zb4
theorem zfL : ∀ ds v,ds.length = 1 → w8 ds = .ok v → runD 6 zb4 ds = .ok v := fun _ _ _ h => h
theorem zdX (s0 : Slot) : ∀ (gs st : List Gate) (s2 s3 s4 s5 : Slot),(∀ g ∈ gs,Way g) → (∀ g ∈ st,Way g) → st.length + gs.length ≤ 10000 →
 ∃ s2' s3' s4' s5',forD (gT [2,3,4,5]) zdm (gs.map zn) [s0,.own (st.map zn),s2,s3,s4,s5] = .ok (.next [s0,.own ((gs.foldl vC st).map zn),s2',s3',s4',s5'])
 | [],st,s2,s3,s4,s5,_,_,_ => ⟨s2,s3,s4,s5,rfl⟩
 | g :: gs,st,s2,s3,s4,s5,hw,hst,hl => by
   have hstep := zbv st g
   have hgw := hw g (by simp)
   have hst' : ∀ x ∈ vC st g,Way x := by
    intro x hx
    unfold vC at hx
    split at hx
    ·split at hx
     ·exact hst x (List.dropLast_subset _ hx)
     ·rcases List.mem_append.mp hx with hx | hx
      ·exact hst x hx
      ·rw [List.mem_singleton.mp hx]; exact hgw
    ·rcases List.mem_append.mp hx with hx | hx
     ·exact hst x hx
     ·rw [List.mem_singleton.mp hx]; exact hgw
   obtain ⟨s2',s3',s4',s5',e⟩ := zdX s0 gs (vC st g) (.pers (.int g.x)) (.pers (optD g.lo)) (.pers (optD g.hi)) (.pers (.int g.w)) (fun x hx => hw x (by simp [hx])) hst' (by simp at hl; lia)
   refine ⟨s2',s3',s4',s5',?_⟩
   have hgt : gT [2,3,4,5] (zn g) [s0,.own (st.map zn),s2,s3,s4,s5] = .ok [s0,.own (st.map zn),.pers (.int g.x),.pers (optD g.lo),.pers (optD g.hi),.pers (.int g.w)] := rfl
   have hlt : st.length < 100000 := by simp at hl; lia
   have step : zdm [s0,.own (st.map zn),.pers (.int g.x),.pers (optD g.lo),.pers (optD g.hi),.pers (.int g.w)] = .ok (.next [s0,.own ((vC st g).map zn),.pers (.int g.x),.pers (optD g.lo),.pers (optD g.hi),.pers (.int g.w)]) := by
    have c1 : f2 gNe (fVar 1) (fLst (hNil)) [s0,.own (st.map zn),.pers (.int g.x),.pers (optD g.lo),.pers (optD g.hi),.pers (.int g.w)] = .ok (.pers (.bl (decide (st ≠ [])))) := by
     show gNe (.lst (st.map zn)) (.lst []) = _
     have hs := v6 2 st
     have he : eqD (.lst (st.map zn)) (.lst []) = decide (st = []) := by
      have := vU zn zbc st []
      rw [tF]
      exact this
     simp only [gNe,hs,Bool.true_or,if_true,he]
     simp
    have happ : appS 1 (fTup (zy (fVar 2) (zy (fVar 3) (zy (fVar 4) (zy (fVar 5) (hNil)))))) [s0,.own (st.map zn),.pers (.int g.x),.pers (optD g.lo),.pers (optD g.hi),.pers (.int g.w)] = .ok (.next [s0,.own ((st ++ [g]).map zn),.pers (.int g.x),.pers (optD g.lo),.pers (optD g.hi),.pers (.int g.w)]) := by
     simp [hlt,zn]
    unfold vC
    cases q : st.getLast? with
    | none =>
      have : st = [] := List.getLast?_eq_none_iff.mp q
      rw [show decide (st ≠ []) = false by simp [this]] at c1
      simp only [ifS,fAnd,fTrB,c1,zj,Val.d]
      exact happ
    | some t =>
      have hne : st ≠ [] := fun z => by subst z; cases q
      rw [show decide (st ≠ []) = true by simp [hne]] at c1
      have hat : atI (st.map zn) (-1) = some (zn t) := by
       rw [zcu,List.length_map,List.getElem?_map,← List.getLast?_eq_getElem?,q]
       rfl
      have htw := hst t (List.mem_of_getLast? q)
      have hopp : opp t g = decide (t = ⟨g.x,g.lo,g.hi,0 - g.w⟩) := by
       unfold opp
       have hx : t = ⟨g.x,g.lo,g.hi,0 - g.w⟩ ↔ (t.x = g.x ∧ t.lo = g.lo ∧ t.hi = g.hi) ∧ ¬ t.w = g.w := by
        constructor
        ·intro h
         have hw1 : t.w = 0 - g.w := by rw [h]
         refine ⟨⟨by rw [h],by rw [h],by rw [h]⟩,?_⟩
         rcases hgw with z | z <;> lia
        ·rintro ⟨⟨h1,h2,h3⟩,h4⟩
         cases t
         simp only at h1 h2 h3 h4
         subst h1; subst h2; subst h3
         congr 1
         rcases hgw with z | z <;> rcases htw with y | y <;> simp only at y <;> lia
       by_cases hh : t = ⟨g.x,g.lo,g.hi,0 - g.w⟩
       ·have := hx.mp hh
        rw [decide_eq_true hh]
        simp [this.1,this.2]
       ·rw [decide_eq_false hh]
        by_cases h5 : t.x = g.x ∧ t.lo = g.lo ∧ t.hi = g.hi
        ·have h6 : t.w = g.w := by
          by_cases h7 : t.w = g.w
          ·exact h7
          ·exact absurd (hx.mpr ⟨h5,h7⟩) hh
         simp [h6]
        ·simp [h5]
      have c2 : f2 gEq (f2 gIx (fVar 1) (f1 gNeg (fC (.int 1)))) (fTup (zy (fVar 2) (zy (fVar 3) (zy (fVar 4) (zy (f2 gSub (fC (.int 0)) (fVar 5)) (hNil)))))) [s0,.own (st.map zn),.pers (.int g.x),.pers (optD g.lo),.pers (optD g.hi),.pers (.int g.w)] = .ok (.pers (.bl (opp t g))) := by
       have e1 : f2 gIx (fVar 1) (f1 gNeg (fC (.int 1))) [s0,.own (st.map zn),.pers (.int g.x),.pers (optD g.lo),.pers (optD g.hi),.pers (.int g.w)] = .ok (.pers (zn t)) := by simp [hat]
       have e2 : fTup (zy (fVar 2) (zy (fVar 3) (zy (fVar 4) (zy (f2 gSub (fC (.int 0)) (fVar 5)) (hNil))))) [s0,.own (st.map zn),.pers (.int g.x),.pers (optD g.lo),.pers (optD g.hi),.pers (.int g.w)] = .ok (.pers (zn ⟨g.x,g.lo,g.hi,0 - g.w⟩)) := by simp [zn]
       rw [hopp,← zbc]
       show ((f2 gIx (fVar 1) (f1 gNeg (fC (.int 1))) [s0,.own (st.map zn),.pers (.int g.x),.pers (optD g.lo),.pers (optD g.hi),.pers (.int g.w)]).bind _) = _
       rw [e1,zj,e2,zj]
       simp only [Val.d,gEq,zbz 3,Bool.true_or,if_true]
      have hne2 : ¬ st.length = 0 := by
       intro z
       exact hne (List.eq_nil_of_length_eq_zero z)
      cases ho : opp t g with
      | true =>
        rw [ho] at c2
        simp only [ifS,fAnd,fTrB,c1,c2,zj,Val.d]
        simp [hne2,hne,List.map_dropLast,ho]
      | false =>
        rw [ho] at c2
        simp only [ifS,fAnd,fTrB,c1,c2,zj,Val.d]
        simpa [ho] using happ
   simp only [List.map_cons,List.foldl_cons,forD,hgt,zj,step,e]
theorem zfX {gs : List Gate} (hw : ∀ g ∈ gs,Way g) (hl : gs.length ≤ 10000) : w8 [.lst (gs.map zn)] = .ok (.fresh ((yc gs).map zn)) := by
 obtain ⟨s2,s3,s4,s5,e⟩ := zdX (.pers (.lst (gs.map zn))) gs [] .un .un .un .un hw (by simp) (by simpa using hl)
 simp only [List.map_nil] at e
 unfold w8
 show ((zb4 [.pers (.lst (gs.map zn)),.un,.un,.un,.un,.un]).bind _) = _
 unfold zb4
 rw [zm (env' := [.pers (.lst (gs.map zn)),.own [],.un,.un,.un,.un]) (by simp)]
 rw [zm (env' := _) (by
  have hi : fItL (fVar 0) [.pers (.lst (gs.map zn)),.own [],.un,.un,.un,.un] = .ok (gs.map zn) := rfl
  simp only [forS,hi,zj]
  exact e)]
 rfl
@[reducible] noncomputable def zjf : FS :=
 ifS (fTrB (f2 gIsN (fVar 7) (fC .non)))
 (setS 7 true (fVar 8))
 (nxtS)
@[reducible] noncomputable def zjc : FS :=
 ifS (fTrB (f2 gGt (f2 gMul (fVar 10) (fVar 5)) (fC (.int 0))))
 (setS 6 true (fVar 8))
 (zjf)
@[reducible] noncomputable def zbn : FS :=
 seqS (setS 9 true (f2 gMul (f2 gSub (f2 gIx (fVar 1) (fC (.int 1))) (f2 gIx (fVar 0) (fC (.int 1)))) (f2 gSub (fVar 3) (f2 gIx (fVar 0) (fC (.int 0))))))
 (seqS (setS 10 true (f2 gAdd (f2 gMul (f2 gSub (f2 gIx (fVar 0) (fC (.int 1))) (fVar 8)) (fVar 5)) (fVar 9)))
 (zjc))
noncomputable def zax : FS :=
 seqS (asgS (gT [3,4]) (fVar 2))
 (seqS (setS 5 true (f2 gSub (f2 gIx (fVar 1) (fC (.int 0))) (f2 gIx (fVar 0) (fC (.int 0)))))
 (seqS (setS 6 true (fC .non))
 (seqS (setS 7 true (fC .non))
 (seqS (forS (fItL (fVar 4)) (gN 8)
 (zbn))
 (retS (fTup (zy (fVar 3) (zy (fVar 6) (zy (fVar 7) (zy (f2 gIx (fLst (zy (f1 gNeg (fC (.int 1))) (zy (fC (.int 1)) (hNil)))) (fB gInt (zh (f2 gGt (fVar 5) (fC (.int 0))) (fNil)))) (hNil)))))))))))
noncomputable def u6 : List D → Out Val := runD 11 zax
theorem zfM : ∀ ds v,ds.length = 3 → u6 ds = .ok v → runD 11 zax ds = .ok v := fun _ _ _ h => h
theorem zd6 (a b : Spot) (x : Int) (hn : near a b) (hx : -(2 ^ 64) < x - a.1 ∧ x - a.1 < 2 ^ 64) (s2 s4 : Slot) : ∀ (hs : List Int) (lo hi : Option Int) (s8 s9 s10 : Slot),∃ s8' s9' s10',
 forD (gN 8) zbn (hs.map .int) [.pers (zd a),.pers (zd b),s2,.pers (.int x),s4,.pers (.int (b.1 - a.1)),.pers (optD lo),.pers (optD hi),s8,s9,s10] =
  .ok (.next [.pers (zd a),.pers (zd b),s2,.pers (.int x),s4,.pers (.int (b.1 - a.1)),.pers (optD ((hs.filter (xC a b x)).getLast?.or lo)),.pers (optD (hi.or (hs.filter fun h => !xC a b x h).head?)),s8',s9',s10'])
 | [],lo,hi,s8,s9,s10 => ⟨s8,s9,s10,by simp [forD]⟩
 | h :: hs,lo,hi,s8,s9,s10 => by
   have c1 : ∀ j,cMul j (b.1 - a.1) = true := fun j => zcl hn.1 hn.2
   have c2 : ∀ j,cMul j (x - a.1) = true := fun j => zcl hx.1 hx.2
   have step : zbn [.pers (zd a),.pers (zd b),s2,.pers (.int x),s4,.pers (.int (b.1 - a.1)),.pers (optD lo),.pers (optD hi),.pers (.int h),s9,s10] =
    .ok (.next [.pers (zd a),.pers (zd b),s2,.pers (.int x),s4,.pers (.int (b.1 - a.1)),.pers (optD (if xC a b x h = true then some h else lo)),.pers (optD (if xC a b x h = true then hi else hi.or (some h))),.pers (.int h),.pers (.int ((b.2 - a.2) * (x - a.1))),.pers (.int (zbH a b x h))]) := by
    unfold xC zbH
    by_cases hb : 0 < ((a.2 - h) * (b.1 - a.1) + (b.2 - a.2) * (x - a.1)) * (b.1 - a.1)
    ·simp [zd,at0,at1,c1,c2,hb,optD]
    ·cases hi with
     | none => simp [zd,at0,at1,c1,c2,hb,optD]
     | some q => simp [zd,at0,at1,c1,c2,hb,optD]
   have hg : gN 8 (.int h) [.pers (zd a),.pers (zd b),s2,.pers (.int x),s4,.pers (.int (b.1 - a.1)),.pers (optD lo),.pers (optD hi),s8,s9,s10] = .ok [.pers (zd a),.pers (zd b),s2,.pers (.int x),s4,.pers (.int (b.1 - a.1)),.pers (optD lo),.pers (optD hi),.pers (.int h),s9,s10] := rfl
   obtain ⟨s8',s9',s10',e⟩ := zd6 a b x hn hx s2 s4 hs (if xC a b x h = true then some h else lo) (if xC a b x h = true then hi else hi.or (some h)) (.pers (.int h)) (.pers (.int ((b.2 - a.2) * (x - a.1)))) (.pers (.int (zbH a b x h)))
   refine ⟨s8',s9',s10',?_⟩
   simp only [List.map_cons,forD,hg,zj,step,e]
   cases hb : xC a b x h with
   | true => simp [List.filter_cons,hb,getLast?_or]
   | false => simp [List.filter_cons,hb]
theorem zjj {a b : Spot} {l : Line} (hn : near a b) (hx : -(2 ^ 64) < l.1 - a.1 ∧ l.1 - a.1 < 2 ^ 64) : u6 [zd a,zd b,zt l] = .ok (.pers (zn (wW a b l))) := by
 obtain ⟨s8,s9,s10,e⟩ := zd6 a b l.1 hn hx (.pers (zt l)) (.pers (.lst (l.2.map .int))) l.2 none none .un .un .un
 have h0 : zax [.pers (zd a),.pers (zd b),.pers (zt l),.un,.un,.un,.un,.un,.un,.un,.un] = .ok (.ret (.pers (zn (wW a b l)))) := by
  unfold zax
  rw [zm (env' := [.pers (zd a),.pers (zd b),.pers (zt l),.pers (.int l.1),.pers (.lst (l.2.map .int)),.un,.un,.un,.un,.un,.un]) (by simp [zt])]
  rw [zm (env' := [.pers (zd a),.pers (zd b),.pers (zt l),.pers (.int l.1),.pers (.lst (l.2.map .int)),.pers (.int (b.1 - a.1)),.un,.un,.un,.un,.un]) (by simp [zd,at0])]
  rw [zm (env' := [.pers (zd a),.pers (zd b),.pers (zt l),.pers (.int l.1),.pers (.lst (l.2.map .int)),.pers (.int (b.1 - a.1)),.pers (optD none),.un,.un,.un,.un]) (by simp [optD])]
  rw [zm (env' := [.pers (zd a),.pers (zd b),.pers (zt l),.pers (.int l.1),.pers (.lst (l.2.map .int)),.pers (.int (b.1 - a.1)),.pers (optD none),.pers (optD none),.un,.un,.un]) (by simp [optD])]
  rw [zm (env' := _) (by
   show forD (gN 8) zbn (l.2.map .int) [.pers (zd a),.pers (zd b),.pers (zt l),.pers (.int l.1),.pers (.lst (l.2.map .int)),.pers (.int (b.1 - a.1)),.pers (optD none),.pers (optD none),.un,.un,.un] = _
   exact e)]
  have a0 : atI [D.int (-1),D.int 1] 0 = some (.int (-1)) := rfl
  have a1 : atI [D.int (-1),D.int 1] 1 = some (.int 1) := rfl
  by_cases hp : 0 < b.1 - a.1
  ·have hp' : a.1 < b.1 := by lia
   simp [zn,wW,hp,hp',a1]
  ·have hp' : ¬ a.1 < b.1 := by lia
   simp [zn,wW,hp,hp',a0]
 unfold u6
 show (zax [.pers (zd a),.pers (zd b),.pers (zt l),.un,.un,.un,.un,.un,.un,.un,.un]).bind _ = _
 rw [h0]
 rfl
@[reducible] noncomputable def zkx : FS :=
 ifS (fAnd (fTrB (f2 gLt (fB zcX (zh (f2 gIx (fVar 4) (fC (.int 0))) (zh (f2 gIx (fVar 5) (fC (.int 0))) (fNil)))) (f2 gIx (fVar 7) (fC (.int 0))))) (fTrB (f2 gLt (f2 gIx (fVar 7) (fC (.int 0))) (fB zcY (zh (f2 gIx (fVar 4) (fC (.int 0))) (zh (f2 gIx (fVar 5) (fC (.int 0))) (fNil)))))))
 (appS 6 (zz u6 (zh (fVar 4) (zh (fVar 5) (zh (fVar 7) (fNil))))))
 (nxtS)
@[reducible] noncomputable def zed : FS :=
 zkx
@[reducible] noncomputable def zku : FS :=
 ifS (fTrB (f2 gLt (f2 gIx (fVar 5) (fC (.int 0))) (f2 gIx (fVar 4) (fC (.int 0)))))
 (revS 6)
 (nxtS)
@[reducible] noncomputable def zgE : FS :=
 seqS (setS 4 true (f2 gIx (fVar 1) (fVar 3)))
 (seqS (setS 5 true (f2 gIx (fVar 1) (f2 gAdd (fVar 3) (fC (.int 1)))))
 (seqS (setS 6 false (fLst (hNil)))
 (seqS (forS (fItL (zz vh (zh (fVar 0) (fNil)))) (gN 7)
 (zed))
 (seqS (zku)
 (setS 2 true (f2 gAdd (fVar 2) (fVar 6)))))))
noncomputable def zeT : FS :=
 seqS (setS 2 true (fLst (hNil)))
 (seqS (forS (tB (zh (f2 gSub (fB gLen (zh (fVar 1) (fNil))) (fC (.int 1))) (fNil))) (gN 3)
 (zgE))
 (retS (fVar 2)))
noncomputable def zag : List D → Out Val := runD 8 zeT
theorem zhu : ∀ ds v,ds.length = 2 → zag ds = .ok v → runD 8 zeT ds = .ok v := fun _ _ _ h => h
theorem zcD (a b : Spot) (hn : near a b) (s0 s1 s2 s3 : Slot) : ∀ (B : List Line) (got : List Gate) (s7 : Slot),got.length + B.length ≤ 1000 → ∃ s7',forD (gN 7) zed (B.map zt) [s0,s1,s2,s3,.pers (zd a),.pers (zd b),.own (got.map zn),s7] =
 .ok (.next [s0,s1,s2,s3,.pers (zd a),.pers (zd b),.own ((got ++ (B.filter fun l => decide (min a.1 b.1 < l.1) && decide (l.1 < max a.1 b.1)).map (wW a b)).map zn),s7'])
 | [],got,s7,_ => ⟨s7,by simp [forD]⟩
 | l :: B,got,s7,hl => by
   have hg : gN 7 (zt l) [s0,s1,s2,s3,.pers (zd a),.pers (zd b),.own (got.map zn),s7] = .ok [s0,s1,s2,s3,.pers (zd a),.pers (zd b),.own (got.map zn),.pers (zt l)] := rfl
   have hmin : (if b.1 < a.1 then b.1 else a.1) = min a.1 b.1 := by split <;> lia
   have hmax : (if b.1 > a.1 then b.1 else a.1) = max a.1 b.1 := by split <;> lia
   have hmax' : (if a.1 < b.1 then b.1 else a.1) = max a.1 b.1 := hmax
   have al0 : atI [D.int l.1,D.lst (l.2.map .int)] 0 = some (.int l.1) := rfl
   simp only [List.length_cons] at hl
   by_cases hc : min a.1 b.1 < l.1 ∧ l.1 < max a.1 b.1
   ·obtain ⟨s7',e⟩ := zcD a b hn s0 s1 s2 s3 B (got ++ [wW a b l]) (.pers (zt l)) (by simp; lia)
    refine ⟨s7',?_⟩
    have hgate : u6 [zd a,zd b,zt l] = .ok (.pers (zn (wW a b l))) := zjj hn (by unfold near at hn; lia)
    have hlt : got.length < 100000 := by lia
    have step : zed [s0,s1,s2,s3,.pers (zd a),.pers (zd b),.own (got.map zn),.pers (zt l)] = .ok (.next [s0,s1,s2,s3,.pers (zd a),.pers (zd b),.own ((got ++ [wW a b l]).map zn),.pers (zt l)]) := by
     have ht : (fAnd (fTrB (f2 gLt (fB zcX (zh (f2 gIx (fVar 4) (fC (.int 0))) (zh (f2 gIx (fVar 5) (fC (.int 0))) (fNil)))) (f2 gIx (fVar 7) (fC (.int 0))))) (fTrB (f2 gLt (f2 gIx (fVar 7) (fC (.int 0))) (fB zcY (zh (f2 gIx (fVar 4) (fC (.int 0))) (zh (f2 gIx (fVar 5) (fC (.int 0))) (fNil)))))))
      [s0,s1,s2,s3,.pers (zd a),.pers (zd b),.own (got.map zn),.pers (zt l)] = .ok true := by
      simp [zd,zt,at0,al0,hmin,hmax',hc.1,hc.2]
     have hb : appS 6 (zz u6 (zh (fVar 4) (zh (fVar 5) (zh (fVar 7) (fNil))))) [s0,s1,s2,s3,.pers (zd a),.pers (zd b),.own (got.map zn),.pers (zt l)] = .ok (.next [s0,s1,s2,s3,.pers (zd a),.pers (zd b),.own ((got ++ [wW a b l]).map zn),.pers (zt l)]) := by
      simp [hgate,hlt]
     simp only [ifS,ht,zj,if_true]
     exact hb
    simp only [List.map_cons,forD,hg,zj,step,e]
    simp [List.filter_cons,hc.1,hc.2]
   ·obtain ⟨s7',e⟩ := zcD a b hn s0 s1 s2 s3 B got (.pers (zt l)) (by lia)
    refine ⟨s7',?_⟩
    have step : zed [s0,s1,s2,s3,.pers (zd a),.pers (zd b),.own (got.map zn),.pers (zt l)] = .ok (.next [s0,s1,s2,s3,.pers (zd a),.pers (zd b),.own (got.map zn),.pers (zt l)]) := by
     have ht : (fAnd (fTrB (f2 gLt (fB zcX (zh (f2 gIx (fVar 4) (fC (.int 0))) (zh (f2 gIx (fVar 5) (fC (.int 0))) (fNil)))) (f2 gIx (fVar 7) (fC (.int 0))))) (fTrB (f2 gLt (f2 gIx (fVar 7) (fC (.int 0))) (fB zcY (zh (f2 gIx (fVar 4) (fC (.int 0))) (zh (f2 gIx (fVar 5) (fC (.int 0))) (fNil)))))))
      [s0,s1,s2,s3,.pers (zd a),.pers (zd b),.own (got.map zn),.pers (zt l)] = .ok false := by
      by_cases h1 : min a.1 b.1 < l.1
      ·have h2 : ¬ l.1 < max a.1 b.1 := fun h2 => hc ⟨h1,h2⟩
       simp [zd,zt,at0,al0,hmin,hmax',h1,h2]
      ·simp [zd,zt,at0,al0,hmin,hmax',h1]
     simp only [ifS,ht,zj,Bool.false_eq_true,if_false]
     rfl
    simp only [List.map_cons,forD,hg,zj,step,e]
    have : (decide (min a.1 b.1 < l.1) && decide (l.1 < max a.1 b.1)) = false := by
     by_cases h1 : min a.1 b.1 < l.1
     ·have h2 : ¬ l.1 < max a.1 b.1 := fun h2 => hc ⟨h1,h2⟩
      simp [h2]
     ·simp [h1]
    simp [List.filter_cons,this]
theorem zh7 {ps rope : List Spot} (hp : ps.length < 18) (hr : rope.length ≤ 100) (hn : ∀ q ∈ consec rope,near q.1 q.2) :
 zag [.lst (ps.map zd),.lst (rope.map zd)] = .ok (.pers (.lst (((consec rope).flatMap (rowL (boardV ps))).map zn))) := by
 have hbl := wF ps
 have hboard : vh [.lst (ps.map zd)] = .ok (.fresh ((boardV ps).map zt)) := by
  simp [vh,yT,hp]
 have clen : (consec rope).length = rope.length - 1 := by simp [consec]
 have rlen : ∀ q,(rowL (boardV ps) q).length ≤ 17 := by
  intro q
  have : (rowL (boardV ps) q).length ≤ (boardV ps).length := by
   unfold rowL
   dsimp only
   split
   ·rw [List.length_reverse,List.length_map]; exact List.length_filter_le _ _
   ·rw [List.length_map]; exact List.length_filter_le _ _
  lia
 have loop := uQ (g := gN 3) (fb := zgE) (fun j env => ∃ s3 s4 s5 s6 s7,env = [.pers (.lst (ps.map zd)),.pers (.lst (rope.map zd)),.pers (.lst ((((consec rope).take j).flatMap (rowL (boardV ps))).map zn)),s3,s4,s5,s6,s7])
  (rngD 0 (rope.length - 1)) 0 [.pers (.lst (ps.map zd)),.pers (.lst (rope.map zd)),.pers (.lst []),.un,.un,.un,.un,.un] ⟨_,_,_,_,_,rfl⟩ (by
   rintro j d env _ hd ⟨s3,s4,s5,s6,s7,rfl⟩
   obtain ⟨hj,rfl⟩ := zcG hd
   rw [Nat.sub_zero] at hj ⊢
   have j1 : j < rope.length := by lia
   have j2 : j + 1 < rope.length := by lia
   have jc : j < (consec rope).length := by lia
   have hq : (consec rope)[j] = (rope[j],rope[j + 1]) := by simp [consec]
   have hnear := hn (rope[j],rope[j + 1]) (by rw [← hq]; exact List.getElem_mem _)
   have hat1 : atI (rope.map zd) (0 + (j : Int)) = some (zd rope[j]) := by
    rw [wG _ _ (by lia)]
    have : (0 + (j : Int)).toNat = j := by lia
    rw [this,List.getElem?_map,List.getElem?_eq_getElem j1]
    rfl
   have hat2 : atI (rope.map zd) (0 + (j : Int) + 1) = some (zd rope[j + 1]) := by
    rw [wG _ _ (by lia)]
    have : (0 + (j : Int) + 1).toNat = j + 1 := by lia
    rw [this,List.getElem?_map,List.getElem?_eq_getElem j2]
    rfl
   obtain ⟨s7',e7⟩ := zcD rope[j] rope[j + 1] hnear (.pers (.lst (ps.map zd))) (.pers (.lst (rope.map zd))) (.pers (.lst ((((consec rope).take j).flatMap (rowL (boardV ps))).map zn))) (.pers (.int (0 + (j : Int)))) (boardV ps) [] s7 (by simp; lia)
   simp only [List.map_nil,List.nil_append] at e7
   refine ⟨_,[.pers (.lst (ps.map zd)),.pers (.lst (rope.map zd)),.pers (.lst ((((consec rope).take (j + 1)).flatMap (rowL (boardV ps))).map zn)),.pers (.int (0 + (j : Int))),.pers (zd rope[j]),.pers (zd rope[j + 1]),.own ((rowL (boardV ps) (rope[j],rope[j + 1])).map zn),s7'],rfl,?_,⟨_,_,_,_,_,rfl⟩⟩
   have htake : (consec rope).take (j + 1) = (consec rope).take j ++ [(rope[j],rope[j + 1])] := by rw [List.take_succ_eq_append_getElem jc,hq]
   have hsum : (((consec rope).take (j + 1)).flatMap (rowL (boardV ps))) = (((consec rope).take j).flatMap (rowL (boardV ps))) ++ rowL (boardV ps) (rope[j],rope[j + 1]) := by
    rw [htake,List.flatMap_append]
    simp
   have hlenA : ((((consec rope).take j).flatMap (rowL (boardV ps)))).length ≤ 17 * j := by
    have : ∀ (l : List (Spot × Spot)),(l.flatMap (rowL (boardV ps))).length ≤ 17 * l.length := by
     intro l
     induction l with
     | nil => simp
     | cons q l ih =>
       have := rlen q
       simp only [List.flatMap_cons,List.length_append,List.length_cons]
       lia
    have h1 := this ((consec rope).take j)
    rw [List.length_take] at h1
    have : 17 * min j (consec rope).length ≤ 17 * j := Nat.mul_le_mul_left _ (Nat.min_le_left _ _)
    lia
   have hlenB := rlen (rope[j],rope[j + 1])
   unfold zgE
   rw [zm (env' := [.pers (.lst (ps.map zd)),.pers (.lst (rope.map zd)),.pers (.lst ((((consec rope).take j).flatMap (rowL (boardV ps))).map zn)),.pers (.int (0 + (j : Int))),.pers (zd rope[j]),s5,s6,s7]) (by simp [hat1] at *; simp [hat1])]
   rw [zm (env' := [.pers (.lst (ps.map zd)),.pers (.lst (rope.map zd)),.pers (.lst ((((consec rope).take j).flatMap (rowL (boardV ps))).map zn)),.pers (.int (0 + (j : Int))),.pers (zd rope[j]),.pers (zd rope[j + 1]),s6,s7]) (by simp [hat2] at *; simp [hat2])]
   rw [zm (env' := [.pers (.lst (ps.map zd)),.pers (.lst (rope.map zd)),.pers (.lst ((((consec rope).take j).flatMap (rowL (boardV ps))).map zn)),.pers (.int (0 + (j : Int))),.pers (zd rope[j]),.pers (zd rope[j + 1]),.own [],s7]) (by simp)]
   rw [zm (env' := _) (by
    have hi : (fItL (zz vh (zh (fVar 0) (fNil)))) [.pers (.lst (ps.map zd)),.pers (.lst (rope.map zd)),.pers (.lst ((((consec rope).take j).flatMap (rowL (boardV ps))).map zn)),.pers (.int (0 + (j : Int))),.pers (zd rope[j]),.pers (zd rope[j + 1]),.own [],s7] = .ok ((boardV ps).map zt) := by
     simp [hboard]
    simp only [forS,hi,zj]
    exact e7)]
   have hrow : rowL (boardV ps) (rope[j],rope[j + 1]) = if rope[j + 1].1 < rope[j].1 then (((boardV ps).filter fun l => decide (min rope[j].1 rope[j + 1].1 < l.1) && decide (l.1 < max rope[j].1 rope[j + 1].1)).map (wW rope[j] rope[j + 1])).reverse else ((boardV ps).filter fun l => decide (min rope[j].1 rope[j + 1].1 < l.1) && decide (l.1 < max rope[j].1 rope[j + 1].1)).map (wW rope[j] rope[j + 1]) := rfl
   rw [zm (env' := [.pers (.lst (ps.map zd)),.pers (.lst (rope.map zd)),.pers (.lst ((((consec rope).take j).flatMap (rowL (boardV ps))).map zn)),.pers (.int (0 + (j : Int))),.pers (zd rope[j]),.pers (zd rope[j + 1]),.own ((rowL (boardV ps) (rope[j],rope[j + 1])).map zn),s7']) (by
    rw [hrow]
    by_cases hlt : rope[j + 1].1 < rope[j].1
    ·rw [if_pos hlt]
     simp [zd,at0,hlt]
    ·rw [if_neg hlt]
     simp [zd,at0,hlt])]
   rw [hsum]
   have hadd : (((((consec rope).take j).flatMap (rowL (boardV ps))).map zn).length + ((rowL (boardV ps) (rope[j],rope[j + 1])).map zn).length) ≤ 100000 := by
    rw [List.length_map,List.length_map]
    lia
   generalize (((consec rope).take j).flatMap (rowL (boardV ps))) = A at *
   generalize rowL (boardV ps) (rope[j],rope[j + 1]) = R at *
   simp at hadd
   simp [hadd])
 obtain ⟨env',e,s3,s4,s5,s6,s7,rfl⟩ := loop
 rw [zcF,Nat.zero_add,show (consec rope).take (rope.length - 1) = consec rope by rw [← clen,List.take_length]] at e
 have ht : ((rope.length : Int) - 1).toNat = rope.length - 1 := by lia
 have hb : -1000000 ≤ (rope.length : Int) - 1 ∧ (rope.length : Int) - 1 ≤ 1000000 := by lia
 unfold zag
 show (zeT [.pers (.lst (ps.map zd)),.pers (.lst (rope.map zd)),.un,.un,.un,.un,.un,.un]).bind _ = _
 have h0 : zeT [.pers (.lst (ps.map zd)),.pers (.lst (rope.map zd)),.un,.un,.un,.un,.un,.un] = .ok (.ret (.pers (.lst (((consec rope).flatMap (rowL (boardV ps))).map zn)))) := by
  unfold zeT
  rw [zm (env' := [.pers (.lst (ps.map zd)),.pers (.lst (rope.map zd)),.pers (.lst []),.un,.un,.un,.un,.un]) (by simp)]
  rw [zm (env' := _) (by
   have hi : (tB (zh (f2 gSub (fB gLen (zh (fVar 1) (fNil))) (fC (.int 1))) (fNil))) [.pers (.lst (ps.map zd)),.pers (.lst (rope.map zd)),.pers (.lst []),.un,.un,.un,.un,.un] = .ok (rngD 0 (rope.length - 1)) := by
    simp [hb,ht]
   simp only [forS,hi,zj]
   exact e)]
  simp
 rw [h0]
 rfl
noncomputable def zc1 : FS :=
 retS (zgc (f1 (gIsi "bool") (fVar 0)) (f2 gEq (fVar 0) (fVar 1)))
noncomputable def xa : List D → Out Val := runD 2 zc1
theorem zeA : ∀ ds v,ds.length = 2 → xa ds = .ok v → runD 2 zc1 ds = .ok v := fun _ _ _ h => h
theorem zhd (a b : Bool) : xa [.bl a,.bl b] = .ok (.pers (.bl (a == b))) := by
 unfold xa
 cases a <;> cases b <;> rfl
noncomputable def yA : FS :=
 retS (zgc (f2 gEq (fSl (fVar 0) (fNo) (fSo (fC (.int 3)))) (fSl (fVar 1) (fNo) (fSo (fC (.int 3))))) (f2 gNe (f2 gIx (fVar 0) (fC (.int 3))) (f2 gIx (fVar 1) (fC (.int 3)))))
noncomputable def zO : List D → Out Val
 | [a,b] => match t0 a,t0 b with
   | some g,some h => .ok (.pers (.bl (opp g h)))
   | _,_ => .bad
 | _ => .bad
theorem uc : ∀ ds v,ds.length = 2 → zO ds = .ok v → runD 2 yA ds = .ok v := by
 intro ds v hlen h
 clear hlen
 unfold zO at h
 split at h
 ·split at h
  ·rename_i g h' h1 h2
   cases h
   rw [tY h1,tY h2]
   have a3 : ∀ a b c d : D,atI [a,b,c,d] 3 = some d := fun _ _ _ _ => rfl
   have e3 := eq3 g h'
   by_cases hc : g.x = h'.x ∧ g.lo = h'.lo ∧ g.hi = h'.hi
   ·rw [decide_eq_true hc] at e3
    have ho : opp g h' = !decide (g.w = h'.w) := by simp [opp,hc]
    rw [ho]
    by_cases hw : g.w = h'.w
    ·simp [yA,zn,cut3,ziE,uL,e3,a3,hw]
    ·simp [yA,zn,cut3,ziE,uL,e3,a3,hw]
   ·rw [decide_eq_false hc] at e3
    simp [yA,zn,cut3,ziE,uL,e3,a3,opp,hc]
  ·cases h
 ·cases h
noncomputable def x0 : FS :=
 seqS (setS 1 false (fLst (hNil)))
 (seqS (forS (fItL (fVar 0)) (gN 2)
 (ifS (fAnd (fTr (fVar 1)) (fTr (zz zO (zh (f2 gIx (fVar 1) (f1 gNeg (fC (.int 1)))) (zh (fVar 2) (fNil))))))
 (popS 1)
 (appS 1 (fVar 2))))
 (retS (fVar 1)))
theorem zbx (row s2 : Slot) : ∀ (gs st : List Gate) (s2 : Slot),st.length + gs.length ≤ 10000 →
 ∃ s2',forD (gN 2) (ifS (fAnd (fTr (fVar 1)) (fTr (zz zO (zh (f2 gIx (fVar 1) (f1 gNeg (fC (.int 1)))) (zh (fVar 2) (fNil))))))
 (popS 1)
 (appS 1 (fVar 2))) (gs.map zn) [row,.own (st.map zn),s2] = .ok (.next [row,.own ((gs.foldl vC st).map zn),s2'])
 | [],st,s2,_ => ⟨s2,rfl⟩
 | g :: gs,st,s2,hl => by
   have hstep := zbv st g
   obtain ⟨s2',e⟩ := zbx row s2 gs (vC st g) (.pers (zn g)) (by simp at hl; lia)
   refine ⟨s2',?_⟩
   rw [List.map_cons,List.foldl_cons]
   have body : (ifS (fAnd (fTr (fVar 1)) (fTr (zz zO (zh (f2 gIx (fVar 1) (f1 gNeg (fC (.int 1)))) (zh (fVar 2) (fNil)))))) (popS 1) (appS 1 (fVar 2))) [row,.own (st.map zn),.pers (zn g)] = .ok (.next [row,.own ((vC st g).map zn),.pers (zn g)]) := by
    unfold vC
    cases q : st.getLast? with
    | none =>
      have : st = [] := List.getLast?_eq_none_iff.mp q
      subst this
      simp
    | some t =>
      have hne : st ≠ [] := fun z => by subst z; cases q
      have hpos : 0 < st.length := List.length_pos_iff.mpr hne
      have hat : atI (st.map zn) (-1) = some (zn t) := by
       rw [zcu,List.length_map,List.getElem?_map,← List.getLast?_eq_getElem?,q]
       rfl
      have hemp : (st.map zn).isEmpty = false := by cases st <;> simp_all
      have hcall : zO [zn t,zn g] = .ok (.pers (.bl (opp t g))) := by simp [zO,tZ]
      have hne2 : ¬ st.length = 0 := by lia
      have hlt : st.length < 100000 := by simp at hl; lia
      cases ho : opp t g with
      | true => simp [hat,hcall,ho,hne,hne2,List.map_dropLast]
      | false => simp [hat,hcall,ho,hne,hlt]
   simp only [forD,gN,List.set_cons_succ,List.set_cons_zero,zj]
   rw [body]
   exact e
noncomputable def zN : List D → Out Val
 | [.lst ds] => match ui ds with
   | some gs => if gs.length ≤ 10000 then .ok (.fresh ((yc gs).map zn)) else .bad
   | none => .bad
 | _ => .bad
theorem uH : ∀ ds v,ds.length = 1 → zN ds = .ok v → runD 3 x0 ds = .ok v := by
 intro ds v hlen h
 clear hlen
 unfold zN at h
 split at h
 ·split at h
  ·rename_i gs hg
   split at h
   ·rename_i hl
    cases h
    rw [zaH hg]
    obtain ⟨s2',e⟩ := zbx (.pers (.lst (gs.map zn))) .un gs [] .un (by simpa using hl)
    unfold x0
    show (((seqS _ _ : FS) _).bind _) = _
    rw [zm (env' := [.pers (.lst (gs.map zn)),.own [],.un]) (by simp)]
    rw [zm (env' := [.pers (.lst (gs.map zn)),.own ((gs.foldl vC []).map zn),s2']) (by
     simp only [forS,fItL,fVar,List.getElem?_cons_zero,zj,Val.hold]
     exact e)]
    rfl
   ·cases h
  ·cases h
 ·cases h
noncomputable def tx : FS :=
 seqS (ifS (fTrB (f2 gLt (f1 wQ (fVar 0)) (fB gLen (zh (fVar 0) (fNil))))) (fun _ => .bad) (nxtS)) zas
noncomputable def yH : List D → Out Val
 | [.lst ds] => match xG ds with
   | some ps => if ps.length < 18 ∧ ps.Nodup then .ok (.fresh ((boardV ps).map zt)) else .bad
   | none => .bad
 | _ => .bad
theorem zbL : ∀ ds v,ds.length = 1 → yH ds = .ok v → runD 4 tx ds = .ok v := by
 intro ds v hlen h
 clear hlen
 unfold yH at h
 split at h
 ·rename_i ds
  split at h
  ·rename_i ps hps
   split at h
   ·rename_i hb
    cases h
    obtain ⟨hl,hn⟩ := hb
    have hds := xM hps
    subst hds
    have hlen : wQ (.lst (ps.map zd)) = .ok (.pers (.int ps.length)) := by
     have h2 : (metP (ps.map pkey)).length = ps.length := by rw [zeH (zev hn),List.length_map]
     simp only [wQ,yT,hl,if_true,h2]
    have he : (xL (we ps)).map grpD = (boardV ps).map zt := by rw [zbW hn]; rfl
    have ht : fTrB (f2 gLt (f1 wQ (fVar 0)) (fB gLen (zh (fVar 0) (fNil)))) [.pers (.lst (ps.map zd)),.un,.un,.un] = .ok false := by
     simp only [fTrB,f2,f1,fVar,List.getElem?_cons_zero,zj,Val.d,hlen,fB,zh,fNil,frz,List.map_cons,List.map_nil,gLen,List.length_map,gLt,gIB,Int.lt_irrefl,decide_false]
    unfold tx
    show (((seqS _ _ : FS) [.pers (.lst (ps.map zd)),.un,.un,.un]).bind _) = _
    rw [zm (env' := [.pers (.lst (ps.map zd)),.un,.un,.un]) (by
     simp only [ifS,ht,zj]
     rfl)]
    have hl2 : zas [.pers (.lst (ps.map zd)),.un,.un,.un] = .ok (.ret (.fresh ((xL (we ps)).map grpD))) := by
     simp only [zas,List.getElem?_cons_zero,yT]
     rw [if_pos ⟨hl,hn⟩]
    rw [hl2,zj,he]
   ·cases h
  ·cases h
 ·cases h
@[reducible] noncomputable def yC : FE :=
 f2 gIx (fVar 0) (fC (.int 0))
@[reducible] noncomputable def vk : FS :=
 ifS (fTrB (f2 gIn (f2 gIx (fVar 4) (fC (.int 0))) (fVar 2)))
 (fun _ => .bad)
 (nxtS)
@[reducible] noncomputable def yE : FS :=
 vk
noncomputable def zK : FS :=
 seqS (setS 2 true (y0 [] 1 (fItL (fVar 0)) (gN 0) (fYes) (yC)))
 (forS (fEnm (fVar 1)) (gT [3,4])
 (yE))
noncomputable def zY : List D → Out Val := runD 5 zK
theorem wv : ∀ ds v,ds.length = 2 → zY ds = .ok v → runD 5 zK ds = .ok v := fun _ _ _ h => h
theorem tP (s0 s1 : Slot) (xs : List Int) : ∀ (cs : List Spot) (k : Nat) (s3 s4 : Slot),(∀ c ∈ cs,c.1 ∉ xs) → ∃ s3' s4',forD (gT [3,4]) yE (vV k (cs.map zd)) [s0,s1,.pers (.lst (xs.map .int)),s3,s4] = .ok (.next [s0,s1,.pers (.lst (xs.map .int)),s3',s4'])
 | [],k,s3,s4,_ => ⟨s3,s4,rfl⟩
 | c :: cs,k,s3,s4,h => by
   obtain ⟨s3',s4',e⟩ := tP s0 s1 xs cs (k + 1) (.pers (.int k)) (.pers (zd c)) fun c hc => h c (by simp [hc])
   refine ⟨s3',s4',?_⟩
   have hin : ((xs.map D.int).any fun z => eqD z (.int c.1)) = false := by
    rw [List.any_eq_false]
    intro z hz
    obtain ⟨x,hx,rfl⟩ := List.mem_map.mp hz
    rw [ug]
    simp
    intro q
    exact h c (by simp) (q ▸ hx)
   have step : yE [s0,s1,.pers (.lst (xs.map .int)),.pers (.int k),.pers (zd c)] = .ok (.next [s0,s1,.pers (.lst (xs.map .int)),.pers (.int k),.pers (zd c)]) := by
    have ht : fTrB (f2 gIn (f2 gIx (fVar 4) (fC (.int 0))) (fVar 2)) [s0,s1,.pers (.lst (xs.map .int)),.pers (.int k),.pers (zd c)] = .ok false := by
     have hi : f2 gIx (fVar 4) (fC (.int 0)) [s0,s1,.pers (.lst (xs.map .int)),.pers (.int k),.pers (zd c)] = .ok (.pers (.int c.1)) := by simp [zd,at0]
     have hv : fVar 2 [s0,s1,.pers (.lst (xs.map .int)),.pers (.int k),.pers (zd c)] = .ok (.pers (.lst (xs.map .int))) := rfl
     unfold fTrB
     rw [show f2 gIn (f2 gIx (fVar 4) (fC (.int 0))) (fVar 2) [s0,s1,.pers (.lst (xs.map .int)),.pers (.int k),.pers (zd c)] = gIn (.int c.1) (.lst (xs.map .int)) by
      show ((f2 gIx (fVar 4) (fC (.int 0)) [s0,s1,.pers (.lst (xs.map .int)),.pers (.int k),.pers (zd c)]).bind _) = _
      rw [hi,zj,hv]; rfl]
     simp only [gIn,hin]
     rfl
    simp only [ifS,ht,zj]
    rfl
   have hg : gT [3,4] (.tup [.int k,zd c]) [s0,s1,.pers (.lst (xs.map .int)),s3,s4] = .ok [s0,s1,.pers (.lst (xs.map .int)),.pers (.int k),.pers (zd c)] := rfl
   simp only [List.map_cons,vV,forD,hg,zj,step,e]
theorem ze0 {B : List Line} {rope : List Spot} (hB : B.length ≤ 1000) (h : ∀ c ∈ rope,c.1 ∉ B.map (·.1)) : zY [.lst (B.map zt),.lst (rope.map zd)] = .ok (.pers .non) := by
 obtain ⟨s3,s4,e⟩ := tP (.pers (.lst (B.map zt))) (.pers (.lst (rope.map zd))) (B.map (·.1)) rope 0 .un .un h
 have hB2 : B.length ≤ 100000 := by lia
 have hc : compD (gN 0) fYes yC (B.map zt) [.un] = .ok ((B.map (·.1)).map .int) := by
  rw [yB (fun env => ∃ s,env = [s]) zt (fun l => some (.int l.1)) B [.un] ⟨_,rfl⟩ (fun l env _ ⟨s,he⟩ => by
   subst he
   exact ⟨[.pers (zt l)],rfl,⟨_,rfl⟩,.inr ⟨_,.pers (.int l.1),rfl,rfl,by simp [zt,al0],rfl⟩⟩)]
  rw [List.filterMap_eq_map',List.map_map]
  rfl
 unfold zY
 show (zK [.pers (.lst (B.map zt)),.pers (.lst (rope.map zd)),.un,.un,.un]).bind _ = _
 have h0 : zK [.pers (.lst (B.map zt)),.pers (.lst (rope.map zd)),.un,.un,.un] = .ok (.next [.pers (.lst (B.map zt)),.pers (.lst (rope.map zd)),.pers (.lst ((B.map (·.1)).map .int)),s3,s4]) := by
  unfold zK
  rw [zm (env' := [.pers (.lst (B.map zt)),.pers (.lst (rope.map zd)),.pers (.lst ((B.map (·.1)).map .int)),.un,.un]) (by
   simp only [setS,y0,fItL,fVar,List.getElem?_cons_zero,zj,Val.hold,List.length_map,hB2,if_true]
   show (((compD (gN 0) fYes yC (B.map zt) [.un]).bind _).bind _) = _
   rw [hc]
   rfl)]
  exact e
 rw [h0]
 rfl
noncomputable def xg : FS :=
 retS (f2 gZip (fVar 0) (fSl (fVar 0) (fSo (fC (.int 1))) (fNo)))
noncomputable def zX : List D → Out Val := runD 1 xg
theorem uG : ∀ ds v,ds.length = 1 → zX ds = .ok v → runD 1 xg ds = .ok v := fun _ _ _ h => h
theorem ul (rope : List Spot) : zX [.lst (rope.map zd)] = .ok (.fresh ((consec rope).map strD)) := by
 have hcut : cutD (rope.map zd) (some 1) none = rope.tail.map zd := by
  rw [zhK _ 1 1 rfl,List.drop_one,List.map_tail]
 have hz : ((rope.map zd).zip (rope.tail.map zd)).map (fun p => D.tup [p.1,p.2]) = (consec rope).map strD := by
  unfold consec
  rw [List.zip_map,List.map_map]
  rfl
 unfold zX
 simp [xg,hcut]
 rw [← List.map_tail]
 exact hz
@[reducible] noncomputable def wo : FT :=
 fTrB (fCh gLt gLt (fVar 0) (f2 gIx (fVar 2) (fC (.int 0))) (fVar 1))
@[reducible] noncomputable def zca : FE :=
 fVar 2
@[reducible] noncomputable def zbV : FS :=
 ifS (fTrB (f2 gLt (fVar 2) (fVar 3)))
 (retS (y0 [2,3] 1 (fItL (fVar 0)) (gN 2) (wo) (zca)))
 (nxtS)
@[reducible] noncomputable def wl : FT :=
 fTrB (fCh gLt gLt (fVar 0) (f2 gIx (fVar 2) (fC (.int 0))) (fVar 1))
@[reducible] noncomputable def zb7 : FE :=
 fVar 2
noncomputable def yS : FS :=
 seqS (setS 2 true (f2 gIx (f2 gIx (fVar 1) (fC (.int 0))) (fC (.int 0))))
 (seqS (setS 3 true (f2 gIx (f2 gIx (fVar 1) (fC (.int 1))) (fC (.int 0))))
 (seqS (zbV)
 (retS (y0 [3,2] 1 (fRev (fVar 0)) (gN 2) (wl) (zb7)))))
noncomputable def ym : List D → Out Val := runD 4 yS
theorem zaf : ∀ ds v,ds.length = 2 → ym ds = .ok v → runD 4 yS ds = .ok v := fun _ _ _ h => h
theorem uC {ft : FT} (x y : Int) (p : Line → Bool) (hp : ∀ l,ft [.pers (.int x),.pers (.int y),.pers (zt l)] = .ok (p l)) (B : List Line) :
 compD (gN 2) ft (fVar 2) (B.map zt) [.pers (.int x),.pers (.int y),.un] = .ok ((B.filter p).map zt) := by
 rw [yB (fun env => ∃ s2,env = [.pers (.int x),.pers (.int y),s2]) zt (fun l => if p l = true then some (zt l) else none) B [.pers (.int x),.pers (.int y),.un] ⟨_,rfl⟩ (fun l env _ ⟨s2,he⟩ => by
  subst he
  refine ⟨[.pers (.int x),.pers (.int y),.pers (zt l)],rfl,⟨_,rfl⟩,?_⟩
  have h := hp l
  cases q : p l with
  | true => rw [q] at h; exact .inr ⟨zt l,.pers (zt l),by simp,h,rfl,rfl⟩
  | false => rw [q] at h; exact .inl ⟨by simp,h⟩)]
 rw [wz]
theorem zaB {B : List Line} (hl : B.length ≤ 1000) (q : Spot × Spot) : ym [.lst (B.map zt),strD q] = .ok (.fresh ((zG B q.1 q.2).map zt)) := by
 unfold ym
 show (yS [.pers (.lst (B.map zt)),.pers (strD q),.un,.un]).bind _ = _
 have h0 : yS [.pers (.lst (B.map zt)),.pers (strD q),.un,.un] = .ok (.ret (.fresh ((zG B q.1 q.2).map zt))) := by
  unfold yS
  rw [zm (env' := [.pers (.lst (B.map zt)),.pers (strD q),.pers (.int q.1.1),.un]) (by simp [strD,ats0,zd,at0]; rfl)]
  rw [zm (env' := [.pers (.lst (B.map zt)),.pers (strD q),.pers (.int q.1.1),.pers (.int q.2.1)]) (by simp [strD,ats1,zd,at0]; rfl)]
  have hl2 : B.length ≤ 100000 := by lia
  unfold zG
  by_cases hlt : q.1.1 < q.2.1
  ·rw [if_pos hlt]
   have hc := uC (ft := wo) q.1.1 q.2.1 (fun l => decide (q.1.1 < l.1) && decide (l.1 < q.2.1)) (fun l => by
    by_cases h1 : q.1.1 < l.1
    ·simp [zt,al0,h1]
    ·simp [zt,al0,h1]) B
   refine zcA ?_
   simp only [ifS]
   have ht : fTrB (f2 gLt (fVar 2) (fVar 3)) [.pers (.lst (B.map zt)),.pers (strD q),.pers (.int q.1.1),.pers (.int q.2.1)] = .ok true := by simp [hlt]
   rw [ht,zj,if_pos rfl]
   simp only [retS,y0,fItL,fVar,List.getElem?_cons_zero,zj,Val.hold,List.length_map,hl2,if_true]
   show ((compD (gN 2) wo (fVar 2) (B.map zt) [.pers (.int q.1.1),.pers (.int q.2.1),.un]).bind _).bind _ = _
   rw [hc]
   rfl
  ·rw [if_neg hlt]
   have hc := uC (ft := wl) q.2.1 q.1.1 (fun l => decide (q.2.1 < l.1) && decide (l.1 < q.1.1)) (fun l => by
    by_cases h1 : q.2.1 < l.1
    ·simp [zt,al0,h1]
    ·simp [zt,al0,h1]) B.reverse
   have ht : fTrB (f2 gLt (fVar 2) (fVar 3)) [.pers (.lst (B.map zt)),.pers (strD q),.pers (.int q.1.1),.pers (.int q.2.1)] = .ok false := by simp [hlt]
   rw [zm (env' := [.pers (.lst (B.map zt)),.pers (strD q),.pers (.int q.1.1),.pers (.int q.2.1)]) (by simp only [ifS]; rw [ht,zj]; rfl)]
   simp only [retS,y0,fRev,fVar,List.getElem?_cons_zero,zj,Val.hold,List.length_reverse,List.length_map,hl2,if_true]
   rw [← List.map_reverse]
   show ((compD (gN 2) wl (fVar 2) (B.reverse.map zt) [.pers (.int q.2.1),.pers (.int q.1.1),.un]).bind _).bind _ = _
   rw [hc]
   rfl
 rw [h0]
 rfl
noncomputable def yQ : FS :=
 seqS (setS 2 true (f2 gIx (fVar 0) (fC (.int 0))))
 (seqS (setS 3 true (f2 gIx (fVar 0) (fC (.int 1))))
 (seqS (setS 4 true (f2 gSub (f2 gIx (fVar 3) (fC (.int 0))) (f2 gIx (fVar 2) (fC (.int 0)))))
 (seqS (setS 5 true (f2 gSub (f2 gMul (fVar 4) (f2 gSub (f2 gIx (fVar 1) (fC (.int 1))) (f2 gIx (fVar 2) (fC (.int 1))))) (f2 gMul (f2 gSub (f2 gIx (fVar 3) (fC (.int 1))) (f2 gIx (fVar 2) (fC (.int 1)))) (f2 gSub (f2 gIx (fVar 1) (fC (.int 0))) (f2 gIx (fVar 2) (fC (.int 0)))))))
 (retS (fIf (fTrB (f2 gGt (fVar 4) (fC (.int 0)))) (fVar 5) (f1 gNeg (fVar 5)))))))
noncomputable def yl : List D → Out Val := runD 6 yQ
theorem zad : ∀ ds v,ds.length = 2 → yl ds = .ok v → runD 6 yQ ds = .ok v := fun _ _ _ h => h
theorem zfh {q : Spot × Spot} {p : Spot} (hn : near q.1 q.2) (hx : -(2 ^ 64) < p.1 - q.1.1 ∧ p.1 - q.1.1 < 2 ^ 64) : yl [strD q,zd p] = .ok (.pers (.int (yi q.1 q.2 p))) := by
 have c1 : ∀ j,cMul (q.2.1 - q.1.1) j = true := fun j => ve hn.1 hn.2
 have c2 : ∀ j,cMul j (p.1 - q.1.1) = true := fun j => zcl hx.1 hx.2
 unfold yl
 show (yQ [.pers (strD q),.pers (zd p),.un,.un,.un,.un]).bind _ = _
 have h0 : yQ [.pers (strD q),.pers (zd p),.un,.un,.un,.un] = .ok (.ret (.pers (.int (yi q.1 q.2 p)))) := by
  unfold yQ
  rw [zm (env' := [.pers (strD q),.pers (zd p),.pers (zd q.1),.un,.un,.un]) (by simp [strD,ats0])]
  rw [zm (env' := [.pers (strD q),.pers (zd p),.pers (zd q.1),.pers (zd q.2),.un,.un]) (by simp [strD,ats1])]
  rw [zm (env' := [.pers (strD q),.pers (zd p),.pers (zd q.1),.pers (zd q.2),.pers (.int (q.2.1 - q.1.1)),.un]) (by simp [zd,at0])]
  rw [zm (env' := [.pers (strD q),.pers (zd p),.pers (zd q.1),.pers (zd q.2),.pers (.int (q.2.1 - q.1.1)),.pers (.int (zbs q.1 q.2 p))]) (by simp [zd,at0,at1,c1,c2,zbs])]
  unfold yi
  by_cases hp : 0 < q.2.1 - q.1.1
  ·have hp' : q.1.1 < q.2.1 := by lia
   simp [hp']
  ·have hp' : ¬ q.1.1 < q.2.1 := by lia
   simp [hp']
 rw [h0]
 rfl
@[reducible] noncomputable def zJ : FE :=
 f2 gEq (zz yl (zh (fVar 0) (zh (fTup (zy (fVar 1) (zy (fVar 2) (hNil)))) (fNil)))) (fC (.int 0))
@[reducible] noncomputable def wx : FS :=
 ifS (fTr (fB gAny (zh (y0 [1,2] 1 (fItL (fVar 3)) (gN 2) (fYes) (zJ)) (fNil))))
 (retS (fC (.bl true)))
 (nxtS)
@[reducible] noncomputable def yt : FS :=
 wx
noncomputable def zI : FS :=
 seqS (forS (fItL (zz ym (zh (fVar 0) (zh (fVar 1) (fNil))))) (gT [2,3])
 (yt))
 (retS (fC (.bl false)))
noncomputable def zM : List D → Out Val := runD 4 zI
theorem xX : ∀ ds v,ds.length = 2 → zM ds = .ok v → runD 4 zI ds = .ok v := fun _ _ _ h => h
theorem uT {q : Spot × Spot} (hn : near q.1 q.2) (s0 : Slot) : ∀ (ls : List Line) (s2 s3 : Slot),(∀ l ∈ ls,(-(2 ^ 64) < l.1 - q.1.1 ∧ l.1 - q.1.1 < 2 ^ 64) ∧ l.2.length ≤ 1000) → ∃ s2' s3',
 forD (gT [2,3]) yt (ls.map zt) [s0,.pers (strD q),s2,s3] = if (ls.any fun l => l.2.any fun y => decide (yi q.1 q.2 (l.1,y) = 0)) = true then .ok (.ret (.pers (.bl true))) else .ok (.next [s0,.pers (strD q),s2',s3'])
 | [],s2,s3,_ => ⟨s2,s3,rfl⟩
 | l :: ls,s2,s3,h => by
   obtain ⟨hx,hl⟩ := h l (by simp)
   have hl2 : l.2.length ≤ 100000 := by lia
   have hside : ∀ y : Int,yl [strD q,.tup [.int l.1,.int y]] = .ok (.pers (.int (yi q.1 q.2 (l.1,y)))) := fun y => zfh (p := (l.1,y)) hn hx
   have hc : compD (gN 2) fYes zJ (l.2.map .int) [.pers (strD q),.pers (.int l.1),.un] = .ok ((l.2.map fun y => decide (yi q.1 q.2 (l.1,y) = 0)).map .bl) := by
    rw [yB (fun env => ∃ s2,env = [.pers (strD q),.pers (.int l.1),s2]) D.int (fun y => some (.bl (decide (yi q.1 q.2 (l.1,y) = 0)))) l.2 [.pers (strD q),.pers (.int l.1),.un] ⟨_,rfl⟩ (fun y env _ ⟨s2,he⟩ => by
     subst he
     refine ⟨[.pers (strD q),.pers (.int l.1),.pers (.int y)],rfl,⟨_,rfl⟩,.inr ⟨_,.pers (.bl (decide (yi q.1 q.2 (l.1,y) = 0))),rfl,rfl,?_,rfl⟩⟩
     simp [hside]
     rw [Bool.eq_iff_iff]
     simp)]
    rw [List.filterMap_eq_map',List.map_map]
    rfl
   have hg : gT [2,3] (zt l) [s0,.pers (strD q),s2,s3] = .ok [s0,.pers (strD q),.pers (.int l.1),.pers (.lst (l.2.map .int))] := rfl
   have ht : fTr (fB gAny (zh (y0 [1,2] 1 (fItL (fVar 3)) (gN 2) (fYes) (zJ)) (fNil))) [s0,.pers (strD q),.pers (.int l.1),.pers (.lst (l.2.map .int))] = .ok (l.2.any fun y => decide (yi q.1 q.2 (l.1,y) = 0)) := by
    have hcomp : y0 [1,2] 1 (fItL (fVar 3)) (gN 2) (fYes) (zJ) [s0,.pers (strD q),.pers (.int l.1),.pers (.lst (l.2.map .int))] = .ok (.fresh ((l.2.map fun y => decide (yi q.1 q.2 (l.1,y) = 0)).map .bl)) := by
     have hi : (fItL (fVar 3)) [s0,.pers (strD q),.pers (.int l.1),.pers (.lst (l.2.map .int))] = .ok (l.2.map .int) := by simp
     simp only [y0,hi,zj,List.length_map,hl2,if_true]
     show ((compD (gN 2) fYes zJ (l.2.map .int) [.pers (strD q),.pers (.int l.1),.un]).bind _) = _
     rw [hc]
     rfl
    simp only [fTr,fB,zh,fNil,hcomp,zj,frz,List.map_cons,List.map_nil,Val.d,gAny,zgK]
    simp [trD,Function.comp_def]
   have step : yt [s0,.pers (strD q),.pers (.int l.1),.pers (.lst (l.2.map .int))] = if (l.2.any fun y => decide (yi q.1 q.2 (l.1,y) = 0)) = true then .ok (.ret (.pers (.bl true))) else .ok (.next [s0,.pers (strD q),.pers (.int l.1),.pers (.lst (l.2.map .int))]) := by
    simp only [ifS,ht,zj]
    rfl
   cases hb : (l.2.any fun y => decide (yi q.1 q.2 (l.1,y) = 0)) with
   | true =>
     refine ⟨s2,s3,?_⟩
     rw [hb] at step
     simp only [List.map_cons,forD,hg,zj,step,List.any_cons,hb,Bool.true_or,if_true]
   | false =>
     obtain ⟨s2',s3',e⟩ := uT hn s0 ls (.pers (.int l.1)) (.pers (.lst (l.2.map .int))) fun l hl => h l (by simp [hl])
     refine ⟨s2',s3',?_⟩
     rw [hb] at step
     simp only [List.map_cons,forD,hg,zj,step,List.any_cons,hb,Bool.false_or,Bool.false_eq_true,if_false,e]
theorem zem {B : List Line} {q : Spot × Spot} (hB : B.length ≤ 1000) (hh : ∀ l ∈ B,l.2.length ≤ 1000) (hn : near q.1 q.2) : zM [.lst (B.map zt),strD q] = .ok (.pers (.bl (throughV B q.1 q.2))) := by
 obtain ⟨s2,s3,e⟩ := uT hn (.pers (.lst (B.map zt))) (zG B q.1 q.2) .un .un fun l hl => ⟨uB hl hn,hh l (x4 hl).1⟩
 have hc := zaB hB q
 have hi : (fItL (zz ym (zh (fVar 0) (zh (fVar 1) (fNil))))) [.pers (.lst (B.map zt)),.pers (strD q),.un,.un] = .ok ((zG B q.1 q.2).map zt) := by simp [hc]
 unfold zM
 show (zI [.pers (.lst (B.map zt)),.pers (strD q),.un,.un]).bind _ = _
 have h0 : zI [.pers (.lst (B.map zt)),.pers (strD q),.un,.un] = .ok (.ret (.pers (.bl (throughV B q.1 q.2)))) := by
  unfold zI throughV
  cases hv : ((zG B q.1 q.2).any fun l => l.2.any fun y => decide (yi q.1 q.2 (l.1,y) = 0)) with
  | true =>
    rw [hv] at e
    refine zcA ?_
    simp only [forS,hi,zj]
    exact e
  | false =>
    rw [hv] at e
    rw [zm (env' := [.pers (.lst (B.map zt)),.pers (strD q),s2,s3]) (by
     simp only [forS,hi,zj]
     exact e)]
    rfl
 rw [h0]
 rfl
@[reducible] noncomputable def wy : FS :=
 ifS (fTr (zz zM (zh (fVar 0) (zh (fVar 3) (fNil)))))
 (fun _ => .bad)
 (nxtS)
@[reducible] noncomputable def yu : FS :=
 wy
noncomputable def zH : FS :=
 forS (fEnm (zz zX (zh (fVar 1) (fNil)))) (gT [2,3])
 (yu)
noncomputable def zL : List D → Out Val := runD 4 zH
theorem xW : ∀ ds v,ds.length = 2 → zL ds = .ok v → runD 4 zH ds = .ok v := fun _ _ _ h => h
theorem vB {B : List Line} (hB : B.length ≤ 1000) (hh : ∀ l ∈ B,l.2.length ≤ 1000) (s1 : Slot) : ∀ (qs : List (Spot × Spot)) (k : Nat) (s2 s3 : Slot),(∀ q ∈ qs,near q.1 q.2 ∧ throughV B q.1 q.2 = false) → ∃ s2' s3',forD (gT [2,3]) yu (vV k (qs.map strD)) [.pers (.lst (B.map zt)),s1,s2,s3] = .ok (.next [.pers (.lst (B.map zt)),s1,s2',s3'])
 | [],k,s2,s3,_ => ⟨s2,s3,rfl⟩
 | q :: qs,k,s2,s3,h => by
   obtain ⟨s2',s3',e⟩ := vB hB hh s1 qs (k + 1) (.pers (.int k)) (.pers (strD q)) fun q hq => h q (by simp [hq])
   refine ⟨s2',s3',?_⟩
   obtain ⟨hn,hf⟩ := h q (by simp)
   have hc := zem hB hh hn
   rw [hf] at hc
   have step : yu [.pers (.lst (B.map zt)),s1,.pers (.int k),.pers (strD q)] = .ok (.next [.pers (.lst (B.map zt)),s1,.pers (.int k),.pers (strD q)]) := by
    simp [hc]
   have hg : gT [2,3] (.tup [.int k,strD q]) [.pers (.lst (B.map zt)),s1,s2,s3] = .ok [.pers (.lst (B.map zt)),s1,.pers (.int k),.pers (strD q)] := rfl
   simp only [List.map_cons,vV,forD,hg,zj,step,e]
theorem vg {B : List Line} {rope : List Spot} (hB : B.length ≤ 1000) (hh : ∀ l ∈ B,l.2.length ≤ 1000) (h : ∀ q ∈ consec rope,near q.1 q.2 ∧ throughV B q.1 q.2 = false) : zL [.lst (B.map zt),.lst (rope.map zd)] = .ok (.pers .non) := by
 obtain ⟨s2,s3,e⟩ := vB hB hh (.pers (.lst (rope.map zd))) (consec rope) 0 .un .un h
 have hs := ul rope
 unfold zL
 show (zH [.pers (.lst (B.map zt)),.pers (.lst (rope.map zd)),.un,.un]).bind _ = _
 have hi : fEnm (zz zX (zh (fVar 1) (fNil))) [.pers (.lst (B.map zt)),.pers (.lst (rope.map zd)),.un,.un] = .ok (vV 0 ((consec rope).map strD)) := by simp [hs]
 have h0 : zH [.pers (.lst (B.map zt)),.pers (.lst (rope.map zd)),.un,.un] = .ok (.next [.pers (.lst (B.map zt)),.pers (.lst (rope.map zd)),s2,s3]) := by
  unfold zH
  simp only [forS,hi,zj]
  exact e
 rw [h0]
 rfl
@[reducible] noncomputable def zcW : FS :=
 ifS (fTrB (f2 gLt (fB gLen (zh (fVar 1) (fNil))) (fC (.int 2))))
 (fun _ => .bad)
 (nxtS)
noncomputable def wR : FS :=
 seqS (setS 2 true (zz yH (zh (fVar 0) (fNil))))
 (seqS (zcW)
 (seqS (drpS (zz zY (zh (fVar 2) (zh (fVar 1) (fNil)))))
 (drpS (zz zL (zh (fVar 2) (zh (fVar 1) (fNil)))))))
noncomputable def xK : List D → Out Val := runD 3 wR
theorem zaY : ∀ ds v,ds.length = 2 → xK ds = .ok v → runD 3 wR ds = .ok v := fun _ _ _ h => h
theorem zfU {ps rope : List Spot} (R : RopeOk ps rope) : xK [.lst (ps.map zd),.lst (rope.map zd)] = .ok (.pers .non) := by
 have hB := wF ps
 have hfew := R.few
 have hl : yH [.lst (ps.map zd)] = .ok (.fresh ((boardV ps).map zt)) := by simp [yH,yT,R.few,R.nodup]
 have hc := ze0 (B := boardV ps) (rope := rope) (by lia) R.off
 have hs := vg (B := boardV ps) (rope := rope) (by lia) (zcn ps R.few) fun q hq => ⟨R.near q hq,R.free q hq⟩
 have h2 : ¬ (rope.length : Int) < 2 := by have := R.two; lia
 unfold xK
 simp [wR,hl,hc,hs,h2]
@[reducible] noncomputable def wn : FT :=
 fTrB (f2 gLt (zz yl (zh (fVar 0) (zh (fTup (zy (fVar 1) (zy (fVar 2) (hNil)))) (fNil)))) (fC (.int 0)))
@[reducible] noncomputable def zb9 : FE :=
 fVar 2
@[reducible] noncomputable def wm : FT :=
 fTrB (f2 gGt (zz yl (zh (fVar 0) (zh (fTup (zy (fVar 1) (zy (fVar 2) (hNil)))) (fNil)))) (fC (.int 0)))
@[reducible] noncomputable def zb8 : FE :=
 fVar 2
noncomputable def yR : FS :=
 seqS (setS 2 true (f2 gIx (fVar 0) (fC (.int 0))))
 (seqS (setS 3 true (y0 [1,2] 1 (fItL (f2 gIx (fVar 0) (fC (.int 1)))) (gN 2) (wn) (zb9)))
 (seqS (setS 4 true (y0 [1,2] 1 (fItL (f2 gIx (fVar 0) (fC (.int 1)))) (gN 2) (wm) (zb8)))
 (seqS (setS 5 true (fIf (fTrB (f2 gLt (f2 gIx (f2 gIx (fVar 1) (fC (.int 0))) (fC (.int 0))) (fVar 2))) (fC (.int 1)) (f1 gNeg (fC (.int 1)))))
 (retS (fTup (zy (fVar 2) (zy (f1 gMax (fVar 3)) (zy (f1 gMin (fVar 4)) (zy (fVar 5) (hNil))))))))))
noncomputable def xq : List D → Out Val := runD 6 yR
theorem zae : ∀ ds v,ds.length = 2 → xq ds = .ok v → runD 6 yR ds = .ok v := fun _ _ _ h => h
theorem uw {ft : FT} {q : Spot × Spot} {x : Int} (p : Int → Bool) (hp : ∀ y,ft [.pers (strD q),.pers (.int x),.pers (.int y)] = .ok (p y)) (hs : List Int) :
 compD (gN 2) ft (fVar 2) (hs.map .int) [.pers (strD q),.pers (.int x),.un] = .ok ((hs.filter p).map .int) := by
 rw [yB (fun env => ∃ s2,env = [.pers (strD q),.pers (.int x),s2]) D.int (fun y => if p y = true then some (.int y) else none) hs [.pers (strD q),.pers (.int x),.un] ⟨_,rfl⟩ (fun y env _ ⟨s2,he⟩ => by
  subst he
  refine ⟨[.pers (strD q),.pers (.int x),.pers (.int y)],rfl,⟨_,rfl⟩,?_⟩
  have h := hp y
  cases z : p y with
  | true => rw [z] at h; exact .inr ⟨.int y,.pers (.int y),by simp,h,rfl,rfl⟩
  | false => rw [z] at h; exact .inl ⟨by simp,h⟩)]
 rw [wz]
theorem zeR {q : Spot × Spot} {l : Line} (hn : near q.1 q.2) (hx : -(2 ^ 64) < l.1 - q.1.1 ∧ l.1 - q.1.1 < 2 ^ 64) (hl : l.2.length ≤ 1000) : xq [zt l,strD q] = .ok (.pers (zn (tu q.1 q.2 l))) := by
 have hside : ∀ y : Int,yl [strD q,.tup [.int l.1,.int y]] = .ok (.pers (.int (yi q.1 q.2 (l.1,y)))) := fun y => zfh (p := (l.1,y)) hn hx
 have c1 := uw (ft := wn) (q := q) (x := l.1) (fun y => decide (yi q.1 q.2 (l.1,y) < 0)) (fun y => by simp [hside]) l.2
 have c2 := uw (ft := wm) (q := q) (x := l.1) (fun y => decide (0 < yi q.1 q.2 (l.1,y))) (fun y => by simp [hside]) l.2
 have hl2 : l.2.length ≤ 100000 := by lia
 unfold xq
 show (yR [.pers (zt l),.pers (strD q),.un,.un,.un,.un]).bind _ = _
 have h0 : yR [.pers (zt l),.pers (strD q),.un,.un,.un,.un] = .ok (.ret (.pers (zn (tu q.1 q.2 l)))) := by
  unfold yR
  rw [zm (env' := [.pers (zt l),.pers (strD q),.pers (.int l.1),.un,.un,.un]) (by simp [zt,al0])]
  rw [zm (env' := [.pers (zt l),.pers (strD q),.pers (.int l.1),.pers (.lst ((l.2.filter fun y => decide (yi q.1 q.2 (l.1,y) < 0)).map .int)),.un,.un]) (by
   have hi : (fItL (f2 gIx (fVar 0) (fC (.int 1)))) [.pers (zt l),.pers (strD q),.pers (.int l.1),.un,.un,.un] = .ok (l.2.map .int) := by simp [zt,al1]
   simp only [setS,y0,hi,zj,List.length_map,hl2,if_true]
   show (((compD (gN 2) wn (fVar 2) (l.2.map .int) [.pers (strD q),.pers (.int l.1),.un]).bind _).bind _) = _
   rw [c1]
   rfl)]
  rw [zm (env' := [.pers (zt l),.pers (strD q),.pers (.int l.1),.pers (.lst ((l.2.filter fun y => decide (yi q.1 q.2 (l.1,y) < 0)).map .int)),.pers (.lst ((l.2.filter fun y => decide (0 < yi q.1 q.2 (l.1,y))).map .int)),.un]) (by
   have hi : (fItL (f2 gIx (fVar 0) (fC (.int 1)))) [.pers (zt l),.pers (strD q),.pers (.int l.1),.pers (.lst ((l.2.filter fun y => decide (yi q.1 q.2 (l.1,y) < 0)).map .int)),.un,.un] = .ok (l.2.map .int) := by simp [zt,al1]
   simp only [setS,y0,hi,zj,List.length_map,hl2,if_true]
   show (((compD (gN 2) wm (fVar 2) (l.2.map .int) [.pers (strD q),.pers (.int l.1),.un]).bind _).bind _) = _
   rw [c2]
   rfl)]
  have hm1 : gMax (.lst ((l.2.filter fun y => decide (yi q.1 q.2 (l.1,y) < 0)).map .int)) = .ok (.pers (optD (vR (l.2.filter fun y => decide (yi q.1 q.2 (l.1,y) < 0))))) := by
   simp only [gMax,xN]
   cases vR (l.2.filter fun y => decide (yi q.1 q.2 (l.1,y) < 0)) <;> rfl
  have hm2 : gMin (.lst ((l.2.filter fun y => decide (0 < yi q.1 q.2 (l.1,y))).map .int)) = .ok (.pers (optD (vQ (l.2.filter fun y => decide (0 < yi q.1 q.2 (l.1,y)))))) := by
   simp only [gMin,xN]
   cases vQ (l.2.filter fun y => decide (0 < yi q.1 q.2 (l.1,y))) <;> rfl
  rw [zm (env' := [.pers (zt l),.pers (strD q),.pers (.int l.1),.pers (.lst ((l.2.filter fun y => decide (yi q.1 q.2 (l.1,y) < 0)).map .int)),.pers (.lst ((l.2.filter fun y => decide (0 < yi q.1 q.2 (l.1,y))).map .int)),.pers (.int (if q.1.1 < l.1 then 1 else -1))]) (by
   have hs : atI [D.tup [D.int q.1.1,D.int q.1.2],D.tup [D.int q.2.1,D.int q.2.2]] 0 = some (.tup [D.int q.1.1,D.int q.1.2]) := rfl
   by_cases hp : q.1.1 < l.1
   ·simp [strD,zd,hs,at0,hp]
   ·simp [strD,zd,hs,at0,hp])]
  unfold tu zn
  simp only [retS,fTup,zy,hNil,fVar,f1,List.getElem?_cons_succ,List.getElem?_cons_zero,zj,Val.d,hm1,hm2,Val.hold]
  rfl
 rw [h0]
 rfl
@[reducible] noncomputable def x3 : FE :=
 zz xq (zh (fVar 1) (zh (fVar 0) (fNil)))
@[reducible] noncomputable def vv : FS :=
 extS 3 (y0 [4] 1 (fItL (zz ym (zh (fVar 2) (zh (fVar 4) (fNil))))) (gN 1) (fYes) (x3))
noncomputable def xl : FS :=
 seqS (drpS (zz xK (zh (fVar 0) (zh (fVar 1) (fNil)))))
 (seqS (setS 2 true (zz yH (zh (fVar 0) (fNil))))
 (seqS (setS 3 false (fLst (hNil)))
 (seqS (forS (fItL (zz zX (zh (fVar 1) (fNil)))) (gN 4)
 (vv))
 (retS (fVar 3)))))
noncomputable def xj : List D → Out Val := runD 5 xl
theorem zaX : ∀ ds v,ds.length = 2 → xj ds = .ok v → runD 5 xl ds = .ok v := fun _ _ _ h => h
theorem zao {ps : List Spot} (hfew : ps.length < 18) (s0 s1 : Slot) : ∀ (qs : List (Spot × Spot)) (got : List Gate) (s4 : Slot),(∀ q ∈ qs,near q.1 q.2) → got.length + 17 * qs.length ≤ 10000 →
 ∃ s4',forD (gN 4) vv (qs.map strD) [s0,s1,.pers (.lst ((boardV ps).map zt)),.own (got.map zn),s4] = .ok (.next [s0,s1,.pers (.lst ((boardV ps).map zt)),.own ((got ++ qs.flatMap (rowP (boardV ps))).map zn),s4'])
 | [],got,s4,_,_ => ⟨s4,by simp [forD]⟩
 | q :: qs,got,s4,hn,hl => by
   have hB := wF ps
   have hrl : (rowP (boardV ps) q).length ≤ 17 := by
    have := vp (boardV ps) q.1 q.2
    unfold rowP
    rw [List.length_map]
    lia
   simp only [List.length_cons] at hl
   obtain ⟨s4',e⟩ := zao hfew s0 s1 qs (got ++ rowP (boardV ps) q) (.pers (strD q)) (fun q hq => hn q (by simp [hq])) (by simp; lia)
   refine ⟨s4',?_⟩
   have hq := hn q (by simp)
   have hcr := zaB (B := boardV ps) (by lia) q
   have hcl : (zG (boardV ps) q.1 q.2).length ≤ 100000 := by have := vp (boardV ps) q.1 q.2; lia
   have hg : gN 4 (strD q) [s0,s1,.pers (.lst ((boardV ps).map zt)),.own (got.map zn),s4] = .ok [s0,s1,.pers (.lst ((boardV ps).map zt)),.own (got.map zn),.pers (strD q)] := rfl
   have hc : compD (gN 1) fYes x3 ((zG (boardV ps) q.1 q.2).map zt) [.pers (strD q),.un] = .ok ((rowP (boardV ps) q).map zn) := by
    rw [yB (fun env => ∃ s,env = [.pers (strD q),s]) zt (fun l => some (zn (tu q.1 q.2 l))) (zG (boardV ps) q.1 q.2) [.pers (strD q),.un] ⟨_,rfl⟩ (fun l env hl ⟨s,he⟩ => by
     subst he
     have hgo := zeR (l := l) hq (uB hl hq) (zcn ps hfew l (x4 hl).1)
     exact ⟨[.pers (strD q),.pers (zt l)],rfl,⟨_,rfl⟩,.inr ⟨_,.pers (zn (tu q.1 q.2 l)),rfl,rfl,by simp [hgo],rfl⟩⟩)]
    rw [List.filterMap_eq_map']
    unfold rowP
    rw [List.map_map]
    rfl
   have step : vv [s0,s1,.pers (.lst ((boardV ps).map zt)),.own (got.map zn),.pers (strD q)] = .ok (.next [s0,s1,.pers (.lst ((boardV ps).map zt)),.own ((got ++ rowP (boardV ps) q).map zn),.pers (strD q)]) := by
    have hi : (fItL (zz ym (zh (fVar 2) (zh (fVar 4) (fNil))))) [s0,s1,.pers (.lst ((boardV ps).map zt)),.own (got.map zn),.pers (strD q)] = .ok ((zG (boardV ps) q.1 q.2).map zt) := by simp [hcr]
    have hcomp : y0 [4] 1 (fItL (zz ym (zh (fVar 2) (zh (fVar 4) (fNil))))) (gN 1) (fYes) (x3) [s0,s1,.pers (.lst ((boardV ps).map zt)),.own (got.map zn),.pers (strD q)] = .ok (.fresh ((rowP (boardV ps) q).map zn)) := by
     simp only [y0,hi,zj,List.length_map,hcl,if_true]
     show ((compD (gN 1) fYes x3 ((zG (boardV ps) q.1 q.2).map zt) [.pers (strD q),.un]).bind _) = _
     rw [hc]
     rfl
    have hsz : (got.map zn).length + ((rowP (boardV ps) q).map zn).length ≤ 100000 := by
     rw [List.length_map,List.length_map]; lia
    have hv : ([s0,s1,.pers (.lst ((boardV ps).map zt)),.own (got.map zn),.pers (strD q)] : Ev)[3]? = some (.own (got.map zn)) := rfl
    simp only [extS,hv,hcomp,zj]
    rw [if_pos hsz,← List.map_append]
    rfl
   simp only [List.map_cons,forD,hg,zj,step,e,List.flatMap_cons,List.append_assoc]
theorem zbC {ps rope : List Spot} (R : RopeOk ps rope) : xj [.lst (ps.map zd),.lst (rope.map zd)] = .ok (.fresh (((consec rope).flatMap (rowP (boardV ps))).map zn)) := by
 have hlo := zfU R
 have hl : yH [.lst (ps.map zd)] = .ok (.fresh ((boardV ps).map zt)) := by simp [yH,yT,R.few,R.nodup]
 have hs := ul rope
 have hm := R.many
 obtain ⟨s4,e⟩ := zao R.few (.pers (.lst (ps.map zd))) (.pers (.lst (rope.map zd))) (consec rope) [] .un R.near (by simp [consec]; lia)
 simp only [List.map_nil,List.nil_append] at e
 unfold xj
 show (xl [.pers (.lst (ps.map zd)),.pers (.lst (rope.map zd)),.un,.un,.un]).bind _ = _
 have h0 : xl [.pers (.lst (ps.map zd)),.pers (.lst (rope.map zd)),.un,.un,.un] = .ok (.ret (.fresh (((consec rope).flatMap (rowP (boardV ps))).map zn))) := by
  unfold xl
  rw [zm (env' := [.pers (.lst (ps.map zd)),.pers (.lst (rope.map zd)),.un,.un,.un]) (by simp [hlo])]
  rw [zm (env' := [.pers (.lst (ps.map zd)),.pers (.lst (rope.map zd)),.pers (.lst ((boardV ps).map zt)),.un,.un]) (by simp [hl])]
  rw [zm (env' := [.pers (.lst (ps.map zd)),.pers (.lst (rope.map zd)),.pers (.lst ((boardV ps).map zt)),.own [],.un]) (by simp)]
  rw [zm (env' := _) (by
   have hi : (fItL (zz zX (zh (fVar 1) (fNil)))) [.pers (.lst (ps.map zd)),.pers (.lst (rope.map zd)),.pers (.lst ((boardV ps).map zt)),.own [],.un] = .ok ((consec rope).map strD) := by simp [hs]
   simp only [forS,hi,zj]
   exact e)]
  rfl
 rw [h0]
 rfl
@[reducible] noncomputable def zeN : FS :=
 ifS (fOr (fTrB (f2 gNe (f2 gIx (fVar 1) (fC (.int 0))) (f2 gIx (fVar 2) (fC (.int 0))))) (fTrB (f2 gNe (f2 gIx (fVar 1) (f1 gNeg (fC (.int 1)))) (f2 gIx (fVar 2) (f1 gNeg (fC (.int 1)))))))
 (fun _ => .bad)
 (nxtS)
noncomputable def wA : FS :=
 seqS (setS 3 true (zz zN (zh (zz xj (zh (fVar 0) (zh (fVar 1) (fNil)))) (fNil))))
 (seqS (setS 4 true (zz zN (zh (zz xj (zh (fVar 0) (zh (fVar 2) (fNil)))) (fNil))))
 (seqS (zeN)
 (retS (f2 gEq (fVar 3) (fVar 4)))))
noncomputable def yd : List D → Out Val := runD 5 wA
theorem zbM : ∀ ds v,ds.length = 3 → yd ds = .ok v → runD 5 wA ds = .ok v := fun _ _ _ h => h
theorem vH {ps : List Spot} (hf : ps.length < 18) : ∀ qs : List (Spot × Spot),(qs.flatMap (rowP (boardV ps))).length ≤ 17 * qs.length
 | [] => by simp
 | q :: qs => by
   have ih := vH hf qs
   have hB := wF ps
   have hrl : (rowP (boardV ps) q).length ≤ 17 := by
    have := vp (boardV ps) q.1 q.2
    unfold rowP
    rw [List.length_map]
    lia
   rw [List.flatMap_cons,List.length_append,List.length_cons]
   lia
theorem zfq {ps : List Spot} (qs : List (Spot × Spot)) : ∀ g ∈ qs.flatMap (rowP (boardV ps)),Way g := by
 intro g hg
 obtain ⟨q,_,hg⟩ := List.mem_flatMap.mp hg
 obtain ⟨l,_,rfl⟩ := List.mem_map.mp hg
 unfold Way tu
 split
 ·exact .inl rfl
 ·exact .inr rfl
theorem zbp {ps one other : List Spot} (R1 : RopeOk ps one) (R2 : RopeOk ps other) (hh : xz one = xz other) (hl : yo one = yo other) :
 yd [.lst (ps.map zd),.lst (one.map zd),.lst (other.map zd)] = .ok (.pers (.bl (decide (yc ((consec one).flatMap (rowP (boardV ps))) = yc ((consec other).flatMap (rowP (boardV ps))))))) := by
 have r1 := zbC R1
 have r2 := zbC R2
 have l1 := vH R1.few (consec one)
 have l2 := vH R1.few (consec other)
 have m1 : (consec one).length ≤ 100 := by have := R1.many; unfold consec; simp; lia
 have m2 : (consec other).length ≤ 100 := by have := R2.many; unfold consec; simp; lia
 generalize (consec one).flatMap (rowP (boardV ps)) = g1 at *
 generalize (consec other).flatMap (rowP (boardV ps)) = g2 at *
 have s1 : zN [.lst (g1.map zn)] = .ok (.fresh ((yc g1).map zn)) := by
  simp only [zN,vw]
  rw [if_pos (by lia)]
 have s2 : zN [.lst (g2.map zn)] = .ok (.fresh ((yc g2).map zn)) := by
  simp only [zN,vw]
  rw [if_pos (by lia)]
 have n1 : one ≠ [] := fun z => by have := R1.two; rw [z] at this; simp at this
 have n2 : other ≠ [] := fun z => by have := R2.two; rw [z] at this; simp at this
 unfold yd
 show ((wA [.pers (.lst (ps.map zd)),.pers (.lst (one.map zd)),.pers (.lst (other.map zd)),.un,.un]).bind _) = _
 unfold wA
 rw [zm (env' := [.pers (.lst (ps.map zd)),.pers (.lst (one.map zd)),.pers (.lst (other.map zd)),.pers (.lst ((yc g1).map zn)),.un]) (by simp [r1,s1])]
 rw [zm (env' := [.pers (.lst (ps.map zd)),.pers (.lst (one.map zd)),.pers (.lst (other.map zd)),.pers (.lst ((yc g1).map zn)),.pers (.lst ((yc g2).map zn))]) (by simp [r2,s2])]
 rw [zm (env' := [.pers (.lst (ps.map zd)),.pers (.lst (one.map zd)),.pers (.lst (other.map zd)),.pers (.lst ((yc g1).map zn)),.pers (.lst ((yc g2).map zn))]) (by
  simp [zbo n1,zbo n2,zdo n1,zdo n2,hh,hl,zby,zc8])]
 have hs := v6 2 (yc g1)
 have he : eqD (.lst ((yc g1).map zn)) (.lst ((yc g2).map zn)) = decide (yc g1 = yc g2) := by rw [tF,vU zn zbc]
 simp only [retS,f2,fVar,List.getElem?_cons_zero,List.getElem?_cons_succ,zj,Val.d,gEq,hs,Bool.true_or,if_true,he]
@[reducible] noncomputable def zin : FS :=
 ifS (fNot (fTr (zz u7 (zh (fVar 4) (zh (fVar 2) (fNil))))))
 (setS 4 true (fB zbY (zh (fVar 3) (fNil))))
 (nxtS)
@[reducible] noncomputable def zkv : FS :=
 ifS (fOr (fNot (fTr (zz xa (zh (zz yd (zh (f2 gIx (fVar 6) (fC (.int 0))) (zh (f2 gIx (fVar 6) (fC (.int 1))) (zh (f2 gIx (fVar 6) (fC (.int 2))) (fNil))))) (zh (fVar 5) (fNil)))))) (fTrB (f2 gNe (fVar 6) (fLst (zy (fVar 2) (zy (fVar 3) (zy (fVar 4) (hNil))))))))
 (retS (fC (.bl false)))
 (nxtS)
noncomputable def zc3 : FS :=
 seqS (setS 1 true (zz zaZ (zh (fVar 0) (fNil))))
 (seqS (setS 2 true (zz zdT (zh (fVar 0) (fNil))))
 (seqS (setS 3 true (zz vL (zh (fVar 0) (zh (fC (.int 23)) (zh (f2 gAdd (fC (.int 2)) (f2 gMod (zz zV (zh (fVar 0) (zh (fC (.int 22)) (fNil)))) (fC (.int 7)))) (zh (fVar 2) (fNil)))))))
 (seqS (setS 4 true (zz ud (zh (fVar 0) (zh (fVar 3) (zh (fVar 2) (fNil))))))
 (seqS (zin)
 (seqS (setS 2 true (zz vM (zh (fVar 2) (zh (fVar 1) (fNil)))))
 (seqS (setS 3 true (zz vM (zh (fVar 3) (zh (fVar 1) (fNil)))))
 (seqS (setS 4 true (zz vM (zh (fVar 4) (zh (fVar 1) (fNil)))))
 (seqS (setS 5 true (f2 gEq (zz w8 (zh (zz zag (zh (fVar 2) (zh (fVar 3) (fNil)))) (fNil))) (zz w8 (zh (zz zag (zh (fVar 2) (zh (fVar 4) (fNil)))) (fNil)))))
 (seqS (setS 6 true (fLst (zy (fB zbY (zh (fVar 2) (fNil))) (zy (fB zbY (zh (fVar 3) (fNil))) (zy (fB zbY (zh (fVar 4) (fNil))) (hNil))))))
 (seqS (zkv)
 (retS (zgc (zz xa (zh (zz yd (zh (fVar 2) (zh (fVar 4) (zh (fVar 3) (fNil))))) (zh (fVar 5) (fNil)))) (zz xa (zh (zz yd (zh (fVar 2) (zh (fVar 3) (zh (fB zbY (zh (fVar 3) (fNil))) (fNil))))) (zh (fC (.bl true)) (fNil))))))))))))))))
end My
namespace My
open PySem PySem.Spec PyProof.Rows L2 DL
theorem zfw (ns : List Int) {ps : List Spot} (hl : ps.length ≤ 100000) : vM [.lst (ps.map zd),frmD (frmV ns)] = .ok (.fresh ((ps.map (putP (frmV ns))).map zd)) := by
 obtain ⟨a1,a2,a3,a4,a5,a6,_,_,_,_⟩ := ziq ns
 exact ziJ hl a1 a2 a3 a4 a5 a6
theorem ziS (ns : List Int) : (yM ns).length ≤ 12 := (zar ns 0 0).few
theorem zbb (ps : List Spot) : eqD (.lst (ps.map zd)) (.lst (ps.map zd)) = true := by rw [tF,vU zd zc8,decide_eq_true rfl]
theorem v5 (n : Nat) (ps : List Spot) : shal (n + 2) (.lst (ps.map zd)) = true := by
 simp only [shal,List.all_map,List.all_eq_true]
 intro p _
 exact zby n p
theorem zdO {ps rope : List Spot} (R : RopeOk ps rope) : (consec rope).flatMap (rowP (boardV ps)) = (consec rope).flatMap (rowL (boardV ps)) := by
 have : ∀ qs : List (Spot × Spot),(∀ q ∈ qs,throughV (boardV ps) q.1 q.2 = false) → qs.flatMap (rowP (boardV ps)) = qs.flatMap (rowL (boardV ps)) := by
  intro qs
  induction qs with
  | nil => intro _; rfl
  | cons q qs ih =>
    intro h
    rw [List.flatMap_cons,List.flatMap_cons,zjO (h q (by simp)),ih fun q hq => h q (by simp [hq])]
 exact this _ R.free
theorem zb3 {l : List Spot} (f : Spot → Spot) (h : l ≠ []) : xz (l.map f) = f (xz l) := by
 cases l with
 | nil => exact absurd rfl h
 | cons c r => rfl
theorem zd0 {l : List Spot} (f : Spot → Spot) (h : l ≠ []) : yo (l.map f) = f (yo l) := by
 unfold yo
 rw [List.getLastD_eq_getLast?,List.getLastD_eq_getLast?,List.getLast?_map,List.getLast?_eq_some_getLast h]
 rfl
theorem zb2 {l : List Spot} (h : l ≠ []) : xz l ∈ l := by
 cases l with
 | nil => exact absurd rfl h
 | cons c r => exact List.mem_cons_self
theorem zcN {ps r0 mid : List Spot} (D1 : Drawn ps r0) (hne : r0 ≠ []) (mo : ∀ c ∈ mid,odd9 c) (hf : hits ps ([xz r0] ++ mid ++ [yo r0]) = false) : Drawn ps ([xz r0] ++ mid ++ [yo r0]) where
 few := D1.few
 nodup := D1.nodup
 even := D1.even
 odd := by
  intro c hc
  simp only [List.mem_append,List.mem_singleton] at hc
  rcases hc with (rfl | hc) | rfl
  ·exact D1.odd _ (zb2 hne)
  ·exact mo c hc
  ·exact D1.odd _ (tm hne)
 free := by
  intro q hq
  unfold hits at hf
  rw [List.any_eq_false] at hf
  simpa using hf q hq
noncomputable abbrev spL (ps : List Spot) : D := .lst (ps.map zd)
theorem zec {n : List D → Out Val} {A : FE} {env : Ev} {a : Val} (h1 : A env = .ok a) : zz n (zh A (fNil)) env = zjt n [frz a] := by
 simp only [zz,zh,fNil,h1,zj]
theorem zbh {n : List D → Out Val} {A B : FE} {env : Ev} {a b : Val} (h1 : A env = .ok a) (h2 : B env = .ok b) : zz n (zh A (zh B (fNil))) env = zjt n [frz a,frz b] := by
 simp only [zz,zh,fNil,h1,h2,zj]
theorem zbB {i : Nat} {e : FE} {env : Ev} {vs : List D} (h : e env = .ok (.fresh vs)) : setS i true e env = .ok (.next (env.set i (.pers (.lst vs)))) := by
 simp only [setS,h,zj]
 rfl
theorem main : ∀ ns : List Int,ns.length ≤ 63 → runD 7 zc3 [.scr ns] = .ok (.pers (.bl true)) := by
 intro ns hns
 have hpl := ziS ns
 have hfo := ziq ns
 have hmn := zdU ns 22
 obtain ⟨k,hk⟩ : ∃ k : Nat,(k : Int) = 2 + zq ns 22 % 7 := ⟨(2 + zq ns 22 % 7).toNat,by lia⟩
 have hk2 : 2 ≤ k ∧ k ≤ 8 := by lia
 obtain ⟨r0,hr0⟩ : ∃ r0,r0 = zB ns 23 (yM ns) k := ⟨_,rfl⟩
 have hrope : vL [.scr ns,.int 23,.int (2 + zq ns 22 % 7),.lst ((yM ns).map zd)] = .ok (.fresh (r0.map zd)) := by
  have := zcE ns 23 k (yM ns) (by lia) (by lia) (by lia) (by lia) hpl
  rw [hr0,← hk]
  simpa using this
 have hlen : r0.length = k := by rw [hr0]; exact xU ns 23 (yM ns) k
 have D1 : Drawn (yM ns) r0 := by rw [hr0]; exact zar ns 23 k
 have hne : r0 ≠ [] := fun z => by rw [z] at hlen; simp at hlen; lia
 obtain ⟨mid,ho,mo,ml⟩ := zhq ns hpl D1.odd (by lia) (by lia)
 obtain ⟨o0,ho0⟩ : ∃ o0,o0 = [xz r0] ++ mid ++ [yo r0] := ⟨_,rfl⟩
 rw [← ho0] at ho
 have hodd : ∀ c ∈ o0,odd9 c := by
  intro c hc
  rw [ho0] at hc
  simp only [List.mem_append,List.mem_singleton] at hc
  rcases hc with (rfl | hc) | rfl
  ·exact D1.odd _ (zb2 hne)
  ·exact mo c hc
  ·exact D1.odd _ (tm hne)
 have hol : 2 ≤ o0.length ∧ o0.length ≤ 52 := by rw [ho0]; simp; lia
 have hfits := zjn (rope := o0) (ps := yM ns) (fun q hq => zbI (hodd _ (uh hq).1) (hodd _ (uh hq).2)) (by lia) (by lia)
 obtain ⟨o1,ho1⟩ : ∃ o1,o1 = if hits (yM ns) o0 = true then r0 else o0 := ⟨_,rfl⟩
 have D2 : Drawn (yM ns) o1 ∧ xz o1 = xz r0 ∧ yo o1 = yo r0 ∧ 2 ≤ o1.length ∧ o1.length ≤ 52 := by
  rw [ho1]
  cases hh : hits (yM ns) o0 with
  | true => rw [if_pos rfl]; exact ⟨D1,rfl,rfl,by lia,by lia⟩
  | false =>
    rw [if_neg (by simp)]
    refine ⟨?_,?_,?_,hol⟩
    ·rw [ho0] at hh ⊢
     exact zcN D1 hne mo hh
    ·rw [ho0]; rfl
    ·rw [ho0]
     unfold yo
     rw [List.getLastD_eq_getLast?,List.getLast?_concat]
     rfl
 obtain ⟨D2,hfi,hla,o2,o3⟩ := D2
 have hne1 : o1 ≠ [] := fun z => by rw [z] at o2; simp at o2
 have R1 := zea hfo D1 (by lia) (by lia)
 have R2 := zea hfo D2 o2 (by lia)
 have hf1 := (zb3 (putP (frmV ns)) hne).trans ((congrArg (putP (frmV ns)) hfi).symm.trans (zb3 (putP (frmV ns)) hne1).symm)
 have hl1 := (zd0 (putP (frmV ns)) hne).trans ((congrArg (putP (frmV ns)) hla).symm.trans (zd0 (putP (frmV ns)) hne1).symm)
 obtain ⟨ps,hps⟩ : ∃ ps,ps = (yM ns).map (putP (frmV ns)) := ⟨_,rfl⟩
 obtain ⟨one,hone⟩ : ∃ one,one = r0.map (putP (frmV ns)) := ⟨_,rfl⟩
 obtain ⟨oth,hoth⟩ : ∃ oth,oth = o1.map (putP (frmV ns)) := ⟨_,rfl⟩
 have hp1 : vM [.lst ((yM ns).map zd),frmD (frmV ns)] = .ok (.fresh (ps.map zd)) := by rw [hps]; exact zfw ns (by lia)
 have hp2 : vM [.lst (r0.map zd),frmD (frmV ns)] = .ok (.fresh (one.map zd)) := by rw [hone]; exact zfw ns (by lia)
 have hp3 : vM [.lst (o1.map zd),frmD (frmV ns)] = .ok (.fresh (oth.map zd)) := by rw [hoth]; exact zfw ns (by lia)
 rw [← hps,← hone] at R1
 rw [← hps,← hoth] at R2
 rw [← hone,← hoth] at hf1 hl1
 have a1 := zbp R1 R2 hf1 hl1
 have a2 := zbp R2 R1 hf1.symm hl1.symm
 have a3 := zbp R1 R1 rfl rfl
 have w1 := zh7 (ps := ps) (rope := one) R1.few R1.many R1.near
 have w2 := zh7 (ps := ps) (rope := oth) R2.few R2.many R2.near
 rw [← zdO R1] at w1
 rw [← zdO R2] at w2
 have v1 : ∀ g ∈ (consec one).flatMap (rowP (boardV ps)),Way g := zfq _
 have v2 : ∀ g ∈ (consec oth).flatMap (rowP (boardV ps)),Way g := zfq _
 have c1 : (consec one).length ≤ 100 := by have := R1.many; unfold consec; simp; lia
 have c2 : (consec oth).length ≤ 100 := by have := R2.many; unfold consec; simp; lia
 have n1 := vH R1.few (consec one)
 have n2 := vH R1.few (consec oth)
 generalize (consec one).flatMap (rowP (boardV ps)) = g1 at *
 generalize (consec oth).flatMap (rowP (boardV ps)) = g2 at *
 have f1 := zfX v1 (by lia)
 have f2' := zfX v2 (by lia)
 have hsh : shal 4 (.lst [.lst (ps.map zd),.lst (one.map zd),.lst (oth.map zd)]) = true := by
  simp only [shal,List.all_cons,List.all_nil,Bool.and_true,Bool.and_eq_true]
  exact ⟨v5 1 ps,v5 1 one,v5 1 oth⟩
 have heq : eqD (.lst [.lst (ps.map zd),.lst (one.map zd),.lst (oth.map zd)]) (.lst [.lst (ps.map zd),.lst (one.map zd),.lst (oth.map zd)]) = true := by
  rw [tF,ye,ye,ye,vT,zbb,zbb,zbb]
  rfl
 have hsg := v6 2 (yc g1)
 have hqg : eqD (.lst ((yc g1).map zn)) (.lst ((yc g2).map zn)) = decide (yc g1 = yc g2) := by rw [tF,vU zn zbc]
 obtain ⟨b,hb⟩ : ∃ b,b = decide (yc g1 = yc g2) := ⟨_,rfl⟩
 have hb' : decide (yc g2 = yc g1) = b := by
  rw [hb]
  exact decide_eq_decide.mpr ⟨Eq.symm,Eq.symm⟩
 rw [← hb] at a1 hqg
 rw [hb'] at a2
 rw [decide_eq_true rfl] at a3
 have rr := zhd b b
 rw [beq_self_eq_true] at rr
 unfold zc3
 show (((seqS _ _ : FS) [.pers (.scr ns),.un,.un,.un,.un,.un,.un]).bind _) = _
 rw [zm (env' := [.pers (.scr ns),.pers (frmD (frmV ns)),.un,.un,.un,.un,.un]) rfl]
 rw [zm (env' := [.pers (.scr ns),.pers (frmD (frmV ns)),.pers (.lst ((yM ns).map zd)),.un,.un,.un,.un]) rfl]
 rw [zm (env' := [.pers (.scr ns),.pers (frmD (frmV ns)),.pers (.lst ((yM ns).map zd)),.pers (.lst (r0.map zd)),.un,.un,.un]) (zbB (by
  show ((vL [.scr ns,.int 23,.int (2 + zq ns 22 % 7),spL (yM ns)]).bind _) = _
  rw [hrope]
  rfl))]
 rw [zm (env' := [.pers (.scr ns),.pers (frmD (frmV ns)),.pers (.lst ((yM ns).map zd)),.pers (.lst (r0.map zd)),.pers (.lst (o0.map zd)),.un,.un]) (zbB (by
  show ((ud [.scr ns,spL r0,spL (yM ns)]).bind _) = _
  rw [ho]
  rfl))]
 rw [zm (env' := [.pers (.scr ns),.pers (frmD (frmV ns)),.pers (.lst ((yM ns).map zd)),.pers (.lst (r0.map zd)),.pers (.lst (o1.map zd)),.un,.un]) (by
  have hc : zz u7 (zh (fVar 4) (zh (fVar 2) (fNil))) [.pers (.scr ns),.pers (frmD (frmV ns)),.pers (spL (yM ns)),.pers (spL r0),.pers (spL o0),.un,.un] = .ok (.pers (.bl (!hits (yM ns) o0))) := by
   show ((u7 [spL o0,spL (yM ns)]).bind _) = _
   rw [hfits]
   rfl
  rw [ho1]
  simp only [zin,ifS,fNot,fTr,fTrB,hc,zj,Val.d,trD]
  cases hits (yM ns) o0 <;> rfl)]
 rw [zm (env' := [.pers (.scr ns),.pers (frmD (frmV ns)),.pers (.lst (ps.map zd)),.pers (.lst (r0.map zd)),.pers (.lst (o1.map zd)),.un,.un]) (zbB (by
  show ((vM [spL (yM ns),frmD (frmV ns)]).bind _) = _
  rw [hp1]
  rfl))]
 rw [zm (env' := [.pers (.scr ns),.pers (frmD (frmV ns)),.pers (.lst (ps.map zd)),.pers (.lst (one.map zd)),.pers (.lst (o1.map zd)),.un,.un]) (zbB (by
  show ((vM [spL r0,frmD (frmV ns)]).bind _) = _
  rw [hp2]
  rfl))]
 rw [zm (env' := [.pers (.scr ns),.pers (frmD (frmV ns)),.pers (.lst (ps.map zd)),.pers (.lst (one.map zd)),.pers (.lst (oth.map zd)),.un,.un]) (zbB (by
  show ((vM [spL o1,frmD (frmV ns)]).bind _) = _
  rw [hp3]
  rfl))]
 rw [zm (env' := [.pers (.scr ns),.pers (frmD (frmV ns)),.pers (.lst (ps.map zd)),.pers (.lst (one.map zd)),.pers (.lst (oth.map zd)),.pers (.bl b),.un]) (by
  have e1 : zz w8 (zh (zz zag (zh (fVar 2) (zh (fVar 3) (fNil)))) (fNil)) [.pers (.scr ns),.pers (frmD (frmV ns)),.pers (.lst (ps.map zd)),.pers (.lst (one.map zd)),.pers (.lst (oth.map zd)),.un,.un] = .ok (.fresh ((yc g1).map zn)) := by
   rw [zec (a := .pers (.lst (g1.map zn))) (by
    show ((zag [spL ps,spL one]).bind _) = _
    rw [w1]
    rfl)]
   show ((w8 [.lst (g1.map zn)]).bind _) = _
   rw [f1]
   rfl
  have e2 : zz w8 (zh (zz zag (zh (fVar 2) (zh (fVar 4) (fNil)))) (fNil)) [.pers (.scr ns),.pers (frmD (frmV ns)),.pers (.lst (ps.map zd)),.pers (.lst (one.map zd)),.pers (.lst (oth.map zd)),.un,.un] = .ok (.fresh ((yc g2).map zn)) := by
   rw [zec (a := .pers (.lst (g2.map zn))) (by
    show ((zag [spL ps,spL oth]).bind _) = _
    rw [w2]
    rfl)]
   show ((w8 [.lst (g2.map zn)]).bind _) = _
   rw [f2']
   rfl
  simp only [setS,f2,e1,e2,zj,Val.d,gEq,hsg,Bool.true_or,if_true,hqg]
  rfl)]
 rw [zm (env' := [.pers (.scr ns),.pers (frmD (frmV ns)),.pers (.lst (ps.map zd)),.pers (.lst (one.map zd)),.pers (.lst (oth.map zd)),.pers (.bl b),.pers (.lst [.lst (ps.map zd),.lst (one.map zd),.lst (oth.map zd)])]) rfl]
 rw [zm (env' := [.pers (.scr ns),.pers (frmD (frmV ns)),.pers (.lst (ps.map zd)),.pers (.lst (one.map zd)),.pers (.lst (oth.map zd)),.pers (.bl b),.pers (.lst [.lst (ps.map zd),.lst (one.map zd),.lst (oth.map zd)])]) (by
  have k1 : zz xa (zh (zz yd (zh (f2 gIx (fVar 6) (fC (.int 0))) (zh (f2 gIx (fVar 6) (fC (.int 1))) (zh (f2 gIx (fVar 6) (fC (.int 2))) (fNil))))) (zh (fVar 5) (fNil))) [.pers (.scr ns),.pers (frmD (frmV ns)),.pers (.lst (ps.map zd)),.pers (.lst (one.map zd)),.pers (.lst (oth.map zd)),.pers (.bl b),.pers (.lst [.lst (ps.map zd),.lst (one.map zd),.lst (oth.map zd)])] = .ok (.pers (.bl true)) := by
   rw [zbh (a := .pers (.bl b)) (b := .pers (.bl b)) (by
    show ((yd [spL ps,spL one,spL oth]).bind _) = _
    rw [a1]
    rfl) rfl]
   show ((xa [.bl b,.bl b]).bind _) = _
   rw [rr]
   rfl
  have k2 : f2 gNe (fVar 6) (fLst (zy (fVar 2) (zy (fVar 3) (zy (fVar 4) (hNil))))) [.pers (.scr ns),.pers (frmD (frmV ns)),.pers (.lst (ps.map zd)),.pers (.lst (one.map zd)),.pers (.lst (oth.map zd)),.pers (.bl b),.pers (.lst [.lst (ps.map zd),.lst (one.map zd),.lst (oth.map zd)])] = .ok (.pers (.bl false)) := by
   show gNe (.lst [.lst (ps.map zd),.lst (one.map zd),.lst (oth.map zd)]) (.lst [.lst (ps.map zd),.lst (one.map zd),.lst (oth.map zd)]) = _
   simp only [gNe,hsh,Bool.true_or,if_true,heq]
   rfl
  simp only [ifS,fOr,fNot,fTr,fTrB,k1,k2,zj,Val.d,trD]
  rfl)]
 have z1 : zz xa (zh (zz yd (zh (fVar 2) (zh (fVar 4) (zh (fVar 3) (fNil))))) (zh (fVar 5) (fNil))) [.pers (.scr ns),.pers (frmD (frmV ns)),.pers (.lst (ps.map zd)),.pers (.lst (one.map zd)),.pers (.lst (oth.map zd)),.pers (.bl b),.pers (.lst [.lst (ps.map zd),.lst (one.map zd),.lst (oth.map zd)])] = .ok (.pers (.bl true)) := by
  rw [zbh (a := .pers (.bl b)) (b := .pers (.bl b)) (by
   show ((yd [spL ps,spL oth,spL one]).bind _) = _
   rw [a2]
   rfl) rfl]
  show ((xa [.bl b,.bl b]).bind _) = _
  rw [rr]
  rfl
 have z2 : zz xa (zh (zz yd (zh (fVar 2) (zh (fVar 3) (zh (fB zbY (zh (fVar 3) (fNil))) (fNil))))) (zh (fC (.bl true)) (fNil))) [.pers (.scr ns),.pers (frmD (frmV ns)),.pers (.lst (ps.map zd)),.pers (.lst (one.map zd)),.pers (.lst (oth.map zd)),.pers (.bl b),.pers (.lst [.lst (ps.map zd),.lst (one.map zd),.lst (oth.map zd)])] = .ok (.pers (.bl true)) := by
  rw [zbh (a := .pers (.bl true)) (b := .pers (.bl true)) (by
   show ((yd [spL ps,spL one,spL one]).bind _) = _
   rw [a3]
   rfl) rfl]
  rfl
 simp only [retS,zgc,z1,z2,zj,Val.d]
end My
namespace My
open PySem PySem.Spec PyProof.Rows L2 DL
noncomputable def top (i : Nat) : Stmt := PySem.Challenge.pw_tautline_k15_alike.main.body.getD i (.Pass ⟨0,0,0,0⟩)
noncomputable abbrev vG : Stmt := top 21
theorem zan : FnScope ["_law_script","_law_k"] ["_law_script","_law_k"] (defScope vG) := ⟨rfl,rfl,rfl,by decide +kernel,rfl,by decide +kernel,by decide +kernel⟩
noncomputable abbrev zaR : Stmt := top 23
theorem zdH : FnScope ["_law_script","_law_k","_law_cell","_law_j"] ["_law_script","_law_k"] (defScope zaR) := ⟨rfl,rfl,rfl,by decide +kernel,rfl,by decide +kernel,by decide +kernel⟩
noncomputable abbrev zaO : Stmt := top 24
theorem zdE : FnScope ["_law_script","_law_k","_law_cell","_law_number"] ["_law_script","_law_k"] (defScope zaO) := ⟨rfl,rfl,rfl,by decide +kernel,rfl,by decide +kernel,by decide +kernel⟩
noncomputable abbrev zaP : Stmt := top 26
theorem zdF : FnScope ["_law_script","_law_wide","_law_high","_law_far","_law_slant","_law_right_here"] ["_law_script"] (defScope zaP) := ⟨rfl,rfl,rfl,by decide +kernel,rfl,by decide +kernel,by decide +kernel⟩
noncomputable abbrev zdJ : Stmt := top 25
theorem zfl : FnScope ["_law_script","_law_number","_law_many","_law_found","_law_k","_law_peg"] ["_law_script"] (defScope zdJ) := ⟨rfl,rfl,rfl,by decide +kernel,rfl,by decide +kernel,by decide +kernel⟩
noncomputable abbrev zhb : Stmt := top 28
theorem zh6 : FnScope ["_law_one","_law_other_here","_law_pegs_here","_law_x","_law_y","_law_rise"] ["_law_one","_law_other_here","_law_pegs_here"] (defScope zhb) := ⟨rfl,rfl,rfl,by decide +kernel,rfl,by decide +kernel,by decide +kernel⟩
noncomputable abbrev zdI : Stmt := top 29
theorem zfk : FnScope ["_law_script","_law_start","_law_many","_law_pegs_here","_law_found","_law_k","_law_number","_law_corner"] ["_law_script","_law_start","_law_many","_law_pegs_here"] (defScope zdI) := ⟨rfl,rfl,rfl,by decide +kernel,rfl,by decide +kernel,by decide +kernel⟩
noncomputable abbrev zaN : Stmt := top 34
theorem zdD : FnScope ["_law_script","_law_rope_here","_law_pegs_here","_law_way","_law_at","_law_middle"] ["_law_script","_law_rope_here","_law_pegs_here"] (defScope zaN) := ⟨rfl,rfl,rfl,by decide +kernel,rfl,by decide +kernel,by decide +kernel⟩
noncomputable abbrev zdM : Stmt := top 35
theorem zfo : FnScope ["_law_rope_here","_law_pegs_here","_law_k"] ["_law_rope_here","_law_pegs_here"] (defScope zdM) := ⟨rfl,rfl,rfl,by decide +kernel,rfl,by decide +kernel,by decide +kernel⟩
noncomputable abbrev zha : Stmt := top 27
theorem zh4 : FnScope ["_law_spots","_law_frame_here","_law_wide","_law_high","_law_slant","_law_right_here","_law_up"] ["_law_spots","_law_frame_here"] (defScope zha) := ⟨rfl,rfl,rfl,by decide +kernel,rfl,by decide +kernel,by decide +kernel⟩
noncomputable abbrev zdK : Stmt := top 33
theorem zfm : FnScope ["_law_row_here","_law_found","_law_x","_law_low","_law_high","_law_way"] ["_law_row_here"] (defScope zdK) := ⟨rfl,rfl,rfl,by decide +kernel,rfl,by decide +kernel,by decide +kernel⟩
noncomputable abbrev zaQ : Stmt := top 30
theorem zdG : FnScope ["_law_pegs_here"] ["_law_pegs_here"] (defScope zaQ) := ⟨rfl,rfl,rfl,by decide +kernel,rfl,by decide +kernel,by decide +kernel⟩
noncomputable abbrev zdL : Stmt := top 31
theorem zfn : FnScope ["_law_one","_law_other_here","_law_line","_law_x","_law_heights","_law_wide","_law_low","_law_high","_law_height","_law_rise","_law_over"] ["_law_one","_law_other_here","_law_line"] (defScope zdL) := ⟨rfl,rfl,rfl,by decide +kernel,rfl,by decide +kernel,by decide +kernel⟩
noncomputable abbrev zg9 : Stmt := top 32
theorem zh3 : FnScope ["_law_pegs_here","_law_rope_here","_law_found","_law_k","_law_one","_law_other_here","_law_some","_law_line"] ["_law_pegs_here","_law_rope_here"] (defScope zg9) := ⟨rfl,rfl,rfl,by decide +kernel,rfl,by decide +kernel,by decide +kernel⟩
noncomputable abbrev zaM : Stmt := top 36
theorem zdC : FnScope ["_law_found","_law_due"] ["_law_found","_law_due"] (defScope zaM) := ⟨rfl,rfl,rfl,by decide +kernel,rfl,by decide +kernel,by decide +kernel⟩
noncomputable abbrev yU : Stmt := top 18
theorem wt : FnScope ["gate","later"] ["gate","later"] (defScope yU) := ⟨rfl,rfl,rfl,by decide +kernel,rfl,by decide +kernel,by decide +kernel⟩
noncomputable abbrev xf : Stmt := top 17
theorem w5 : FnScope ["row","kept","gate"] ["row"] (defScope xf) := ⟨rfl,rfl,rfl,by decide +kernel,rfl,by decide +kernel,by decide +kernel⟩
noncomputable abbrev vE : Stmt := top 6
theorem zal : FnScope ["pegs","heights_by_x","x","y"] ["pegs"] (defScope vE) := ⟨rfl,rfl,rfl,by decide +kernel,rfl,by decide +kernel,by decide +kernel⟩
noncomputable abbrev yq : Stmt := top 8
theorem xp : FnScope ["board","rope","taken","place","corner"] ["board","rope"] (defScope yq) := ⟨rfl,rfl,rfl,by decide +kernel,rfl,by decide +kernel,by decide +kernel⟩
noncomputable abbrev xc : Stmt := top 10
theorem w4 : FnScope ["rope"] ["rope"] (defScope xc) := ⟨rfl,rfl,rfl,by decide +kernel,rfl,by decide +kernel,by decide +kernel⟩
noncomputable abbrev xS : Stmt := top 12
theorem uq : FnScope ["board","stretch","start","end"] ["board","stretch"] (defScope xS) := ⟨rfl,rfl,rfl,by decide +kernel,rfl,by decide +kernel,by decide +kernel⟩
noncomputable abbrev xQ : Stmt := top 13
theorem um : FnScope ["stretch","peg","start","end","across","turn"] ["stretch","peg"] (defScope xQ) := ⟨rfl,rfl,rfl,by decide +kernel,rfl,by decide +kernel,by decide +kernel⟩
noncomputable abbrev z9 : Stmt := top 11
theorem yX : FnScope ["board","stretch","x","heights"] ["board","stretch"] (defScope z9) := ⟨rfl,rfl,rfl,by decide +kernel,rfl,by decide +kernel,by decide +kernel⟩
noncomputable abbrev z8 : Stmt := top 9
theorem yW : FnScope ["board","rope","place","stretch"] ["board","rope"] (defScope z8) := ⟨rfl,rfl,rfl,by decide +kernel,rfl,by decide +kernel,by decide +kernel⟩
noncomputable abbrev wL : Stmt := top 7
theorem uW : FnScope ["pegs","rope","board"] ["pegs","rope"] (defScope wL) := ⟨rfl,rfl,rfl,by decide +kernel,rfl,by decide +kernel,by decide +kernel⟩
noncomputable abbrev xR : Stmt := top 16
theorem uo : FnScope ["line","stretch","x","below","above","way"] ["line","stretch"] (defScope xR) := ⟨rfl,rfl,rfl,by decide +kernel,rfl,by decide +kernel,by decide +kernel⟩
noncomputable abbrev wK : Stmt := top 15
theorem uV : FnScope ["pegs","rope","board","row","stretch"] ["pegs","rope"] (defScope wK) := ⟨rfl,rfl,rfl,by decide +kernel,rfl,by decide +kernel,by decide +kernel⟩
noncomputable abbrev vF : Stmt := top 19
theorem zam : FnScope ["pegs","one","other","row","other_row"] ["pegs","one","other"] (defScope vF) := ⟨rfl,rfl,rfl,by decide +kernel,rfl,by decide +kernel,by decide +kernel⟩
noncomputable abbrev zcC : Stmt := top 37
theorem zh5 : FnScope ["_law_script","_law_frame_here","_law_pegs_here","_law_one","_law_other_here","_law_due","_law_handed"] ["_law_script"] (defScope zcC) := ⟨rfl,rfl,rfl,by decide +kernel,rfl,by decide +kernel,by decide +kernel⟩
section
variable (P : Program) (w : World) (K : PySem.W.Frag) (mg : Str → Option Value) (base : Heap) (k : Nat)
noncomputable abbrev zaa : Prop := Cal P w K mg base k "_law_cell_at" ["_law_script","_law_k"] yI
noncomputable abbrev zdw : Prop := Cal P w K mg base k "_law_block" ["_law_script","_law_k"] xY
noncomputable abbrev vz : Prop := Cal P w K mg base k "_law_mixed" ["_law_script","_law_k"] zV
noncomputable abbrev zdu : Prop := Cal P w K mg base k "_law_frame" ["_law_script"] zaZ
noncomputable abbrev zgN : Prop := Cal P w K mg base k "_law_pegs" ["_law_script"] zdT
noncomputable abbrev zhY : Prop := Cal P w K mg base k "_law_hit" ["_law_one","_law_other_here","_law_pegs_here"] zcP
noncomputable abbrev zei : Prop := Cal P w K mg base k "_law_rope" ["_law_script","_law_start","_law_many","_law_pegs_here"] vL
noncomputable abbrev zdt : Prop := Cal P w K mg base k "_law_other" ["_law_script","_law_rope_here","_law_pegs_here"] ud
noncomputable abbrev zgQ : Prop := Cal P w K mg base k "_law_fits" ["_law_rope_here","_law_pegs_here"] u7
noncomputable abbrev zjE : Prop := Cal P w K mg base k "_law_put" ["_law_spots","_law_frame_here"] vM
noncomputable abbrev zgO : Prop := Cal P w K mg base k "_law_left" ["_law_row_here"] w8
noncomputable abbrev zdv : Prop := Cal P w K mg base k "_law_board" ["_law_pegs_here"] vh
noncomputable abbrev zgP : Prop := Cal P w K mg base k "_law_gate" ["_law_one","_law_other_here","_law_line"] u6
noncomputable abbrev zjD : Prop := Cal P w K mg base k "_law_row" ["_law_pegs_here","_law_rope_here"] zag
noncomputable abbrev zds : Prop := Cal P w K mg base k "_law_right" ["_law_found","_law_due"] xa
noncomputable abbrev xH : Prop := Cal P w K mg base k "to_and_fro" ["gate","later"] zO
noncomputable abbrev x9 : Prop := Cal P w K mg base k "shortened" ["row"] zN
noncomputable abbrev v3 : Prop := Cal P w K mg base k "lines" ["pegs"] yH
noncomputable abbrev yL : Prop := Cal P w K mg base k "refuse_corners" ["board","rope"] zY
noncomputable abbrev xi : Prop := Cal P w K mg base k "stretches" ["rope"] zX
noncomputable abbrev wa : Prop := Cal P w K mg base k "crossed" ["board","stretch"] ym
noncomputable abbrev x8 : Prop := Cal P w K mg base k "side_of" ["stretch","peg"] yl
noncomputable abbrev yz : Prop := Cal P w K mg base k "goes_through_peg" ["board","stretch"] zM
noncomputable abbrev yx : Prop := Cal P w K mg base k "refuse_stretches" ["board","rope"] zL
noncomputable abbrev uk : Prop := Cal P w K mg base k "looked" ["pegs","rope"] xK
noncomputable abbrev vy : Prop := Cal P w K mg base k "gate_of" ["line","stretch"] xq
noncomputable abbrev uj : Prop := Cal P w K mg base k "row_of" ["pegs","rope"] xj
noncomputable abbrev t9 : Prop := Cal P w K mg base k "alike" ["pegs","one","other"] yd
end
section
variable {P : Program} {w : World} {K : PySem.W.Frag} {mg : Str → Option Value} {base : Heap} {k : Nat} {f : Addr} {fd : FuncData}
theorem zdh (F : Fun K "_law_cell_at" "_law_cell_at" vG f fd) (hm : mg "_law_cell_at" = some (.ref f))  (b_len : mg "len" = none) : zaa P w K mg base (k + 1) := by
 have nd := (zan).nd
 exact Cal.imp (m := runD 2 vP) ⟨f,fd,yJ (N := ["_law_script","_law_k"]) F zan fun cdv A outer s G H E hr =>
  zi (yK (vo (zc (pv 1)) (ya zR vd b_len PySem.boot_len (zf (zc (pv 0)) (zp))))
  (zl (zP (zD (zc (pv 0)) (zc (pv 1)))))
  (zW))
  (zl (zP (zg))),hm,F.kp,F.binds (ps := ["_law_script","_law_k"]) fun _ _ _ _ _ _ us hl => match us,hl with | [_,_],_ => rfl⟩ zbN
theorem zgD (F : Fun K "_law_block" "_law_block" zaR f fd) (hm : mg "_law_block" = some (.ref f))  (b_len : mg "len" = none) (b_range : mg "range" = none) : zdw P w K mg base (k + 1) := by
 have nd := (zdH).nd
 exact Cal.imp (m := runD 4 zba) ⟨f,fd,yJ (N := ["_law_script","_law_k","_law_cell","_law_j"]) F zdH fun cdv A outer s G H E hr =>
  zi (zw (i := 2) true nd (zg))
  (zi (yK (vo (yk (zg) (zT (wd (zc (pv 1)) (zg)) (zg))) (ya zR vd b_len PySem.boot_len (zf (zc (pv 0)) (zp))))
  (zl (zw (i := 2) true nd (wd (zD (zc (pv 0)) (yk (zg) (zT (wd (zc (pv 1)) (zg)) (zg)))) (zaA (zg) (zg)))))
  (zW))
  (zi (xA PassesOwn.never (wD b_range (zf (zT (zc (pv 1)) (zg)) (zp))) (yg (i := 3) nd)
  (zl (zw (i := 2) true nd (wd (zc (pv 2)) (zg)))))
  (zl (zP (zc (pv 2)))))),hm,F.kp,F.binds (ps := ["_law_script","_law_k"]) fun _ _ _ _ _ _ us hl => match us,hl with | [_,_],_ => rfl⟩ zeF
theorem zgA (F : Fun K "_law_mixed" "_law_mixed" zaO f fd) (hm : mg "_law_mixed" = some (.ref f)) (c_block : zdw P w K mg base k) (b_len : mg "len" = none) (b_min : mg "min" = none) : vz P w K mg base (k + 1) := by
 have nd := (zdE).nd
 exact Cal.imp (m := runD 4 zc2) ⟨f,fd,yJ (N := ["_law_script","_law_k","_law_cell","_law_number"]) F zdE fun cdv A outer s G H E hr =>
  zi (zw (i := 2) true nd (zg))
  (zi (yK (zcb (ya zR vd b_len PySem.boot_len (zf (zc (pv 0)) (zp))) (zg))
  (zl (zw (i := 2) true nd (zD (zc (pv 0)) (zg))))
  (zW))
  (zi (yK (dt_w (uz (zbd (hu20 hr) (zT (wd (zc (pv 2)) (zaA (zg) (zg))) (zg)) (zg)) (wB (zge (hu20 hr) (zA c_block hr (zf (zc (pv 0)) (zf (zc (pv 1)) (zp))) (ze (ze (zr)))) (zg)))))
  (zl (zP (zT (zA c_block hr (zf (zc (pv 0)) (zf (zc (pv 1)) (zp))) (ze (ze (zr)))) (zg))))
  (zW))
  (zi (yK (zcb (ya zR vd b_len PySem.boot_len (zf (zc (pv 0)) (zp))) (zg))
  (zl (zw (i := 2) true nd (zD (zc (pv 0)) (zT (zc (pv 1)) (ya (zch rfl) zgr b_min boot_min (zf (zg) (zf (ya zR vd b_len PySem.boot_len (zf (zc (pv 0)) (zp))) (zp))))))))
  (zW))
  (zi (zw (i := 3) true nd (yk (zT (zc (pv 2)) (zaA (zg) (zg))) (xb (zg) (yk (zc (pv 1)) (zg)))))
  (zi (zw (i := 3) true nd (yk (zT (xb (zc (pv 3)) (zc (pv 3))) (zg)) (xb (zg) (zc (pv 1)))))
  (zl (zP (zT (xb (zc (pv 3)) (zc (pv 3))) (zg))))))))),hm,F.kp,F.binds (ps := ["_law_script","_law_k"]) fun _ _ _ _ _ _ us hl => match us,hl with | [_,_],_ => rfl⟩ zeC
theorem zgB (F : Fun K "_law_frame" "_law_frame" zaP f fd) (hm : mg "_law_frame" = some (.ref f)) (c_cell_at : zaa P w K mg base k) (c_mixed : vz P w K mg base k)  : zdu P w K mg base (k + 1) := by
 have nd := (zdF).nd
 exact Cal.imp (m := runD 6 zc4) ⟨f,fd,yJ (N := ["_law_script","_law_wide","_law_high","_law_far","_law_slant","_law_right_here"]) F zdF fun cdv A outer s G H E hr =>
  zi (zw (i := 1) true nd (zD (y8 (zv (zg) (zv (yk (zg) (zT (zA c_cell_at hr (zf (zc (pv 0)) (zf (zg) (zp))) (ze (ze (zr)))) (zaA (zg) (zg)))) (zQ)))) (zT (zA c_mixed hr (zf (zc (pv 0)) (zf (zg) (zp))) (ze (ze (zr)))) (zg))))
  (zi (zw (i := 2) true nd (zD (y8 (zv (zg) (zv (yk (zg) (zT (zA c_cell_at hr (zf (zc (pv 0)) (zf (zg) (zp))) (ze (ze (zr)))) (zaA (zg) (zg)))) (zQ)))) (zT (zA c_mixed hr (zf (zc (pv 0)) (zf (zg) (zp))) (ze (ze (zr)))) (zg))))
  (zi (zw (i := 3) true nd (zD (y8 (zv (zg) (zv (zaA (zg) (zg)) (zQ)))) (zT (zA c_mixed hr (zf (zc (pv 0)) (zf (zg) (zp))) (ze (ze (zr)))) (zg))))
  (zi (zw (i := 4) true nd (yw (zT (zA c_mixed hr (zf (zc (pv 0)) (zf (zg) (zp))) (ze (ze (zr)))) (zg)) (zg)))
  (zi (zw (i := 5) true nd (yw (zT (zA c_cell_at hr (zf (zc (pv 0)) (zf (zg) (zp))) (ze (ze (zr)))) (zc (pv 3))) (wd (zc (pv 3)) (zg))))
  (zl (zP (xt (zv (zc (pv 1)) (zv (zc (pv 2)) (zv (zc (pv 4)) (zv (zc (pv 5)) (zv (yw (zT (zA c_cell_at hr (zf (zc (pv 0)) (zf (zg) (zp))) (ze (ze (zr)))) (zc (pv 3))) (wd (zc (pv 3)) (zg))) (zQ))))))))))))),hm,F.kp,F.binds (ps := ["_law_script"]) fun _ _ _ _ _ _ us hl => match us,hl with | [_],_ => rfl⟩ zeD
theorem zhP (F : Fun K "_law_pegs" "_law_pegs" zdJ f fd) (hm : mg "_law_pegs" = some (.ref f)) (c_mixed : vz P w K mg base k) (b_range : mg "range" = none) : zgN P w K mg base (k + 1) := by
 have nd := (zfl).nd
 exact Cal.imp (m := runD 6 zga) ⟨f,fd,yJ (N := ["_law_script","_law_number","_law_many","_law_found","_law_k","_law_peg"]) F zfl fun cdv A outer s G H E hr =>
  zi (zw (i := 1) true nd (zA c_mixed hr (zf (zc (pv 0)) (zf (zg) (zp))) (ze (ze (zr)))))
  (zi (zw (i := 2) true nd (zD (y8 (zv (zT (zc (pv 1)) (zg)) (zv (zT (zc (pv 1)) (zg)) (zv (zg) (zQ))))) (zT (wd (zT (wd (zc (pv 1)) (zg)) (zg)) (zg)) (zg))))
  (zi (zw (i := 3) false nd (y8 (zQ)))
  (zi (xA PassesOwn.never (wD b_range (zf (zc (pv 2)) (zp))) (yg (i := 4) nd)
  (zi (zw (i := 1) true nd (zA c_mixed hr (zf (zc (pv 0)) (zf (yk (zg) (zc (pv 4))) (zp))) (ze (ze (zr)))))
  (zi (zw (i := 5) true nd (xt (zv (xb (zg) (zT (zc (pv 1)) (zg))) (zv (zT (wd (zc (pv 1)) (zg)) (zg)) (zQ)))))
  (zl (yK (zkA (hu20 hr) (zc (pv 5)) (zc (pv 3)))
  (zl (wC (pv 3) (zc (pv 5))))
  (zW))))))
  (zl (zP (zc (pv 3))))))),hm,F.kp,F.binds (ps := ["_law_script"]) fun _ _ _ _ _ _ us hl => match us,hl with | [_],_ => rfl⟩ zfK
theorem zjw (F : Fun K "_law_hit" "_law_hit" zhb f fd) (hm : mg "_law_hit" = some (.ref f))   : zhY P w K mg base (k + 1) := by
 have nd := (zh6).nd
 exact Cal.imp (m := runD 6 zgb) ⟨f,fd,yJ (N := ["_law_one","_law_other_here","_law_pegs_here","_law_x","_law_y","_law_rise"]) F zh6 fun cdv A outer s G H E hr =>
  zi (xA PassesOwn.never (yf (zc (pv 2))) (vc rfl (zF (i := 3) nd (zF (i := 4) nd (xE))))
  (zl (yK (dt_w (zjq (dt_w (uz (vo (zD (zc (pv 0)) (zg)) (zc (pv 3))) (wB (vo (zc (pv 3)) (zD (zc (pv 1)) (zg)))))) (zgd (dt_w (uz (vo (zD (zc (pv 1)) (zg)) (zc (pv 3))) (wB (vo (zc (pv 3)) (zD (zc (pv 0)) (zg)))))))))
  (zi (zw (i := 5) true nd (xb (yw (zD (zc (pv 1)) (zg)) (zD (zc (pv 0)) (zg))) (yw (zc (pv 3)) (zD (zc (pv 0)) (zg)))))
  (zl (yK (zbd (hu20 hr) (zc (pv 5)) (xb (yw (zc (pv 4)) (zD (zc (pv 0)) (zg))) (yw (zD (zc (pv 1)) (zg)) (zD (zc (pv 0)) (zg)))))
  (zl (zP (zcd)))
  (zW))))
  (zW))))
  (zl (zP (zcd))),hm,F.kp,F.binds (ps := ["_law_one","_law_other_here","_law_pegs_here"]) fun _ _ _ _ _ _ us hl => match us,hl with | [_,_,_],_ => rfl⟩ zhw
theorem zhO (F : Fun K "_law_rope" "_law_rope" zdI f fd) (hm : mg "_law_rope" = some (.ref f)) (c_mixed : vz P w K mg base k) (c_hit : zhY P w K mg base k) (b_range : mg "range" = none) : zei P w K mg base (k + 1) := by
 have nd := (zfk).nd
 exact Cal.imp (m := runD 8 zd8) ⟨f,fd,yJ (N := ["_law_script","_law_start","_law_many","_law_pegs_here","_law_found","_law_k","_law_number","_law_corner"]) F zfk fun cdv A outer s G H E hr =>
  zi (zw (i := 4) false nd (y8 (zQ)))
  (zi (xA PassesOwn.never (wD b_range (zf (zc (pv 2)) (zp))) (yg (i := 5) nd)
  (zi (zw (i := 6) true nd (zA c_mixed hr (zf (zc (pv 0)) (zf (yk (zc (pv 1)) (zc (pv 5))) (zp))) (ze (ze (zr)))))
  (zi (zw (i := 7) true nd (xt (zv (yw (xb (zg) (zT (zc (pv 6)) (zg))) (zg)) (zv (yw (zT (wd (zc (pv 6)) (zg)) (zg)) (zg)) (zQ)))))
  (zi (yK (dt_w (uz (zcb (zc (pv 5)) (zg)) (wB (zbd (hu20 hr) (zT (wd (zc (pv 6)) (zg)) (zg)) (zg)))))
  (zl (zw (i := 7) true nd (zD (zc (pv 4)) (xB (zg)))))
  (zW))
  (zi (zhJ 100 PassesOwn.never (dt_w (uz (zcb (zc (pv 5)) (zg)) (wB (uA (zA c_hit hr (zf (zD (zc (pv 4)) (xB (zg))) (zf (zc (pv 7)) (zf (zc (pv 3)) (zp)))) (ze (ze (ze (zr)))))))))
  (zl (zw (i := 7) true nd (xt (zv (zD (zc (pv 7)) (zg)) (zv (yk (zD (zc (pv 7)) (zg)) (zg)) (zQ)))))))
  (zl (wC (pv 4) (zc (pv 7)))))))))
  (zl (zP (zc (pv 4))))),hm,F.kp,F.binds (ps := ["_law_script","_law_start","_law_many","_law_pegs_here"]) fun _ _ _ _ _ _ us hl => match us,hl with | [_,_,_,_],_ => rfl⟩ zfJ
theorem zgz (F : Fun K "_law_other" "_law_other" zaN f fd) (hm : mg "_law_other" = some (.ref f)) (c_mixed : vz P w K mg base k) (c_rope : zei P w K mg base k) (b_len : mg "len" = none) (b_max : mg "max" = none) (b_list : mg "list" = none) (b_reversed : mg "reversed" = none) : zdt P w K mg base (k + 1) := by
 have nd := (zdD).nd
 exact Cal.imp (m := runD 6 tz) ⟨f,fd,yJ (N := ["_law_script","_law_rope_here","_law_pegs_here","_law_way","_law_at","_law_middle"]) F zdD fun cdv A outer s G H E hr =>
  zi (zw (i := 3) true nd (zT (zA c_mixed hr (zf (zc (pv 0)) (zf (zg) (zp))) (ze (ze (zr)))) (zg)))
  (zi (zw (i := 4) true nd (yk (zg) (zT (zA c_mixed hr (zf (zc (pv 0)) (zf (zg) (zp))) (ze (ze (zr)))) (ya (zci rfl) zgs b_max boot_max (zf (zg) (zf (yw (ya zR vd b_len PySem.boot_len (zf (zc (pv 1)) (zp))) (zg)) (zp)))))))
  (zi (yK (zbd (hu20 hr) (zc (pv 3)) (zg))
  (zl (zw (i := 5) true nd (zA c_rope hr (zf (zc (pv 0)) (zf (zg) (zf (yk (zg) (zT (zA c_mixed hr (zf (zc (pv 0)) (zf (zg) (zp))) (ze (ze (zr)))) (zg))) (zf (zc (pv 2)) (zp))))) (ze (ze (ze (ze (zr))))))))
  (zl (yK (zbd (hu20 hr) (zc (pv 3)) (zg))
  (zl (zw (i := 5) true nd (zeY (zbe (zc (pv 1)) (yD (zg)) (yD (xB (zg)))) b_list b_reversed)))
  (zl (yK (zbd (hu20 hr) (zc (pv 3)) (zg))
  (zl (zw (i := 5) true nd (yk (zbe (zc (pv 1)) (yD (zg)) (yD (zc (pv 4)))) (zbe (zc (pv 1)) (yD (yk (zc (pv 4)) (zg))) (yD (xB (zg)))))))
  (zl (yK (zbd (hu20 hr) (zc (pv 3)) (zg))
  (zl (zw (i := 5) true nd (yk (yk (zbe (zc (pv 1)) (yD (zg)) (yD (zc (pv 4)))) (zA c_rope hr (zf (zc (pv 0)) (zf (zg) (zf (zg) (zf (zc (pv 2)) (zp))))) (ze (ze (ze (ze (zr))))))) (zbe (zc (pv 1)) (yD (zc (pv 4))) (yD (xB (zg)))))))
  (zl (zw (i := 5) true nd (zbe (zc (pv 1)) (yD (zg)) (yD (xB (zg)))))))))))))
  (zl (zP (yk (yk (y8 (zv (zD (zc (pv 1)) (zg)) (zQ))) (zc (pv 5))) (y8 (zv (zD (zc (pv 1)) (xB (zg))) (zQ)))))))),hm,F.kp,F.binds (ps := ["_law_script","_law_rope_here","_law_pegs_here"]) fun _ _ _ _ _ _ us hl => match us,hl with | [_,_,_],_ => rfl⟩ zeB
theorem zhS (F : Fun K "_law_fits" "_law_fits" zdM f fd) (hm : mg "_law_fits" = some (.ref f)) (c_hit : zhY P w K mg base k) (b_len : mg "len" = none) (b_range : mg "range" = none) : zgQ P w K mg base (k + 1) := by
 have nd := (zfo).nd
 exact Cal.imp (m := runD 3 zb5) ⟨f,fd,yJ (N := ["_law_rope_here","_law_pegs_here","_law_k"]) F zfo fun cdv A outer s G H E hr =>
  zi (xA PassesOwn.never (wD b_range (zf (yw (ya zR vd b_len PySem.boot_len (zf (zc (pv 0)) (zp))) (zg)) (zp))) (yg (i := 2) nd)
  (zl (yK (uA (zA c_hit hr (zf (zD (zc (pv 0)) (zc (pv 2))) (zf (zD (zc (pv 0)) (yk (zc (pv 2)) (zg))) (zf (zc (pv 1)) (zp)))) (ze (ze (ze (zr))))))
  (zl (zP (zcd)))
  (zW))))
  (zl (zP (zcd))),hm,F.kp,F.binds (ps := ["_law_rope_here","_law_pegs_here"]) fun _ _ _ _ _ _ us hl => match us,hl with | [_,_],_ => rfl⟩ zfN
theorem zjv (F : Fun K "_law_put" "_law_put" zha f fd) (hm : mg "_law_put" = some (.ref f))   : zjE P w K mg base (k + 1) := by
 have nd := (zh4).nd
 exact Cal.imp (m := runD 7 zhI) ⟨f,fd,yJ (N := ["_law_spots","_law_frame_here","_law_wide","_law_high","_law_slant","_law_right_here","_law_up"]) F zh4 fun cdv A outer s G H E hr =>
  zi (ziv (zc (pv 1)) (vc rfl (zF (i := 2) nd (zF (i := 3) nd (zF (i := 4) nd (zF (i := 5) nd (zF (i := 6) nd (xE))))))))
  (zl (zP (xu (cap := [2,5,3,4,6]) (own := ["_law_x","_law_y"]) ⟨rfl,by decide +kernel,by decide +kernel,rfl,rfl⟩ (yf (zc (pv 0))) (fun _ _ _ => vc rfl (zF (i := 5) (show (["_law_wide","_law_right_here","_law_high","_law_slant","_law_up","_law_x","_law_y"] : List Str).Nodup from by decide +kernel) (zF (i := 6) (show (["_law_wide","_law_right_here","_law_high","_law_slant","_law_up","_law_x","_law_y"] : List Str).Nodup from by decide +kernel) (xE)))) (zbg [5,6]) (fun _ _ _ => vn) (fun _ _ _ => xt (zv (yk (xb (zc (pv 0)) (zc (pv 5))) (zc (pv 1))) (zv (yk (yk (xb (zc (pv 2)) (zc (pv 6))) (xb (zc (pv 3)) (zc (pv 5)))) (zc (pv 4))) (zQ))))))),hm,F.kp,F.binds (ps := ["_law_spots","_law_frame_here"]) fun _ _ _ _ _ _ us hl => match us,hl with | [_,_],_ => rfl⟩ zhv
theorem zhQ (F : Fun K "_law_left" "_law_left" zdK f fd) (hm : mg "_law_left" = some (.ref f))   : zgO P w K mg base (k + 1) := by
 have nd := (zfm).nd
 exact Cal.imp (m := runD 6 zb4) ⟨f,fd,yJ (N := ["_law_row_here","_law_found","_law_x","_law_low","_law_high","_law_way"]) F zfm fun cdv A outer s G H E hr =>
  zi (zw (i := 1) false nd (y8 (zQ)))
  (zi (xA PassesOwn.never (yf (zc (pv 0))) (vc rfl (zF (i := 2) nd (zF (i := 3) nd (zF (i := 4) nd (zF (i := 5) nd (xE))))))
  (zl (yK (dt_w (uz (zge (hu20 hr) (zc (pv 1)) (y8 (zQ))) (wB (zbd (hu20 hr) (zD (zc (pv 1)) (xB (zg))) (xt (zv (zc (pv 2)) (zv (zc (pv 3)) (zv (zc (pv 4)) (zv (yw (zg) (zc (pv 5))) (zQ))))))))))
  (zl (ziu (pv 1)))
  (zl (wC (pv 1) (xt (zv (zc (pv 2)) (zv (zc (pv 3)) (zv (zc (pv 4)) (zv (zc (pv 5)) (zQ)))))))))))
  (zl (zP (zc (pv 1))))),hm,F.kp,F.binds (ps := ["_law_row_here"]) fun _ _ _ _ _ _ us hl => match us,hl with | [_],_ => rfl⟩ zfL
theorem zgC (F : Fun K "_law_board" "_law_board" zaQ f fd) (hm : mg "_law_board" = some (.ref f))  (b_sorted : mg "sorted" = none) (b_set : mg "set" = none) : zdv P w K mg base (k + 1) := by
 have nd := (zdG).nd
 exact Cal.imp (m := runD 1 zc5) ⟨f,fd,yJ (N := ["_law_pegs_here"]) F zdG fun cdv A outer s G H E hr =>
  zl (zP (xu (cap := [0]) (own := ["_law_x"]) ⟨rfl,by decide +kernel,by decide +kernel,rfl,rfl⟩ (yf (zcc (xu (cap := []) (own := ["_law_x","_law_y"]) ⟨rfl,by decide +kernel,by decide +kernel,rfl,rfl⟩ (yf (zc (pv 0))) (fun _ _ _ => vc rfl (zF (i := 0) (show (["_law_x","_law_y"] : List Str).Nodup from by decide +kernel) (zF (i := 1) (show (["_law_x","_law_y"] : List Str).Nodup from by decide +kernel) (xE)))) (zbg [0,1]) (fun _ _ _ => vn) (fun _ _ _ => zc (pv 0))) b_sorted b_set)) (fun _ _ _ => yg (i := 1) (show (["_law_pegs_here","_law_x"] : List Str).Nodup from by decide +kernel)) (yr 1) (fun _ _ _ => vn) (fun _ _ _ => xt (zv (zc (pv 1)) (zv (ya zde zgq b_sorted boot_sorted (zf (xu (cap := [1]) (own := ["_law_a","_law_y"]) ⟨rfl,by decide +kernel,by decide +kernel,rfl,rfl⟩ (yf (zc (pv 0))) (fun _ _ _ => vc rfl (zF (i := 1) (show (["_law_x","_law_a","_law_y"] : List Str).Nodup from by decide +kernel) (zF (i := 2) (show (["_law_x","_law_a","_law_y"] : List Str).Nodup from by decide +kernel) (xE)))) (zbg [1,2]) (fun _ _ _ => vm (zbd (hu20 hr) (zc (pv 1)) (zc (pv 0)))) (fun _ _ _ => zc (pv 2))) (zp))) (zQ)))))),hm,F.kp,F.binds (ps := ["_law_pegs_here"]) fun _ _ _ _ _ _ us hl => match us,hl with | [_],_ => rfl⟩ zeE
theorem zhR (F : Fun K "_law_gate" "_law_gate" zdL f fd) (hm : mg "_law_gate" = some (.ref f))  (b_int : mg "int" = none) : zgP P w K mg base (k + 1) := by
 have nd := (zfn).nd
 exact Cal.imp (m := runD 11 zax) ⟨f,fd,yJ (N := ["_law_one","_law_other_here","_law_line","_law_x","_law_heights","_law_wide","_law_low","_law_high","_law_height","_law_rise","_law_over"]) F zfn fun cdv A outer s G H E hr =>
  zi (ziv (zc (pv 2)) (vc rfl (zF (i := 3) nd (zF (i := 4) nd (xE)))))
  (zi (zw (i := 5) true nd (yw (zD (zc (pv 1)) (zg)) (zD (zc (pv 0)) (zg))))
  (zi (zw (i := 6) true nd (zgk))
  (zi (zw (i := 7) true nd (zgk))
  (zi (xA PassesOwn.never (yf (zc (pv 4))) (yg (i := 8) nd)
  (zi (zw (i := 9) true nd (xb (yw (zD (zc (pv 1)) (zg)) (zD (zc (pv 0)) (zg))) (yw (zc (pv 3)) (zD (zc (pv 0)) (zg)))))
  (zi (zw (i := 10) true nd (yk (xb (yw (zD (zc (pv 0)) (zg)) (zc (pv 8))) (zc (pv 5))) (zc (pv 9))))
  (zl (yK (zcb (xb (zc (pv 10)) (zc (pv 5))) (zg))
  (zl (zw (i := 6) true nd (zc (pv 8))))
  (zl (yK (zkB (zc (pv 7)) (zgk))
  (zl (zw (i := 7) true nd (zc (pv 8))))
  (zW))))))))
  (zl (zP (xt (zv (zc (pv 3)) (zv (zc (pv 6)) (zv (zc (pv 7)) (zv (zD (y8 (zv (xB (zg)) (zv (zg) (zQ)))) (wT zgw zkH b_int boot_int (zf (de_gt (zc (pv 5)) (zg)) (zp)))) (zQ)))))))))))),hm,F.kp,F.binds (ps := ["_law_one","_law_other_here","_law_line"]) fun _ _ _ _ _ _ us hl => match us,hl with | [_,_,_],_ => rfl⟩ zfM
theorem zju (F : Fun K "_law_row" "_law_row" zg9 f fd) (hm : mg "_law_row" = some (.ref f)) (c_board : zdv P w K mg base k) (c_gate : zgP P w K mg base k) (b_len : mg "len" = none) (b_range : mg "range" = none) (b_min : mg "min" = none) (b_max : mg "max" = none) : zjD P w K mg base (k + 1) := by
 have nd := (zh3).nd
 exact Cal.imp (m := runD 8 zeT) ⟨f,fd,yJ (N := ["_law_pegs_here","_law_rope_here","_law_found","_law_k","_law_one","_law_other_here","_law_some","_law_line"]) F zh3 fun cdv A outer s G H E hr =>
  zi (zw (i := 2) true nd (y8 (zQ)))
  (zi (xA PassesOwn.never (wD b_range (zf (yw (ya zR vd b_len PySem.boot_len (zf (zc (pv 1)) (zp))) (zg)) (zp))) (yg (i := 3) nd)
  (zi (zw (i := 4) true nd (zD (zc (pv 1)) (zc (pv 3))))
  (zi (zw (i := 5) true nd (zD (zc (pv 1)) (yk (zc (pv 3)) (zg))))
  (zi (zw (i := 6) false nd (y8 (zQ)))
  (zi (xA PassesOwn.never (yf (zA c_board hr (zf (zc (pv 0)) (zp)) (ze (zr)))) (yg (i := 7) nd)
  (zl (yK (dt_w (uz (vo (ya (zch rfl) zgr b_min boot_min (zf (zD (zc (pv 4)) (zg)) (zf (zD (zc (pv 5)) (zg)) (zp)))) (zD (zc (pv 7)) (zg))) (wB (vo (zD (zc (pv 7)) (zg)) (ya (zci rfl) zgs b_max boot_max (zf (zD (zc (pv 4)) (zg)) (zf (zD (zc (pv 5)) (zg)) (zp))))))))
  (zl (wC (pv 6) (zA c_gate hr (zf (zc (pv 4)) (zf (zc (pv 5)) (zf (zc (pv 7)) (zp)))) (ze (ze (ze (zr)))))))
  (zW))))
  (zi (yK (vo (zD (zc (pv 5)) (zg)) (zD (zc (pv 4)) (zg)))
  (zl (zeV (pv 6)))
  (zW))
  (zl (zw (i := 2) true nd (yk (zc (pv 2)) (zc (pv 6)))))))))))
  (zl (zP (zc (pv 2))))),hm,F.kp,F.binds (ps := ["_law_pegs_here","_law_rope_here"]) fun _ _ _ _ _ _ us hl => match us,hl with | [_,_],_ => rfl⟩ zhu
theorem zgy (F : Fun K "_law_right" "_law_right" zaM f fd) (hm : mg "_law_right" = some (.ref f))  (b_isinstance : mg "isinstance" = none) (b_bool : mg "bool" = none) : zds P w K mg base (k + 1) := by
 have nd := (zdC).nd
 exact Cal.imp (m := runD 2 zc1) ⟨f,fd,yJ (N := ["_law_found","_law_due"]) F zdC fun cdv A outer s G H E hr =>
  zl (zP (zgn (zkD zhE (zc (pv 0)) b_isinstance b_bool boot_bool) (zgj (zgl (hu20 hr) (zc (pv 0)) (zc (pv 1)))))),hm,F.kp,F.binds (ps := ["_law_found","_law_due"]) fun _ _ _ _ _ _ us hl => match us,hl with | [_,_],_ => rfl⟩ zeA
theorem uK (F : Fun K "to_and_fro" "to_and_fro" yU f fd) (hm : mg "to_and_fro" = some (.ref f))   : xH P w K mg base (k + 1) := by
 have nd := (wt).nd
 exact Cal.imp (m := runD 2 yA) ⟨f,fd,yJ (N := ["gate","later"]) F wt fun cdv A outer s G H E hr =>
  zl (zP (zgn (zgl (hu20 hr) (zbe (zc (pv 0)) (zdc) (yD (zg))) (zbe (zc (pv 1)) (zdc) (yD (zg)))) (zgj (de_ne (hu20 hr) (zD (zc (pv 0)) (zg)) (zD (zc (pv 1)) (zg)))))),hm,F.kp,F.binds (ps := ["gate","later"]) fun _ _ _ _ _ _ us hl => match us,hl with | [_,_],_ => rfl⟩ uc
theorem tW (F : Fun K "shortened" "shortened" xf f fd) (hm : mg "shortened" = some (.ref f)) (c_p_to_and_fro : xH P w K mg base k)  : x9 P w K mg base (k + 1) := by
 have nd := (w5).nd
 exact Cal.imp (m := runD 3 x0) ⟨f,fd,yJ (N := ["row","kept","gate"]) F w5 fun cdv A outer s G H E hr =>
  zi (zw (i := 1) false nd (y8 (zQ)))
  (zi (xA PassesOwn.never (yf (zc (pv 0))) (yg (i := 2) nd)
  (zl (yK (dt_w (uz (uA (zc (pv 1))) (wB (uA (zA c_p_to_and_fro hr (zf (zD (zc (pv 1)) (xB (zg))) (zf (zc (pv 2)) (zp))) (ze (ze (zr))))))))
  (zl (ziu (pv 1)))
  (zl (wC (pv 1) (zc (pv 2)))))))
  (zl (zP (zc (pv 1))))),hm,F.kp,F.binds (ps := ["row"]) fun _ _ _ _ _ _ us hl => match us,hl with | [_],_ => rfl⟩ uH
theorem zdf (F : Fun K "lines" "lines" vE f fd) (hm : mg "lines" = some (.ref f))  (b_len : mg "len" = none) (b_set : mg "set" = none) (b_sorted : mg "sorted" = none) (b_list : mg "list" = none) : v3 P w K mg base (k + 1) := by
 have nd := (zal).nd
 exact Cal.imp (m := runD 4 tx) ⟨f,fd,yJ (N := ["pegs","heights_by_x","x","y"]) F zal fun cdv A outer s G H E hr =>
  zi (yK (vo (zeZ (hu20 hr) (zc (pv 0)) b_len b_set) (ya zR vd b_len PySem.boot_len (zf (zc (pv 0)) (zp))))
  (zl vW) (zW))
  (zgg (zaT (zib (i := 1) nd rfl (Or.inl rfl) zho)
  (zaT (zid PassesOwn.never rfl (zfB (vK zcg rfl b_sorted boot_sorted (zU (pv 0) yF))) (zie rfl (zaU (zaV (i := 2) nd rfl (Or.inl rfl)) (zaU (zaV (i := 3) nd rfl (Or.inl rfl)) zfC)))
  (zcJ (v7 (zhp PySem.F.plainAttrs_list PySem.F.slot_list_append PySem.F.type_list_append u8 (zhp PySem.F.plainAttrs_dict PySem.F.slot_dict_setdefault PySem.F.type_dict_setdefault zfO (pv 1) (zU (pv 2) (zU (zif yF) yF))) (zU (pv 3) yF)))))
  (zcJ (zic (vJ (zah rfl) rfl b_list boot_list (zU (zfD PySem.F.plainAttrs_dict PySem.F.slot_dict_items PySem.F.type_dict_items zhx (pv 1)) yF)))))) rfl),hm,F.kp,F.binds (ps := ["pegs"]) fun _ _ _ _ _ _ us hl => match us,hl with | [_],_ => rfl⟩ zbL
theorem wX (F : Fun K "refuse_corners" "refuse_corners" yq f fd) (hm : mg "refuse_corners" = some (.ref f))  (b_enumerate : mg "enumerate" = none) : yL P w K mg base (k + 1) := by
 have nd := (xp).nd
 exact Cal.imp (m := runD 5 zK) ⟨f,fd,yJ (N := ["board","rope","taken","place","corner"]) F xp fun cdv A outer s G H E hr =>
  zi ((by first | exact zda (i := 2) true nd (cap := []) (own := ["line"]) ⟨rfl,by decide +kernel,by decide +kernel,rfl,rfl⟩ (yf (zc (pv 0))) (fun _ _ _ => yg (i := 0) (show (["line"] : List Str).Nodup from by decide +kernel)) (yr 0) (fun _ _ _ => vn) (fun _ _ _ => zD (zc (pv 0)) (zg)) | exact zw (i := 2) true nd (xu (cap := []) (own := ["line"]) ⟨rfl,by decide +kernel,by decide +kernel,rfl,rfl⟩ (yf (zc (pv 0))) (fun _ _ _ => yg (i := 0) (show (["line"] : List Str).Nodup from by decide +kernel)) (yr 0) (fun _ _ _ => vn) (fun _ _ _ => zD (zc (pv 0)) (zg)))))
  (zl (xA PassesOwn.never (zgi b_enumerate (zc (pv 1))) (vc rfl (zF (i := 3) nd (zF (i := 4) nd (xE))))
  (zl (yK (dt_in (hu20 hr) (zD (zc (pv 4)) (zg)) (zc (pv 2)))
  (zl (vW))
  (zW))))),hm,F.kp,F.binds (ps := ["board","rope"]) fun _ _ _ _ _ _ us hl => match us,hl with | [_,_],_ => rfl⟩ wv
theorem tV (F : Fun K "stretches" "stretches" xc f fd) (hm : mg "stretches" = some (.ref f))  (b_list : mg "list" = none) (b_zip : mg "zip" = none) : xi P w K mg base (k + 1) := by
 have nd := (w4).nd
 exact Cal.imp (m := runD 1 xg) ⟨f,fd,yJ (N := ["rope"]) F w4 fun cdv A outer s G H E hr =>
  zl (zP (zeX (zc (pv 0)) (zbe (zc (pv 0)) (yD (zg)) (zdc)) b_list b_zip)),hm,F.kp,F.binds (ps := ["rope"]) fun _ _ _ _ _ _ us hl => match us,hl with | [_],_ => rfl⟩ uG
theorem zbk (F : Fun K "crossed" "crossed" xS f fd) (hm : mg "crossed" = some (.ref f))  (b_reversed : mg "reversed" = none) : wa P w K mg base (k + 1) := by
 have nd := (uq).nd
 exact Cal.imp (m := runD 4 yS) ⟨f,fd,yJ (N := ["board","stretch","start","end"]) F uq fun cdv A outer s G H E hr =>
  zi (zw (i := 2) true nd (zD (zD (zc (pv 1)) (zg)) (zg)))
  (zi (zw (i := 3) true nd (zD (zD (zc (pv 1)) (zg)) (zg)))
  (zi (yK (vo (zc (pv 2)) (zc (pv 3)))
  (zl (zP (xu (cap := [2,3]) (own := ["line"]) ⟨rfl,by decide +kernel,by decide +kernel,rfl,rfl⟩ (yf (zc (pv 0))) (fun _ _ _ => yg (i := 2) (show (["start","end","line"] : List Str).Nodup from by decide +kernel)) (yr 2) (fun _ _ _ => vm (zgf (zc (pv 0)) (zD (zc (pv 2)) (zg)) (zc (pv 1)))) (fun _ _ _ => zc (pv 2)))))
  (zW))
  (zl (zP (xu (cap := [3,2]) (own := ["line"]) ⟨rfl,by decide +kernel,by decide +kernel,rfl,rfl⟩ (zkC b_reversed (zc (pv 0))) (fun _ _ _ => yg (i := 2) (show (["end","start","line"] : List Str).Nodup from by decide +kernel)) (yr 2) (fun _ _ _ => vm (zgf (zc (pv 0)) (zD (zc (pv 2)) (zg)) (zc (pv 1)))) (fun _ _ _ => zc (pv 2))))))),hm,F.kp,F.binds (ps := ["board","stretch"]) fun _ _ _ _ _ _ us hl => match us,hl with | [_,_],_ => rfl⟩ zaf
theorem zbi (F : Fun K "side_of" "side_of" xQ f fd) (hm : mg "side_of" = some (.ref f))   : x8 P w K mg base (k + 1) := by
 have nd := (um).nd
 exact Cal.imp (m := runD 6 yQ) ⟨f,fd,yJ (N := ["stretch","peg","start","end","across","turn"]) F um fun cdv A outer s G H E hr =>
  zi (zw (i := 2) true nd (zD (zc (pv 0)) (zg)))
  (zi (zw (i := 3) true nd (zD (zc (pv 0)) (zg)))
  (zi (zw (i := 4) true nd (yw (zD (zc (pv 3)) (zg)) (zD (zc (pv 2)) (zg))))
  (zi (zw (i := 5) true nd (yw (xb (zc (pv 4)) (yw (zD (zc (pv 1)) (zg)) (zD (zc (pv 2)) (zg)))) (xb (yw (zD (zc (pv 3)) (zg)) (zD (zc (pv 2)) (zg))) (yw (zD (zc (pv 1)) (zg)) (zD (zc (pv 2)) (zg))))))
  (zl (zP (zkE (zcb (zc (pv 4)) (zg)) (zc (pv 5)) (xB (zc (pv 5))))))))),hm,F.kp,F.binds (ps := ["stretch","peg"]) fun _ _ _ _ _ _ us hl => match us,hl with | [_,_],_ => rfl⟩ zad
theorem wg (F : Fun K "goes_through_peg" "goes_through_peg" z9 f fd) (hm : mg "goes_through_peg" = some (.ref f)) (c_p_crossed : wa P w K mg base k) (c_p_side_of : x8 P w K mg base k) (b_any : mg "any" = none) : yz P w K mg base (k + 1) := by
 have nd := (yX).nd
 exact Cal.imp (m := runD 4 zI) ⟨f,fd,yJ (N := ["board","stretch","x","heights"]) F yX fun cdv A outer s G H E hr =>
  zi (xA PassesOwn.never (yf (zA c_p_crossed hr (zf (zc (pv 0)) (zf (zc (pv 1)) (zp))) (ze (ze (zr))))) (vc rfl (zF (i := 2) nd (zF (i := 3) nd (xE))))
  (zl (yK (uA (ya (zgx rfl) zkI b_any boot_any (zf (xu (cap := [1,2]) (own := ["y"]) ⟨rfl,by decide +kernel,by decide +kernel,rfl,rfl⟩ (yf (zc (pv 3))) (fun _ _ _ => yg (i := 2) (show (["stretch","x","y"] : List Str).Nodup from by decide +kernel)) (yr 2) (fun _ _ _ => vn) (fun _ _ _ => zgl (hu20 hr) (zA c_p_side_of hr (zf (zc (pv 0)) (zf (xt (zv (zc (pv 1)) (zv (zc (pv 2)) (zQ)))) (zp))) (ze (ze (zr)))) (zg))) (zp))))
  (zl (zP (zcd)))
  (zW))))
  (zl (zP (zcd))),hm,F.kp,F.binds (ps := ["board","stretch"]) fun _ _ _ _ _ _ us hl => match us,hl with | [_,_],_ => rfl⟩ xX
theorem wf (F : Fun K "refuse_stretches" "refuse_stretches" z8 f fd) (hm : mg "refuse_stretches" = some (.ref f)) (c_p_stretches : xi P w K mg base k) (c_p_goes_through_peg : yz P w K mg base k) (b_enumerate : mg "enumerate" = none) : yx P w K mg base (k + 1) := by
 have nd := (yW).nd
 exact Cal.imp (m := runD 4 zH) ⟨f,fd,yJ (N := ["board","rope","place","stretch"]) F yW fun cdv A outer s G H E hr =>
  zl (xA PassesOwn.never (zgi b_enumerate (zA c_p_stretches hr (zf (zc (pv 1)) (zp)) (ze (zr)))) (vc rfl (zF (i := 2) nd (zF (i := 3) nd (xE))))
  (zl (yK (uA (zA c_p_goes_through_peg hr (zf (zc (pv 0)) (zf (zc (pv 3)) (zp))) (ze (ze (zr)))))
  (zl (vW))
  (zW)))),hm,F.kp,F.binds (ps := ["board","rope"]) fun _ _ _ _ _ _ us hl => match us,hl with | [_,_],_ => rfl⟩ xW
theorem zck (F : Fun K "looked" "looked" wL f fd) (hm : mg "looked" = some (.ref f)) (c_p_lines : v3 P w K mg base k) (c_p_refuse_corners : yL P w K mg base k) (c_p_refuse_stretches : yx P w K mg base k) (b_len : mg "len" = none) : uk P w K mg base (k + 1) := by
 have nd := (uW).nd
 exact Cal.imp (m := runD 3 wR) ⟨f,fd,yJ (N := ["pegs","rope","board"]) F uW fun cdv A outer s G H E hr =>
  zi (zw (i := 2) true nd (zA c_p_lines hr (zf (zc (pv 0)) (zp)) (ze (zr))))
  (zi (yK (vo (ya zR vd b_len PySem.boot_len (zf (zc (pv 1)) (zp))) (zg))
  (zl (vW))
  (zW))
  (zi (zdb (zA c_p_refuse_corners hr (zf (zc (pv 2)) (zf (zc (pv 1)) (zp))) (ze (ze (zr)))))
  (zl (zdb (zA c_p_refuse_stretches hr (zf (zc (pv 2)) (zf (zc (pv 1)) (zp))) (ze (ze (zr)))))))),hm,F.kp,F.binds (ps := ["pegs","rope"]) fun _ _ _ _ _ _ us hl => match us,hl with | [_,_],_ => rfl⟩ zaY
theorem zbj (F : Fun K "gate_of" "gate_of" xR f fd) (hm : mg "gate_of" = some (.ref f)) (c_p_side_of : x8 P w K mg base k) (b_min : mg "min" = none) (b_max : mg "max" = none) : vy P w K mg base (k + 1) := by
 have nd := (uo).nd
 exact Cal.imp (m := runD 6 yR) ⟨f,fd,yJ (N := ["line","stretch","x","below","above","way"]) F uo fun cdv A outer s G H E hr =>
  zi (zw (i := 2) true nd (zD (zc (pv 0)) (zg)))
  (zi ((by first | exact zda (i := 3) true nd (cap := [1,2]) (own := ["y"]) ⟨rfl,by decide +kernel,by decide +kernel,rfl,rfl⟩ (yf (zD (zc (pv 0)) (zg))) (fun _ _ _ => yg (i := 2) (show (["stretch","x","y"] : List Str).Nodup from by decide +kernel)) (yr 2) (fun _ _ _ => vm (vo (zA c_p_side_of hr (zf (zc (pv 0)) (zf (xt (zv (zc (pv 1)) (zv (zc (pv 2)) (zQ)))) (zp))) (ze (ze (zr)))) (zg))) (fun _ _ _ => zc (pv 2)) | exact zw (i := 3) true nd (xu (cap := [1,2]) (own := ["y"]) ⟨rfl,by decide +kernel,by decide +kernel,rfl,rfl⟩ (yf (zD (zc (pv 0)) (zg))) (fun _ _ _ => yg (i := 2) (show (["stretch","x","y"] : List Str).Nodup from by decide +kernel)) (yr 2) (fun _ _ _ => vm (vo (zA c_p_side_of hr (zf (zc (pv 0)) (zf (xt (zv (zc (pv 1)) (zv (zc (pv 2)) (zQ)))) (zp))) (ze (ze (zr)))) (zg))) (fun _ _ _ => zc (pv 2)))))
  (zi ((by first | exact zda (i := 4) true nd (cap := [1,2]) (own := ["y"]) ⟨rfl,by decide +kernel,by decide +kernel,rfl,rfl⟩ (yf (zD (zc (pv 0)) (zg))) (fun _ _ _ => yg (i := 2) (show (["stretch","x","y"] : List Str).Nodup from by decide +kernel)) (yr 2) (fun _ _ _ => vm (zcb (zA c_p_side_of hr (zf (zc (pv 0)) (zf (xt (zv (zc (pv 1)) (zv (zc (pv 2)) (zQ)))) (zp))) (ze (ze (zr)))) (zg))) (fun _ _ _ => zc (pv 2)) | exact zw (i := 4) true nd (xu (cap := [1,2]) (own := ["y"]) ⟨rfl,by decide +kernel,by decide +kernel,rfl,rfl⟩ (yf (zD (zc (pv 0)) (zg))) (fun _ _ _ => yg (i := 2) (show (["stretch","x","y"] : List Str).Nodup from by decide +kernel)) (yr 2) (fun _ _ _ => vm (zcb (zA c_p_side_of hr (zf (zc (pv 0)) (zf (xt (zv (zc (pv 1)) (zv (zc (pv 2)) (zQ)))) (zp))) (ze (ze (zr)))) (zg))) (fun _ _ _ => zc (pv 2)))))
  (zi (zw (i := 5) true nd (zkE (vo (zD (zD (zc (pv 1)) (zg)) (zg)) (zc (pv 2))) (zg) (xB (zg))))
  (zl (zP (xt (zv (zc (pv 2)) (zv (zkG (zc (pv 3)) b_max) (zv (zkF (zc (pv 4)) b_min) (zv (zc (pv 5)) (zQ))))))))))),hm,F.kp,F.binds (ps := ["line","stretch"]) fun _ _ _ _ _ _ us hl => match us,hl with | [_,_],_ => rfl⟩ zae
theorem zcj (F : Fun K "row_of" "row_of" wK f fd) (hm : mg "row_of" = some (.ref f)) (c_p_looked : uk P w K mg base k) (c_p_lines : v3 P w K mg base k) (c_p_stretches : xi P w K mg base k) (c_p_crossed : wa P w K mg base k) (c_p_gate_of : vy P w K mg base k)  : uj P w K mg base (k + 1) := by
 have nd := (uV).nd
 exact Cal.imp (m := runD 5 xl) ⟨f,fd,yJ (N := ["pegs","rope","board","row","stretch"]) F uV fun cdv A outer s G H E hr =>
  zi (zdb (zA c_p_looked hr (zf (zc (pv 0)) (zf (zc (pv 1)) (zp))) (ze (ze (zr)))))
  (zi (zw (i := 2) true nd (zA c_p_lines hr (zf (zc (pv 0)) (zp)) (ze (zr))))
  (zi (zw (i := 3) false nd (y8 (zQ)))
  (zi (xA PassesOwn.never (yf (zA c_p_stretches hr (zf (zc (pv 1)) (zp)) (ze (zr)))) (yg (i := 4) nd)
  (zl (zgh (pv 3) (xu (cap := [4]) (own := ["line"]) ⟨rfl,by decide +kernel,by decide +kernel,rfl,rfl⟩ (yf (zA c_p_crossed hr (zf (zc (pv 2)) (zf (zc (pv 4)) (zp))) (ze (ze (zr))))) (fun _ _ _ => yg (i := 1) (show (["stretch","line"] : List Str).Nodup from by decide +kernel)) (yr 1) (fun _ _ _ => vn) (fun _ _ _ => zA c_p_gate_of hr (zf (zc (pv 1)) (zf (zc (pv 0)) (zp))) (ze (ze (zr))))))))
  (zl (zP (zc (pv 3))))))),hm,F.kp,F.binds (ps := ["pegs","rope"]) fun _ _ _ _ _ _ us hl => match us,hl with | [_,_],_ => rfl⟩ zaX
theorem zdg (F : Fun K "alike" "alike" vF f fd) (hm : mg "alike" = some (.ref f)) (c_p_shortened : x9 P w K mg base k) (c_p_row_of : uj P w K mg base k)  : t9 P w K mg base (k + 1) := by
 have nd := (zam).nd
 exact Cal.imp (m := runD 5 wA) ⟨f,fd,yJ (N := ["pegs","one","other","row","other_row"]) F zam fun cdv A outer s G H E hr =>
  zi (zw (i := 3) true nd (zA c_p_shortened hr (zf (zA c_p_row_of hr (zf (zc (pv 0)) (zf (zc (pv 1)) (zp))) (ze (ze (zr)))) (zp)) (ze (zr))))
  (zi (zw (i := 4) true nd (zA c_p_shortened hr (zf (zA c_p_row_of hr (zf (zc (pv 0)) (zf (zc (pv 2)) (zp))) (ze (ze (zr)))) (zp)) (ze (zr))))
  (zi (yK (dt_w (zjq (zge (hu20 hr) (zD (zc (pv 1)) (zg)) (zD (zc (pv 2)) (zg))) (zgd (zge (hu20 hr) (zD (zc (pv 1)) (xB (zg))) (zD (zc (pv 2)) (xB (zg)))))))
  (zl (vW))
  (zW))
  (zl (zP (zgl (hu20 hr) (zc (pv 3)) (zc (pv 4))))))),hm,F.kp,F.binds (ps := ["pegs","one","other"]) fun _ _ _ _ _ _ us hl => match us,hl with | [_,_,_],_ => rfl⟩ zbM
theorem zkd (F : Fun K "law" "law" zcC f fd) (c_frame : zdu P w K mg base k) (c_pegs : zgN P w K mg base k) (c_rope : zei P w K mg base k) (c_mixed : vz P w K mg base k) (c_other : zdt P w K mg base k) (c_fits : zgQ P w K mg base k) (c_put : zjE P w K mg base k) (c_left : zgO P w K mg base k) (c_row : zjD P w K mg base k) (c_right : zds P w K mg base k) (c_p_alike : t9 P w K mg base k) (b_list : mg "list" = none)  : FnOk P w K mg base CX0 (k + 1) f fd ["_law_script"] (spD K (runD 7 zc3) 1) := by
 have nd := (zh5).nd
 exact yJ (N := ["_law_script","_law_frame_here","_law_pegs_here","_law_one","_law_other_here","_law_due","_law_handed"]) F zh5 fun cdv A outer s G H E hr =>
  zi (zw (i := 1) true nd (zA c_frame hr (zf (zc (pv 0)) (zp)) (ze (zr))))
  (zi (zw (i := 2) true nd (zA c_pegs hr (zf (zc (pv 0)) (zp)) (ze (zr))))
  (zi (zw (i := 3) true nd (zA c_rope hr (zf (zc (pv 0)) (zf (zg) (zf (yk (zg) (zT (zA c_mixed hr (zf (zc (pv 0)) (zf (zg) (zp))) (ze (ze (zr)))) (zg))) (zf (zc (pv 2)) (zp))))) (ze (ze (ze (ze (zr)))))))
  (zi (zw (i := 4) true nd (zA c_other hr (zf (zc (pv 0)) (zf (zc (pv 3)) (zf (zc (pv 2)) (zp)))) (ze (ze (ze (zr))))))
  (zi (yK (zit (uA (zA c_fits hr (zf (zc (pv 4)) (zf (zc (pv 2)) (zp))) (ze (ze (zr))))))
  (zl (zw (i := 4) true nd (wT y9 tU b_list boot_list (zf (zc (pv 3)) (zp)))))
  (zW))
  (zi (zw (i := 2) true nd (zA c_put hr (zf (zc (pv 2)) (zf (zc (pv 1)) (zp))) (ze (ze (zr)))))
  (zi (zw (i := 3) true nd (zA c_put hr (zf (zc (pv 3)) (zf (zc (pv 1)) (zp))) (ze (ze (zr)))))
  (zi (zw (i := 4) true nd (zA c_put hr (zf (zc (pv 4)) (zf (zc (pv 1)) (zp))) (ze (ze (zr)))))
  (zi (zw (i := 5) true nd (zgl (hu20 hr) (zA c_left hr (zf (zA c_row hr (zf (zc (pv 2)) (zf (zc (pv 3)) (zp))) (ze (ze (zr)))) (zp)) (ze (zr))) (zA c_left hr (zf (zA c_row hr (zf (zc (pv 2)) (zf (zc (pv 4)) (zp))) (ze (ze (zr)))) (zp)) (ze (zr)))))
  (zi (zw (i := 6) true nd (y8 (zv (wT y9 tU b_list boot_list (zf (zc (pv 2)) (zp))) (zv (wT y9 tU b_list boot_list (zf (zc (pv 3)) (zp))) (zv (wT y9 tU b_list boot_list (zf (zc (pv 4)) (zp))) (zQ))))))
  (zi (yK (dt_w (zjq (zit (uA (zA c_right hr (zf (zA c_p_alike hr (zf (zD (zc (pv 6)) (zg)) (zf (zD (zc (pv 6)) (zg)) (zf (zD (zc (pv 6)) (zg)) (zp)))) (ze (ze (ze (zr))))) (zf (zc (pv 5)) (zp))) (ze (ze (zr)))))) (zgd (zge (hu20 hr) (zc (pv 6)) (y8 (zv (zc (pv 2)) (zv (zc (pv 3)) (zv (zc (pv 4)) (zQ)))))))))
  (zl (zP (zcd)))
  (zW))
  (zl (zP (zgn (zA c_right hr (zf (zA c_p_alike hr (zf (zc (pv 2)) (zf (zc (pv 4)) (zf (zc (pv 3)) (zp)))) (ze (ze (ze (zr))))) (zf (zc (pv 5)) (zp))) (ze (ze (zr)))) (zgj (zA c_right hr (zf (zA c_p_alike hr (zf (zc (pv 2)) (zf (zc (pv 3)) (zf (wT y9 tU b_list boot_list (zf (zc (pv 3)) (zp))) (zp)))) (ze (ze (ze (zr))))) (zf (zcd) (zp))) (ze (ze (zr))))))))))))))))))
end
end My
namespace My
open PySem PySem.Spec PyProof.Rows L2 DL
noncomputable abbrev A_ (K : PySem.W.Frag) (x : Str) (f : Addr) : Prop := PySem.W.nsIn K mainGlobals x = some (some (.ref f))
noncomputable abbrev L_ (K : PySem.W.Frag) (f : Addr) (x : Str) (s : Stmt) (oc kV dc pm cd ct : Value) (od an : Option Addr) (sl : Array (Option Value)) : Prop := K.lookup f = some ⟨oc,od,.func (PySem.W.fnOf x x (defArgs s) (defBody s) (defScope s) .none kV dc pm an cd ct),sl⟩
noncomputable abbrev D_ (K : PySem.W.Frag) (cd : Value) (x : Str) : Prop := PySem.W.codeIn K cd x = true
noncomputable abbrev P_ (K : PySem.W.Frag) (f : Addr) : Prop := PySem.W.keepIn K (.ref f) = true
theorem zkM {l : PySem.W.OpenLaw} {w : World} {K : PySem.W.Frag} {h : Heap} {mg : Str → Option Value} {fa f1 f2 f3 f4 f5 f6 f7 f8 f9 f10 f11 f12 f13 f14 f15 f16 f17 f18 f19 f20 f21 f22 f23 f24 f25 f26 f27 f28 f29 : Addr} (X : K.In h) (G : h.Ns mainGlobals mg) (hfa : mg "law" = some (.ref fa))
 {od1 an1 od2 an2 od3 an3 od4 an4 od5 an5 od6 an6 od7 an7 od8 an8 od9 an9 od10 an10 od11 an11 od12 an12 od13 an13 od14 an14 od15 an15 od16 an16 od17 an17 od18 an18 od19 an19 od20 an20 od21 an21 od22 an22 od23 an23 od24 an24 od25 an25 od26 an26 od27 an27 od28 an28 od29 an29 : Option Addr} {sl1 sl2 sl3 sl4 sl5 sl6 sl7 sl8 sl9 sl10 sl11 sl12 sl13 sl14 sl15 sl16 sl17 sl18 sl19 sl20 sl21 sl22 sl23 sl24 sl25 sl26 sl27 sl28 sl29 : Array (Option Value)} {oc1 kV1 dc1 pm1 cd1 ct1 oc2 kV2 dc2 pm2 cd2 ct2 oc3 kV3 dc3 pm3 cd3 ct3 oc4 kV4 dc4 pm4 cd4 ct4 oc5 kV5 dc5 pm5 cd5 ct5 oc6 kV6 dc6 pm6 cd6 ct6 oc7 kV7 dc7 pm7 cd7 ct7 oc8 kV8 dc8 pm8 cd8 ct8 oc9 kV9 dc9 pm9 cd9 ct9 oc10 kV10 dc10 pm10 cd10 ct10 oc11 kV11 dc11 pm11 cd11 ct11 oc12 kV12 dc12 pm12 cd12 ct12 oc13 kV13 dc13 pm13 cd13 ct13 oc14 kV14 dc14 pm14 cd14 ct14 oc15 kV15 dc15 pm15 cd15 ct15 oc16 kV16 dc16 pm16 cd16 ct16 oc17 kV17 dc17 pm17 cd17 ct17 oc18 kV18 dc18 pm18 cd18 ct18 oc19 kV19 dc19 pm19 cd19 ct19 oc20 kV20 dc20 pm20 cd20 ct20 oc21 kV21 dc21 pm21 cd21 ct21 oc22 kV22 dc22 pm22 cd22 ct22 oc23 kV23 dc23 pm23 cd23 ct23 oc24 kV24 dc24 pm24 cd24 ct24 oc25 kV25 dc25 pm25 cd25 ct25 oc26 kV26 dc26 pm26 cd26 ct26 oc27 kV27 dc27 pm27 cd27 ct27 oc28 kV28 dc28 pm28 cd28 ct28 oc29 kV29 dc29 pm29 cd29 ct29 : Value}
 (a1 : A_ K "_law_cell_at" f1) (l1 : L_ K f1 "_law_cell_at" vG oc1 kV1 dc1 pm1 cd1 ct1 od1 an1 sl1) (c1 : D_ K cd1 "_law_cell_at") (k1 : P_ K f1)
 (a2 : A_ K "_law_block" f2) (l2 : L_ K f2 "_law_block" zaR oc2 kV2 dc2 pm2 cd2 ct2 od2 an2 sl2) (c2 : D_ K cd2 "_law_block") (k2 : P_ K f2)
 (a3 : A_ K "_law_mixed" f3) (l3 : L_ K f3 "_law_mixed" zaO oc3 kV3 dc3 pm3 cd3 ct3 od3 an3 sl3) (c3 : D_ K cd3 "_law_mixed") (k3 : P_ K f3)
 (a4 : A_ K "_law_frame" f4) (l4 : L_ K f4 "_law_frame" zaP oc4 kV4 dc4 pm4 cd4 ct4 od4 an4 sl4) (c4 : D_ K cd4 "_law_frame") (k4 : P_ K f4)
 (a5 : A_ K "_law_pegs" f5) (l5 : L_ K f5 "_law_pegs" zdJ oc5 kV5 dc5 pm5 cd5 ct5 od5 an5 sl5) (c5 : D_ K cd5 "_law_pegs") (k5 : P_ K f5)
 (a6 : A_ K "_law_hit" f6) (l6 : L_ K f6 "_law_hit" zhb oc6 kV6 dc6 pm6 cd6 ct6 od6 an6 sl6) (c6 : D_ K cd6 "_law_hit") (k6 : P_ K f6)
 (a7 : A_ K "_law_rope" f7) (l7 : L_ K f7 "_law_rope" zdI oc7 kV7 dc7 pm7 cd7 ct7 od7 an7 sl7) (c7 : D_ K cd7 "_law_rope") (k7 : P_ K f7)
 (a8 : A_ K "_law_other" f8) (l8 : L_ K f8 "_law_other" zaN oc8 kV8 dc8 pm8 cd8 ct8 od8 an8 sl8) (c8 : D_ K cd8 "_law_other") (k8 : P_ K f8)
 (a9 : A_ K "_law_fits" f9) (l9 : L_ K f9 "_law_fits" zdM oc9 kV9 dc9 pm9 cd9 ct9 od9 an9 sl9) (c9 : D_ K cd9 "_law_fits") (k9 : P_ K f9)
 (a10 : A_ K "_law_put" f10) (l10 : L_ K f10 "_law_put" zha oc10 kV10 dc10 pm10 cd10 ct10 od10 an10 sl10) (c10 : D_ K cd10 "_law_put") (k10 : P_ K f10)
 (a11 : A_ K "_law_left" f11) (l11 : L_ K f11 "_law_left" zdK oc11 kV11 dc11 pm11 cd11 ct11 od11 an11 sl11) (c11 : D_ K cd11 "_law_left") (k11 : P_ K f11)
 (a12 : A_ K "_law_board" f12) (l12 : L_ K f12 "_law_board" zaQ oc12 kV12 dc12 pm12 cd12 ct12 od12 an12 sl12) (c12 : D_ K cd12 "_law_board") (k12 : P_ K f12)
 (a13 : A_ K "_law_gate" f13) (l13 : L_ K f13 "_law_gate" zdL oc13 kV13 dc13 pm13 cd13 ct13 od13 an13 sl13) (c13 : D_ K cd13 "_law_gate") (k13 : P_ K f13)
 (a14 : A_ K "_law_row" f14) (l14 : L_ K f14 "_law_row" zg9 oc14 kV14 dc14 pm14 cd14 ct14 od14 an14 sl14) (c14 : D_ K cd14 "_law_row") (k14 : P_ K f14)
 (a15 : A_ K "_law_right" f15) (l15 : L_ K f15 "_law_right" zaM oc15 kV15 dc15 pm15 cd15 ct15 od15 an15 sl15) (c15 : D_ K cd15 "_law_right") (k15 : P_ K f15)
 (a16 : A_ K "to_and_fro" f16) (l16 : L_ K f16 "to_and_fro" yU oc16 kV16 dc16 pm16 cd16 ct16 od16 an16 sl16) (c16 : D_ K cd16 "to_and_fro") (k16 : P_ K f16)
 (a17 : A_ K "shortened" f17) (l17 : L_ K f17 "shortened" xf oc17 kV17 dc17 pm17 cd17 ct17 od17 an17 sl17) (c17 : D_ K cd17 "shortened") (k17 : P_ K f17)
 (a18 : A_ K "lines" f18) (l18 : L_ K f18 "lines" vE oc18 kV18 dc18 pm18 cd18 ct18 od18 an18 sl18) (c18 : D_ K cd18 "lines") (k18 : P_ K f18)
 (a19 : A_ K "refuse_corners" f19) (l19 : L_ K f19 "refuse_corners" yq oc19 kV19 dc19 pm19 cd19 ct19 od19 an19 sl19) (c19 : D_ K cd19 "refuse_corners") (k19 : P_ K f19)
 (a20 : A_ K "stretches" f20) (l20 : L_ K f20 "stretches" xc oc20 kV20 dc20 pm20 cd20 ct20 od20 an20 sl20) (c20 : D_ K cd20 "stretches") (k20 : P_ K f20)
 (a21 : A_ K "crossed" f21) (l21 : L_ K f21 "crossed" xS oc21 kV21 dc21 pm21 cd21 ct21 od21 an21 sl21) (c21 : D_ K cd21 "crossed") (k21 : P_ K f21)
 (a22 : A_ K "side_of" f22) (l22 : L_ K f22 "side_of" xQ oc22 kV22 dc22 pm22 cd22 ct22 od22 an22 sl22) (c22 : D_ K cd22 "side_of") (k22 : P_ K f22)
 (a23 : A_ K "goes_through_peg" f23) (l23 : L_ K f23 "goes_through_peg" z9 oc23 kV23 dc23 pm23 cd23 ct23 od23 an23 sl23) (c23 : D_ K cd23 "goes_through_peg") (k23 : P_ K f23)
 (a24 : A_ K "refuse_stretches" f24) (l24 : L_ K f24 "refuse_stretches" z8 oc24 kV24 dc24 pm24 cd24 ct24 od24 an24 sl24) (c24 : D_ K cd24 "refuse_stretches") (k24 : P_ K f24)
 (a25 : A_ K "looked" f25) (l25 : L_ K f25 "looked" wL oc25 kV25 dc25 pm25 cd25 ct25 od25 an25 sl25) (c25 : D_ K cd25 "looked") (k25 : P_ K f25)
 (a26 : A_ K "gate_of" f26) (l26 : L_ K f26 "gate_of" xR oc26 kV26 dc26 pm26 cd26 ct26 od26 an26 sl26) (c26 : D_ K cd26 "gate_of") (k26 : P_ K f26)
 (a27 : A_ K "row_of" f27) (l27 : L_ K f27 "row_of" wK oc27 kV27 dc27 pm27 cd27 ct27 od27 an27 sl27) (c27 : D_ K cd27 "row_of") (k27 : P_ K f27)
 (a28 : A_ K "alike" f28) (l28 : L_ K f28 "alike" vF oc28 kV28 dc28 pm28 cd28 ct28 od28 an28 sl28) (c28 : D_ K cd28 "alike") (k28 : P_ K f28)
 (a29 : A_ K "law" f29) (l29 : L_ K f29 "law" zcC oc29 kV29 dc29 pm29 cd29 ct29 od29 an29 sl29) (c29 : D_ K cd29 "law") (k29 : P_ K f29)
 (z_len : PySem.W.nsIn K mainGlobals "len" = some none)
 (z_range : PySem.W.nsIn K mainGlobals "range" = some none)
 (z_min : PySem.W.nsIn K mainGlobals "min" = some none)
 (z_max : PySem.W.nsIn K mainGlobals "max" = some none)
 (z_list : PySem.W.nsIn K mainGlobals "list" = some none)
 (z_reversed : PySem.W.nsIn K mainGlobals "reversed" = some none)
 (z_sorted : PySem.W.nsIn K mainGlobals "sorted" = some none)
 (z_set : PySem.W.nsIn K mainGlobals "set" = some none)
 (z_int : PySem.W.nsIn K mainGlobals "int" = some none)
 (z_isinstance : PySem.W.nsIn K mainGlobals "isinstance" = some none)
 (z_bool : PySem.W.nsIn K mainGlobals "bool" = some none)
 (z_enumerate : PySem.W.nsIn K mainGlobals "enumerate" = some none)
 (z_zip : PySem.W.nsIn K mainGlobals "zip" = some none)
 (z_any : PySem.W.nsIn K mainGlobals "any" = some none) :
 ∃ fd : FuncData,(∀ (s : Shared) (v : Value),BindsTo s fd ⟨[v],[]⟩ [("_law_script",v)]) ∧ ∀ base : Heap,K.In base → base.Ns mainGlobals mg → FnOk l.prog w K mg base CX0 7 fa fd ["_law_script"] (spD K (runD 7 zc3) 1) := by
 have e := hfa.symm.trans (PySem.W.mg_of X G a29)
 cases e
 have b_len := PySem.W.mg_none_of X G z_len
 have b_range := PySem.W.mg_none_of X G z_range
 have b_min := PySem.W.mg_none_of X G z_min
 have b_max := PySem.W.mg_none_of X G z_max
 have b_list := PySem.W.mg_none_of X G z_list
 have b_reversed := PySem.W.mg_none_of X G z_reversed
 have b_sorted := PySem.W.mg_none_of X G z_sorted
 have b_set := PySem.W.mg_none_of X G z_set
 have b_int := PySem.W.mg_none_of X G z_int
 have b_isinstance := PySem.W.mg_none_of X G z_isinstance
 have b_bool := PySem.W.mg_none_of X G z_bool
 have b_enumerate := PySem.W.mg_none_of X G z_enumerate
 have b_zip := PySem.W.mg_none_of X G z_zip
 have b_any := PySem.W.mg_none_of X G z_any
 have F1 := zZ (st := vG) l1 c1 k1
 have F2 := zZ (st := zaR) l2 c2 k2
 have F3 := zZ (st := zaO) l3 c3 k3
 have F4 := zZ (st := zaP) l4 c4 k4
 have F5 := zZ (st := zdJ) l5 c5 k5
 have F6 := zZ (st := zhb) l6 c6 k6
 have F7 := zZ (st := zdI) l7 c7 k7
 have F8 := zZ (st := zaN) l8 c8 k8
 have F9 := zZ (st := zdM) l9 c9 k9
 have F10 := zZ (st := zha) l10 c10 k10
 have F11 := zZ (st := zdK) l11 c11 k11
 have F12 := zZ (st := zaQ) l12 c12 k12
 have F13 := zZ (st := zdL) l13 c13 k13
 have F14 := zZ (st := zg9) l14 c14 k14
 have F15 := zZ (st := zaM) l15 c15 k15
 have F16 := zZ (st := yU) l16 c16 k16
 have F17 := zZ (st := xf) l17 c17 k17
 have F18 := zZ (st := vE) l18 c18 k18
 have F19 := zZ (st := yq) l19 c19 k19
 have F20 := zZ (st := xc) l20 c20 k20
 have F21 := zZ (st := xS) l21 c21 k21
 have F22 := zZ (st := xQ) l22 c22 k22
 have F23 := zZ (st := z9) l23 c23 k23
 have F24 := zZ (st := z8) l24 c24 k24
 have F25 := zZ (st := wL) l25 c25 k25
 have F26 := zZ (st := xR) l26 c26 k26
 have F27 := zZ (st := wK) l27 c27 k27
 have F28 := zZ (st := vF) l28 c28 k28
 have F29 := zZ (st := zcC) l29 c29 k29
 refine ⟨PySem.W.fnOf "law" "law" (defArgs zcC) (defBody zcC) (defScope zcC) .none kV29 dc29 pm29 an29 cd29 ct29,fun s v => .of_eq rfl,fun base _ _ => ?run⟩
 case run =>
  have q_cell_at : zaa l.prog w K mg base 1 := zdh (k := 0) F1 (PySem.W.mg_of X G a1)  b_len
  have q_block : zdw l.prog w K mg base 1 := zgD (k := 0) F2 (PySem.W.mg_of X G a2)  b_len b_range
  have q_mixed : vz l.prog w K mg base 2 := zgA (k := 1) F3 (PySem.W.mg_of X G a3) (q_block.mono (by decide)) b_len b_min
  have q_frame : zdu l.prog w K mg base 3 := zgB (k := 2) F4 (PySem.W.mg_of X G a4) (q_cell_at.mono (by decide)) (q_mixed.mono (by decide))
  have q_pegs : zgN l.prog w K mg base 3 := zhP (k := 2) F5 (PySem.W.mg_of X G a5) (q_mixed.mono (by decide)) b_range
  have q_hit : zhY l.prog w K mg base 1 := zjw (k := 0) F6 (PySem.W.mg_of X G a6)
  have q_rope : zei l.prog w K mg base 3 := zhO (k := 2) F7 (PySem.W.mg_of X G a7) (q_mixed.mono (by decide)) (q_hit.mono (by decide)) b_range
  have q_other : zdt l.prog w K mg base 4 := zgz (k := 3) F8 (PySem.W.mg_of X G a8) (q_mixed.mono (by decide)) (q_rope.mono (by decide)) b_len b_max b_list b_reversed
  have q_fits : zgQ l.prog w K mg base 2 := zhS (k := 1) F9 (PySem.W.mg_of X G a9) (q_hit.mono (by decide)) b_len b_range
  have q_put : zjE l.prog w K mg base 1 := zjv (k := 0) F10 (PySem.W.mg_of X G a10)
  have q_left : zgO l.prog w K mg base 1 := zhQ (k := 0) F11 (PySem.W.mg_of X G a11)
  have q_board : zdv l.prog w K mg base 1 := zgC (k := 0) F12 (PySem.W.mg_of X G a12)  b_sorted b_set
  have q_gate : zgP l.prog w K mg base 1 := zhR (k := 0) F13 (PySem.W.mg_of X G a13)  b_int
  have q_row : zjD l.prog w K mg base 2 := zju (k := 1) F14 (PySem.W.mg_of X G a14) (q_board.mono (by decide)) (q_gate.mono (by decide)) b_len b_range b_min b_max
  have q_right : zds l.prog w K mg base 1 := zgy (k := 0) F15 (PySem.W.mg_of X G a15)  b_isinstance b_bool
  have q_p_to_and_fro : xH l.prog w K mg base 1 := uK (k := 0) F16 (PySem.W.mg_of X G a16)
  have q_p_shortened : x9 l.prog w K mg base 2 := tW (k := 1) F17 (PySem.W.mg_of X G a17) (q_p_to_and_fro.mono (by decide))
  have q_p_lines : v3 l.prog w K mg base 1 := zdf (k := 0) F18 (PySem.W.mg_of X G a18)  b_len b_set b_sorted b_list
  have q_p_refuse_corners : yL l.prog w K mg base 1 := wX (k := 0) F19 (PySem.W.mg_of X G a19)  b_enumerate
  have q_p_stretches : xi l.prog w K mg base 1 := tV (k := 0) F20 (PySem.W.mg_of X G a20)  b_list b_zip
  have q_p_crossed : wa l.prog w K mg base 1 := zbk (k := 0) F21 (PySem.W.mg_of X G a21)  b_reversed
  have q_p_side_of : x8 l.prog w K mg base 1 := zbi (k := 0) F22 (PySem.W.mg_of X G a22)
  have q_p_goes_through_peg : yz l.prog w K mg base 2 := wg (k := 1) F23 (PySem.W.mg_of X G a23) (q_p_crossed.mono (by decide)) (q_p_side_of.mono (by decide)) b_any
  have q_p_refuse_stretches : yx l.prog w K mg base 3 := wf (k := 2) F24 (PySem.W.mg_of X G a24) (q_p_stretches.mono (by decide)) (q_p_goes_through_peg.mono (by decide)) b_enumerate
  have q_p_looked : uk l.prog w K mg base 4 := zck (k := 3) F25 (PySem.W.mg_of X G a25) (q_p_lines.mono (by decide)) (q_p_refuse_corners.mono (by decide)) (q_p_refuse_stretches.mono (by decide)) b_len
  have q_p_gate_of : vy l.prog w K mg base 2 := zbj (k := 1) F26 (PySem.W.mg_of X G a26) (q_p_side_of.mono (by decide)) b_min b_max
  have q_p_row_of : uj l.prog w K mg base 5 := zcj (k := 4) F27 (PySem.W.mg_of X G a27) (q_p_looked.mono (by decide)) (q_p_lines.mono (by decide)) (q_p_stretches.mono (by decide)) (q_p_crossed.mono (by decide)) (q_p_gate_of.mono (by decide))
  have q_p_alike : t9 l.prog w K mg base 6 := zdg (k := 5) F28 (PySem.W.mg_of X G a28) (q_p_shortened.mono (by decide)) (q_p_row_of.mono (by decide))
  exact zkd (k := 6) F29 (q_frame.mono (by decide)) (q_pegs.mono (by decide)) (q_rope.mono (by decide)) (q_mixed.mono (by decide)) (q_other.mono (by decide)) (q_fits.mono (by decide)) (q_put.mono (by decide)) (q_left.mono (by decide)) (q_row.mono (by decide)) (q_right.mono (by decide)) (q_p_alike.mono (by decide)) b_list
theorem zkk (main : ∀ ns : List Int,ns.length ≤ 63 → runD 7 zc3 [.scr ns] = .ok (.pers (.bl true))) (K : PySem.W.Frag) (H : Hp) (a : Addr) (ns : List Int) (hl : ns.length ≤ 63) (hS : SqL K H a (ns.map V.int)) :
 spD K (runD 7 zc3) 1 [.ref a] H (fun v _ => v = .bl true) fun _ _ _ => False :=
 ⟨H,[.scr ns],_,rfl,Same.refl _,⟨_,_,rfl,⟨a,rfl,hS⟩,rfl⟩,main ns hl,fun v G' H' _ _ h => h⟩
end My
namespace My
open PySem PySem.Spec PyProof.Rows L2 DL
end My
open PySem PySem.W PyProof.Rows
set_option maxRecDepth 100000 in
set_option maxHeartbeats 0 in
theorem PySem.Challenge.cw_tautline_k15_alike_holds : PySem.Challenge.rw_tautline_k15_alike.Holds := by
 w_on; o_law; k_head; (case hw => w_witness2)
 k_fill
 refine L2.zgZ (l := PySem.Challenge.rw_tautline_k15_alike) (n := 63) (k := 7) (x := "_law_script") (CX := L2.CX0) (sp := fun K => DL.spD K (DL.runD 7 My.zc3) 1) rfl (by decide) rfl ⟨rfl,by decide,by decide⟩ (fun w h Y => PySem.W.kIn_of Y) ?F ?S ?C
 case F =>
  intro w mg fa h KX G hmg
  refine' My.zkM KX G hmg ?a1 ?l1 ?c1 ?k1 ?a2 ?l2 ?c2 ?k2 ?a3 ?l3 ?c3 ?k3 ?a4 ?l4 ?c4 ?k4 ?a5 ?l5 ?c5 ?k5 ?a6 ?l6 ?c6 ?k6 ?a7 ?l7 ?c7 ?k7 ?a8 ?l8 ?c8 ?k8 ?a9 ?l9 ?c9 ?k9 ?a10 ?l10 ?c10 ?k10 ?a11 ?l11 ?c11 ?k11 ?a12 ?l12 ?c12 ?k12 ?a13 ?l13 ?c13 ?k13 ?a14 ?l14 ?c14 ?k14 ?a15 ?l15 ?c15 ?k15 ?a16 ?l16 ?c16 ?k16 ?a17 ?l17 ?c17 ?k17 ?a18 ?l18 ?c18 ?k18 ?a19 ?l19 ?c19 ?k19 ?a20 ?l20 ?c20 ?k20 ?a21 ?l21 ?c21 ?k21 ?a22 ?l22 ?c22 ?k22 ?a23 ?l23 ?c23 ?k23 ?a24 ?l24 ?c24 ?k24 ?a25 ?l25 ?c25 ?k25 ?a26 ?l26 ?c26 ?k26 ?a27 ?l27 ?c27 ?k27 ?a28 ?l28 ?c28 ?k28 ?a29 ?l29 ?c29 ?k29 ?z_len ?z_range ?z_min ?z_max ?z_list ?z_reversed ?z_sorted ?z_set ?z_int ?z_isinstance ?z_bool ?z_enumerate ?z_zip ?z_any
  (case a1 => unfold My.A_; k_is); (case l1 => unfold My.L_; k_is); (case c1 => unfold My.D_; k_is); (case k1 => unfold My.P_; k_is)
  (case a2 => unfold My.A_; k_is); (case l2 => unfold My.L_; k_is); (case c2 => unfold My.D_; k_is); (case k2 => unfold My.P_; k_is)
  (case a3 => unfold My.A_; k_is); (case l3 => unfold My.L_; k_is); (case c3 => unfold My.D_; k_is); (case k3 => unfold My.P_; k_is)
  (case a4 => unfold My.A_; k_is); (case l4 => unfold My.L_; k_is); (case c4 => unfold My.D_; k_is); (case k4 => unfold My.P_; k_is)
  (case a5 => unfold My.A_; k_is); (case l5 => unfold My.L_; k_is); (case c5 => unfold My.D_; k_is); (case k5 => unfold My.P_; k_is)
  (case a6 => unfold My.A_; k_is); (case l6 => unfold My.L_; k_is); (case c6 => unfold My.D_; k_is); (case k6 => unfold My.P_; k_is)
  (case a7 => unfold My.A_; k_is); (case l7 => unfold My.L_; k_is); (case c7 => unfold My.D_; k_is); (case k7 => unfold My.P_; k_is)
  (case a8 => unfold My.A_; k_is); (case l8 => unfold My.L_; k_is); (case c8 => unfold My.D_; k_is); (case k8 => unfold My.P_; k_is)
  (case a9 => unfold My.A_; k_is); (case l9 => unfold My.L_; k_is); (case c9 => unfold My.D_; k_is); (case k9 => unfold My.P_; k_is)
  (case a10 => unfold My.A_; k_is); (case l10 => unfold My.L_; k_is); (case c10 => unfold My.D_; k_is); (case k10 => unfold My.P_; k_is)
  (case a11 => unfold My.A_; k_is); (case l11 => unfold My.L_; k_is); (case c11 => unfold My.D_; k_is); (case k11 => unfold My.P_; k_is)
  (case a12 => unfold My.A_; k_is); (case l12 => unfold My.L_; k_is); (case c12 => unfold My.D_; k_is); (case k12 => unfold My.P_; k_is)
  (case a13 => unfold My.A_; k_is); (case l13 => unfold My.L_; k_is); (case c13 => unfold My.D_; k_is); (case k13 => unfold My.P_; k_is)
  (case a14 => unfold My.A_; k_is); (case l14 => unfold My.L_; k_is); (case c14 => unfold My.D_; k_is); (case k14 => unfold My.P_; k_is)
  (case a15 => unfold My.A_; k_is); (case l15 => unfold My.L_; k_is); (case c15 => unfold My.D_; k_is); (case k15 => unfold My.P_; k_is)
  (case a16 => unfold My.A_; k_is); (case l16 => unfold My.L_; k_is); (case c16 => unfold My.D_; k_is); (case k16 => unfold My.P_; k_is)
  (case a17 => unfold My.A_; k_is); (case l17 => unfold My.L_; k_is); (case c17 => unfold My.D_; k_is); (case k17 => unfold My.P_; k_is)
  (case a18 => unfold My.A_; k_is); (case l18 => unfold My.L_; k_is); (case c18 => unfold My.D_; k_is); (case k18 => unfold My.P_; k_is)
  (case a19 => unfold My.A_; k_is); (case l19 => unfold My.L_; k_is); (case c19 => unfold My.D_; k_is); (case k19 => unfold My.P_; k_is)
  (case a20 => unfold My.A_; k_is); (case l20 => unfold My.L_; k_is); (case c20 => unfold My.D_; k_is); (case k20 => unfold My.P_; k_is)
  (case a21 => unfold My.A_; k_is); (case l21 => unfold My.L_; k_is); (case c21 => unfold My.D_; k_is); (case k21 => unfold My.P_; k_is)
  (case a22 => unfold My.A_; k_is); (case l22 => unfold My.L_; k_is); (case c22 => unfold My.D_; k_is); (case k22 => unfold My.P_; k_is)
  (case a23 => unfold My.A_; k_is); (case l23 => unfold My.L_; k_is); (case c23 => unfold My.D_; k_is); (case k23 => unfold My.P_; k_is)
  (case a24 => unfold My.A_; k_is); (case l24 => unfold My.L_; k_is); (case c24 => unfold My.D_; k_is); (case k24 => unfold My.P_; k_is)
  (case a25 => unfold My.A_; k_is); (case l25 => unfold My.L_; k_is); (case c25 => unfold My.D_; k_is); (case k25 => unfold My.P_; k_is)
  (case a26 => unfold My.A_; k_is); (case l26 => unfold My.L_; k_is); (case c26 => unfold My.D_; k_is); (case k26 => unfold My.P_; k_is)
  (case a27 => unfold My.A_; k_is); (case l27 => unfold My.L_; k_is); (case c27 => unfold My.D_; k_is); (case k27 => unfold My.P_; k_is)
  (case a28 => unfold My.A_; k_is); (case l28 => unfold My.L_; k_is); (case c28 => unfold My.D_; k_is); (case k28 => unfold My.P_; k_is)
  (case a29 => unfold My.A_; k_is); (case l29 => unfold My.L_; k_is); (case c29 => unfold My.D_; k_is); (case k29 => unfold My.P_; k_is)
  (case z_len => k_is)
  (case z_range => k_is)
  (case z_min => k_is)
  (case z_max => k_is)
  (case z_list => k_is)
  (case z_reversed => k_is)
  (case z_sorted => k_is)
  (case z_set => k_is)
  (case z_int => k_is)
  (case z_isinstance => k_is)
  (case z_bool => k_is)
  (case z_enumerate => k_is)
  (case z_zip => k_is)
  (case z_any => k_is)
 case S => exact fun K H a ns hl hO hS => My.zkk My.main K H a ns hl hS
 case C => exact fun _ _ _ _ z => z
