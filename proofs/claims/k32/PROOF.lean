import PyProof.Rows.All
import Wide.All
import OpenK.AllK
import Wide.FinOn
import Lean
import PyProof.EqAt
import PyProof.EqKinds
import PyProof.TupleCall
import KE.KItemsList
import KE.KMinBuiltin
import KE.KRevIter
import KE.KTryMore
import PyProof.ExcArgs
import PyProof.ExcAttrAll.ValueError
import PyProof.NsDelKeeps
import PyProof.InstStoreFacts
import PySem.Challenge.RW_tautline_k32_pulled_from_the_other_end
set_option bootstrap.genMatcherCode false
set_option compiler.extract_closed false
set_option genSizeOfSpec false
set_option Elab.async false
set_option linter.all false
set_option maxRecDepth 100000
namespace L2
open PySem PySem.Spec PyProof.Rows
noncomputable abbrev Key := Sum Int Str
noncomputable def zjh : Key → Value → Bool
 | .inl k,v => Value.isInt k v
 | .inr x,v => Value.isStrOf x v
noncomputable def keyH (w : World) : Key → Int
 | .inl k => hashInt k
 | .inr x => hashStr w x
theorem ye : ∀ {k : Key} {v : Value},zjh k v = true → (∃ i t,k = Sum.inl i ∧ v = Value.int i t) ∨ (∃ x t,k = Sum.inr x ∧ v = Value.str x t)
 | .inl i,v,h => by
   obtain ⟨t,e⟩ := Value.isInt_shape (k := i) (v := v) h
   exact .inl ⟨i,t,rfl,e⟩
 | .inr x,v,h => by
   obtain ⟨t,e⟩ := Value.isStrOf_shape (x := x) (v := v) h
   exact .inr ⟨x,t,rfl,e⟩
theorem zjg (a b : Int) : decide ((Sum.inl a : Key) = Sum.inl b) = (a == b) := by
 by_cases e : a = b
 ·subst e; simp
 ·have h : ¬ (Sum.inl a : Key) = Sum.inl b := fun q => e (Sum.inl.inj q)
  rw [decide_eq_false h]
  exact (beq_eq_false_iff_ne.mpr e).symm
theorem zjd (a b : Str) : decide ((Sum.inr a : Key) = Sum.inr b) = decide (a = b) := by
 by_cases e : a = b
 ·subst e; simp
 ·have h : ¬ (Sum.inr a : Key) = Sum.inr b := fun q => e (Sum.inr.inj q)
  rw [decide_eq_false h,decide_eq_false e]
theorem zjf (a : Int) (b : Str) : decide ((Sum.inl a : Key) = Sum.inr b) = false := decide_eq_false (fun q => nomatch q)
theorem zje (a : Str) (b : Int) : decide ((Sum.inr a : Key) = Sum.inl b) = false := decide_eq_false (fun q => nomatch q)
noncomputable def zb7 (prog : Program) (w : World) : PySem.KeyKind prog w Key where
 is := zjh
 hash := keyH w
 inj := fun v a b ha hb => by
  rcases ye ha with ⟨i,t,rfl,rfl⟩ | ⟨x,t,rfl,rfl⟩
  ·rcases ye hb with ⟨j,u,rfl,e⟩ | ⟨y,u,rfl,e⟩
   ·injection e with e1 _; rw [e1]
   ·exact nomatch e
  ·rcases ye hb with ⟨j,u,rfl,e⟩ | ⟨y,u,rfl,e⟩
   ·exact nomatch e
   ·injection e with e1 _; rw [e1]
 byValue := fun k v h => by
  rcases ye h with ⟨i,t,rfl,rfl⟩ | ⟨x,t,rfl,rfl⟩ <;> rfl
 pyHash := fun hv h => by
  rcases ye hv with ⟨i,t,rfl,rfl⟩ | ⟨x,t,rfl,rfl⟩
  ·exact wpAny_pyHash_int h
  ·exact wpAny_pyHash_str h
 eqBool := fun hu hv h => by
  rcases ye hu with ⟨i,t,rfl,rfl⟩ | ⟨x,t,rfl,rfl⟩
  ·rcases ye hv with ⟨j,u,rfl,rfl⟩ | ⟨y,u,rfl,rfl⟩
   ·rw [zjg] at h; exact wpAny_eqBool_int h
   ·rw [zjf] at h; exact SeqAt.EqAt.int_str i t y u _ _ _ _ h
  ·rcases ye hv with ⟨j,u,rfl,rfl⟩ | ⟨y,u,rfl,rfl⟩
   ·rw [zje] at h; exact SeqAt.EqAt.str_int x t j u _ _ _ _ h
   ·rw [zjd] at h; exact wpAny_eqBool_str h
 «strs» := fun k x t v h => by
  rcases ye h with ⟨i,u,rfl,e⟩ | ⟨y,u,rfl,e⟩
  ·exact nomatch e
  ·injection e with e1 _
   subst e1
   cases v <;> rfl
end L2
namespace L2
open PySem PySem.Spec PyProof.Rows
inductive V where
 | non | bl (b : Bool) | int (i : Int) | str (x : Str) | byt (b : Array UInt8) | flt (b : UInt64) | ref (a : Addr) | ty (n : String)
 deriving DecidableEq
noncomputable def RelV : V → Value → Prop
 | .non,u => u = Value.none
 | .bl b,u => u = Value.bool b
 | .int i,u => ∃ t,u = Value.int i t
 | .str x,u => ∃ t,u = Value.str x t
 | .byt b,u => ∃ t,u = Value.bytes b t
 | .flt b,u => ∃ t,u = Value.float b t
 | .ref a,u => u = Value.ref a
 | .ty n,u => u = Value.type n
noncomputable abbrev Vals : List V → List Value → Prop := Paired RelV
theorem Vals.length {xs : List V} {us : List Value} (r : Vals xs us) : xs.length = us.length := Paired.length r
theorem Vals.get : ∀ {xs : List V} {us : List Value} {i : Nat} {x : V},Vals xs us → xs[i]? = some x → ∃ u,us[i]? = some u ∧ RelV x u
 | _,_,_,_,.nil,e => by simp at e
 | _,_,0,_,.cons r _,e => by simp at e; subst e; exact ⟨_,rfl,r⟩
 | _,_,i + 1,x,.cons _ t,e => by
   obtain ⟨u,h1,h2⟩ := Vals.get (i := i) (x := x) t (by simpa using e)
   exact ⟨u,by simpa using h1,h2⟩
theorem Vals.set {x : V} {u : Value} (r : RelV x u) : ∀ {xs : List V} {us : List Value} (i : Nat),Vals xs us → Vals (xs.set i x) (us.set i u)
 | _,_,_,.nil => .nil
 | _,_,0,.cons _ t => .cons r t
 | _,_,i + 1,.cons q t => .cons q (Vals.set r i t)
theorem Vals.append : ∀ {xs ys : List V} {us ws : List Value},Vals xs us → Vals ys ws → Vals (xs ++ ys) (us ++ ws)
 | _,_,_,_,.nil,s => s
 | _,_,_,_,.cons r t,s => .cons r (Vals.append t s)
theorem Vals.take : ∀ {xs : List V} {us : List Value} (n : Nat),Vals xs us → Vals (xs.take n) (us.take n)
 | _,_,0,_ => .nil
 | _,_,_ + 1,.nil => .nil
 | _,_,n + 1,.cons r t => .cons r (Vals.take n t)
theorem Vals.drop : ∀ {xs : List V} {us : List Value} (n : Nat),Vals xs us → Vals (xs.drop n) (us.drop n)
 | _,_,0,r => r
 | _,_,_ + 1,.nil => .nil
 | _,_,n + 1,.cons _ t => Vals.drop n t
noncomputable def RelO : Option V → Option Value → Prop
 | some v,some u => RelV v u
 | none,none => True
 | _,_ => False
noncomputable def KV {κ : Type} : List (κ × V) → List (κ × Value) → Prop := Paired fun (p : κ × V) (q : κ × Value) => p.1 = q.1 ∧ RelV p.2 q.2
noncomputable def kV : Key → V
 | .inl i => .int i
 | .inr x => .str x
inductive HO where
 | lst (xs : List V)
 | tup (xs : List V)
 | dK (kvs : List (Key × V)) | dT (kvs : List (List Key × V))
 | set (S : Int → Bool) (n : Nat)
 | ins (C dx : Addr) (fs : List (Str × V))
 | own (x : Addr)
 | xd (fs : List (Str × V))
 | met (f x : Addr)
 | rng (lo hi : Int)
 | frz (o : Obj) (u : HO)
 | tbl (ps : Array Value)
 | ext (φ : Heap → Prop)
noncomputable abbrev Hp := Addr → Option HO
noncomputable def upd (H : Hp) (a : Addr) (o : HO) : Hp := fun b => if b = a then some o else H b
theorem zS {H : Hp} {a : Addr} {o : HO} : upd H a o a = some o := by unfold upd; rw [if_pos rfl]
theorem zG {H : Hp} {a b : Addr} {o : HO} (h : b ≠ a) : upd H a o b = H b := by unfold upd; rw [if_neg h]
theorem zC {H : Hp} {a b : Addr} {o : HO} (h : H a = some o) (h' : H b = none) : a ≠ b := by
 intro e; subst e; rw [h] at h'; cases h'
section
variable (P : Program) (w : World)
noncomputable def vb (H : Hp) (h : Heap) (a : Addr) : HO → Prop
 | .lst xs => xs.length ≤ sizeLine ∧ ∃ (its : List Value) (n : Nat),Vals xs its ∧ h.get? a = some { cls := .type "list",data := .seq its.toArray n }
 | .tup xs => xs.length ≤ sizeLine ∧ ∃ its : List Value,Vals xs its ∧ IsTup h a its.toArray
 | .dK kvs => kvs.length ≤ sizeLine ∧ (a == sysModules) = false ∧ ∃ vs,KV kvs vs ∧ h.DictOf (zb7 P w) a vs
 | .dT kvs => kvs.length ≤ sizeLine ∧ (a == sysModules) = false ∧ ∃ xs : List (List Key × Addr × Value),
  Paired (fun (p : List Key × V) (q : List Key × Addr × Value) => p.1 = q.1 ∧ H q.2.1 = some (.tup (p.1.map kV)) ∧ RelV p.2 q.2.2) kvs xs ∧
  ∃ o es ep,h.get? a = some o ∧ o.ExactDict ∧ o.data = .dict es ep ∧ es.toList = xs.map (entryOfKey (tupleKind (zb7 P w))) ∧ (xs.map (·.1)).Nodup
 | .set S n => h.SetOf (intKind P w) a S n
 | .ins C dx fs => H dx = some (.own a) ∧ fs.length ≤ 1000 ∧ dx ≠ a ∧ h.get? a = some (PySem.W.instObj C dx) ∧
  ∃ mA,h.Ns1 dx mA ∧ (∀ f,RelO (fs.lookup f) (mA f)) ∧ PySem.Within mA (fs.map (·.1))
 | .own _ => ∃ o,h.get? a = some o
 | .xd fs => ∃ mA,h.Ns1 a mA ∧ ∀ f,RelO (fs.lookup f) (mA f)
 | .rng lo hi => ∃ t u v,h.get? a = some { cls := .type "range",data := .fields #[.int lo t,.int hi u,.int 1 v] }
 | .frz o u => h.get? a = some o ∧ vb H h a u
 | .tbl ps => h.get? a = some { cls := .none,data := .fields ps }
 | .met f x => h.get? a = some (PySem.W.methodObj (.ref f) (.ref x))
 | .ext φ => φ h ∧ (∃ o,h.get? a = some o) ∧ ∀ h1 h2 : Heap,φ h1 → (∀ o,h1.get? a = some o → h2.get? a = some o) → φ h2
noncomputable def HOk (H : Hp) (h : Heap) : Prop := ∀ a o,H a = some o → vb P w H h a o
end
section
variable {P : Program} {w : World} {H H' : Hp} {h h' : Heap} {a : Addr} {o : HO}
theorem vb.lt (x : vb P w H h a o) : a < h.objs.size := by
 cases o with
 | lst xs => obtain ⟨_,_,_,_,e⟩ := x; exact Heap.lt_size e
 | tup xs => obtain ⟨_,_,_,p⟩ := x; exact p.lt
 | dK kvs => obtain ⟨_,_,_,_,o,_,_,e,_⟩ := x; exact Heap.lt_size e
 | dT kvs => obtain ⟨_,_,_,_,o,_,_,e,_⟩ := x; exact Heap.lt_size e
 | set S n => obtain ⟨o,_,_,_,e,_⟩ := x; exact Heap.lt_size e
 | ins C dx fs => obtain ⟨_,_,_,e,_⟩ := x; exact Heap.lt_size e
 | own y => obtain ⟨_,e⟩ := x; exact Heap.lt_size e
 | xd fs => obtain ⟨_,⟨_,_,_,e,_⟩,_⟩ := x; exact Heap.lt_size e
 | rng lo hi => obtain ⟨_,_,_,e⟩ := x; exact Heap.lt_size e
 | frz ob u => obtain ⟨e,_⟩ := x; exact Heap.lt_size e
 | tbl ps => exact Heap.lt_size (show h.get? a = some _ from x)
 | met f y => exact Heap.lt_size (show h.get? a = some _ from x)
 | ext φ => obtain ⟨_,⟨_,e⟩,_⟩ := x; exact Heap.lt_size e
theorem Paired.mapP {α β : Type} {F G : α → β → Prop} : ∀ {l₁ : List α} {l₂ : List β},Paired F l₁ l₂ → (∀ a b,F a b → G a b) → Paired G l₁ l₂
 | _,_,.nil,_ => .nil
 | _,_,.cons r t,f => .cons (f _ _ r) (Paired.mapP t f)
theorem vb.stay (x : vb P w H h a o) (k : ∀ b u,(b = a ∨ H b = some (.own a)) → h.get? b = some u → h'.get? b = some u)
 (ho : ∀ b,H b = some (.own a) → H' b = some (.own a)) (ht : ∀ b xs,H b = some (.tup xs) → H' b = some (.tup xs)) : vb P w H' h' a o := by
 induction o with
 | lst xs => obtain ⟨z,its,n,r,e⟩ := x; exact ⟨z,its,n,r,k _ _ (.inl rfl) e⟩
 | tup xs => obtain ⟨z,its,r,ob,e,c⟩ := x; exact ⟨z,its,r,ob,k _ _ (.inl rfl) e,c⟩
 | dK kvs => obtain ⟨z,y,vs,r,ob,es,ep,e,c⟩ := x; exact ⟨z,y,vs,r,ob,es,ep,k _ _ (.inl rfl) e,c⟩
 | dT kvs =>
   obtain ⟨z,y,xs,r,ob,es,ep,e,c⟩ := x
   exact ⟨z,y,xs,Paired.mapP r fun p q z => ⟨z.1,ht _ _ z.2.1,z.2.2⟩,ob,es,ep,k _ _ (.inl rfl) e,c⟩
 | set S n => obtain ⟨ob,es,ep,t,e,c⟩ := x; exact ⟨ob,es,ep,t,k _ _ (.inl rfl) e,c⟩
 | ins C dx fs =>
   obtain ⟨d,z,ne,e,mA,⟨od,es,ep,e2,c⟩,r⟩ := x
   exact ⟨ho _ d,z,ne,k _ _ (.inl rfl) e,mA,⟨od,es,ep,k _ _ (.inr d) e2,c⟩,r⟩
 | own y => obtain ⟨ob,e⟩ := x; exact ⟨ob,k _ _ (.inl rfl) e⟩
 | xd fs => obtain ⟨mA,⟨od,es,ep,e,c⟩,r⟩ := x; exact ⟨mA,⟨od,es,ep,k _ _ (.inl rfl) e,c⟩,r⟩
 | rng lo hi => obtain ⟨t,u,v,e⟩ := x; exact ⟨t,u,v,k _ _ (.inl rfl) e⟩
 | frz ob u ih => obtain ⟨e,q⟩ := x; exact ⟨k _ _ (.inl rfl) e,ih q⟩
 | tbl ps =>
   have e : h.get? a = some { cls := .none,data := .fields ps } := x
   show h'.get? a = some { cls := .none,data := .fields ps }
   exact k a _ (.inl rfl) e
 | met f y =>
   have e : h.get? a = some (PySem.W.methodObj (.ref f) (.ref y)) := x
   show h'.get? a = some (PySem.W.methodObj (.ref f) (.ref y))
   exact k a _ (.inl rfl) e
 | ext φ => obtain ⟨p,⟨o,e⟩,st⟩ := x; exact ⟨st _ _ p fun o q => k _ _ (.inl rfl) q,⟨o,k _ _ (.inl rfl) e⟩,st⟩
theorem HOk.lt (x : HOk P w H h) (e : H a = some o) : a < h.objs.size := (x a o e).lt
theorem HOk.fresh (x : HOk P w H h) (e : h.objs.size ≤ a) : H a = none := by
 cases q : H a with
 | none => rfl
 | some u => exact absurd (Nat.lt_of_lt_of_le (x.lt q) e) (Nat.lt_irrefl _)
theorem HOk.kept (x : HOk P w H h) (k : ∀ b u,h.get? b = some u → h'.get? b = some u) : HOk P w H h' := fun a o e =>
 (x a o e).stay (fun b u _ q => k b u q) (fun _ q => q) fun _ _ q => q
theorem HOk.laid (x : HOk P w H h) (k : ∀ b u,h.get? b = some u → h'.get? b = some u) (hp : h.objs.size ≤ a) (new : vb P w (upd H a o) h' a o) : HOk P w (upd H a o) h' := fun b u e => by
 have hn := x.fresh hp
 by_cases hb : b = a
 ·subst hb; rw [zS] at e; cases e; exact new
 ·rw [zG hb] at e
  exact (x b u e).stay (fun c v _ q => k c v q) (fun c q => by rw [zG (zC q hn)]; exact q) fun c xs q => by rw [zG (zC q hn)]; exact q
end
noncomputable def Rd (H : Hp) (a : Addr) (u : HO) : Prop := H a = some u ∨ ∃ o,H a = some (.frz o u)
theorem Rd.ok {P : Program} {w : World} {H : Hp} {h : Heap} {a : Addr} {u : HO} (r : Rd H a u) (x : HOk P w H h) : vb P w H h a u := by
 rcases r with r | ⟨o,r⟩
 ·exact x a u r
 ·obtain ⟨_,q⟩ := x a _ r
  exact q
noncomputable def Mut : Option HO → Prop
 | some (.lst _) => True
 | some (.dK _) => True
 | some (.dT _) => True
 | some (.set _ _) => True
 | some (.ins _ _ _) => True
 | some (.ext _) => True
 | _ => False
section
variable {P : Program} {w : World} {H : Hp} {h h' : Heap} {x e : Addr} {o' : HO}
theorem HOk.write (ok : HOk P w H h) (mu : Mut (H x)) (he : e = x ∨ H e = some (.own x)) (k : ∀ b u,b ≠ e → h.get? b = some u → h'.get? b = some u) (heo : ∃ u,h'.get? e = some u)
 (new : vb P w (upd H x o') h' x o') : HOk P w (upd H x o') h' := fun b u q => by
 have nown : ∀ c y,H c = some (.own y) → c ≠ x := fun c y r z => by subst z; rw [r] at mu; exact mu
 have ntup : ∀ c xs,H c = some (.tup xs) → c ≠ x := fun c xs r z => by subst z; rw [r] at mu; exact mu
 by_cases hb : b = x
 ·subst hb; rw [zS] at q; cases q; exact new
 ·rw [zG hb] at q
  by_cases hbe : b = e
  ·have q' : H b = some (.own x) := by
    rcases he with z | z
    ·exact absurd (hbe.trans z) hb
    ·rw [hbe]; exact z
   rw [q] at q'; cases q'
   obtain ⟨v,hv⟩ := heo
   exact ⟨v,by rw [hbe]; exact hv⟩
  ·refine (ok b u q).stay (fun c v hc r => k c v ?_ r) (fun c r => by rw [zG (nown c b r)]; exact r) fun c xs r => by rw [zG (ntup c xs r)]; exact r
   rcases hc with rfl | hc
   ·exact hbe
   ·rintro rfl
    rcases he with z | z
    ·exact nown c b hc z
    ·rw [hc] at z; cases z; exact hb rfl
end
structure Un (fs ex : List Addr) (H H' : Hp) (h h' : Heap) : Prop where
 keep : ∀ b o,h.get? b = some o → H b = none → b ∉ fs → b ∉ ex → h'.get? b = some o
 slot : ∀ b o,h.get? b = some o → H b = none → b ∈ fs → b ∉ ex → ∃ sl,h'.get? b = some { o with slots := sl }
 free : ∀ b o,h.get? b = some o → H b = none → b ∉ ex → H' b = none
 there : ∀ b o,h.get? b = some o → b ∉ ex → ∃ o',h'.get? b = some o'
 tups : ∀ b xs,H b = some (.tup xs) → H' b = some (.tup xs)
 frzs : ∀ b o u,H b = some (.frz o u) → H' b = some (.frz o u)
 tbls : ∀ b ps,H b = some (.tbl ps) → ∃ more,H' b = some (.tbl (ps ++ more))
section
variable {fs fs' ex ex' : List Addr} {H H1 H2 : Hp} {h h1 h2 h' : Heap} {a x e : Addr} {o : HO}
theorem Un.any (u : Un fs ex H H1 h h1) {b : Addr} {ob : Obj} (q : h.get? b = some ob) (n : H b = none) (hx : b ∉ ex) : ∃ sl,h1.get? b = some { ob with slots := sl } := by
 by_cases hb : b ∈ fs
 ·exact u.slot b ob q n hb hx
 ·exact ⟨ob.slots,u.keep b ob q n hb hx⟩
theorem Un.kept (k : ∀ b u,h.get? b = some u → h'.get? b = some u) : Un fs ex H H h h' :=
 ⟨fun b ob q _ _ _ => k b ob q,fun b ob q _ _ _ => ⟨ob.slots,k b ob q⟩,fun _ _ _ n _ => n,fun b ob q _ => ⟨ob,k b ob q⟩,fun _ _ q => q,fun _ _ _ q => q,fun _ ps q => ⟨#[],by rw [q]; simp⟩⟩
theorem Un.refl : Un fs ex H H h h := Un.kept fun _ _ q => q
theorem Un.laid (k : ∀ b u,h.get? b = some u → h'.get? b = some u) (hp : h.objs.size ≤ a) (hn : H a = none) : Un fs ex H (upd H a o) h h' where
 keep := fun b u q _ _ _ => k b u q
 slot := fun b u q _ _ _ => ⟨u.slots,k b u q⟩
 free := fun b u q n _ => by rw [zG (Nat.ne_of_lt (Nat.lt_of_lt_of_le (Heap.lt_size q) hp))]; exact n
 there := fun b u q _ => ⟨u,k b u q⟩
 tups := fun b xs q => by rw [zG (zC q hn)]; exact q
 frzs := fun b u xs q => by rw [zG (zC q hn)]; exact q
 tbls := fun b ps q => ⟨#[],by rw [zG (zC q hn),q]; simp⟩
theorem Un.write (mu : Mut (H x)) (he : e = x ∨ H e = some (.own x)) (k : ∀ b u,b ≠ e → h.get? b = some u → h'.get? b = some u) (heo : ∃ u,h'.get? e = some u) : Un fs ex H (upd H x o) h h' := by
 have hx : ∀ b,H b = none → b ≠ x := fun b n z => by subst z; rw [n] at mu; exact mu
 have hb : ∀ b,H b = none → b ≠ e := fun b n z => by
  subst z
  rcases he with r | r
  ·exact hx b n r
  ·rw [n] at r; cases r
 have hm : ∀ b u,H b = some u → ¬ Mut (some u) → b ≠ x := fun b u q nm z => by subst z; rw [q] at mu; exact nm mu
 refine ⟨fun b u q n _ _ => k b u (hb b n) q,fun b u q n _ _ => ⟨u.slots,k b u (hb b n) q⟩,fun b u q n _ => by rw [zG (hx b n)]; exact n,fun b u q _ => ?_,
  fun b xs q => by rw [zG (hm b _ q fun z => z)]; exact q,fun b u xs q => by rw [zG (hm b _ q fun z => z)]; exact q,fun b ps q => ⟨#[],by rw [zG (hm b _ q fun z => z),q]; simp⟩⟩
 by_cases hbe : b = e
 ·subst hbe; exact heo
 ·exact ⟨u,k b u hbe q⟩
end
noncomputable def trk (h : Heap) (H : Hp) : List Addr := (List.range h.objs.size).filter fun a => (H a).isSome
noncomputable def hidT (h : Heap) (H : Hp) : Heap := PySem.W.hideAll h (trk h H)
theorem ze1 (h : Heap) (H : Hp) : (hidT h H).objs.size = h.objs.size := PySem.W.hideAll_size _ _
theorem zgt {h : Heap} {H : Hp} {b : Addr} {o : Obj} (e : h.get? b = some o) (n : H b = none) : (hidT h H).get? b = some o :=
 PySem.W.hideAll_get _ e fun hm => by
  have q : (H b).isSome = true := (List.mem_filter.mp hm).2
  rw [n] at q; simp at q
theorem zhM {h : Heap} {H : Hp} {b : Addr} {o : Obj} (e : (hidT h H).get? b = some o) : h.get? b = some o ∧ H b = none := by
 have e' : h.get? b = some o := PySem.W.of_hideAll (trk h H) e
 refine ⟨e',?_⟩
 cases q : H b with
 | none => rfl
 | some x =>
   have hm : b ∈ trk h H := List.mem_filter.mpr ⟨List.mem_range.mpr (Heap.lt_size e'),by simp [q]⟩
   have z : (hidT h H).get? b = none := PySem.W.hideAll_none (trk h H) hm
   rw [z] at e; cases e
noncomputable def zih (g h : Heap) (L : Addr) : List (Addr × Obj) := (List.range h.objs.size).filterMap fun a => if a = L ∨ (g.get? a).isSome = true then none else (h.get? a).map fun o => (a,o)
noncomputable def rest (g h : Heap) (L d : Addr) : List (Addr × Obj) := (zih g h L).filter fun p => decide (p.1 ≠ d)
end L2
namespace L2
open PySem PySem.Spec PyProof.Rows
structure Mod (K : PySem.W.Frag) (mg : Str → Option Value) (base : Heap) : Prop where
 kin : K.In base
 glob : base.Ns mainGlobals mg
 blt : ∃ mb,base.Ns builtinsNs mb ∧ ∀ x : Str,x ≠ "__name__" → mb x = bootBuiltins x
 nolimit : base.NoLimit
structure Cx where
 prog : Program
 w : World
 K : PySem.W.Frag
 mg : Str → Option Value
 base : Heap
 A : Around
 N : List Str
 s₀ : Shared
 H₀ : Hp
 env : Env
 outer : List Env
 stack : List Env
 ex : List Addr
 fn : Str → Bool
 calm : Bool
 pn : List (Addr × Obj)
 xe : Value → Shared → Prop
noncomputable def frs (l : List Env) : List Addr := l.filterMap (·.frame)
noncomputable abbrev Cx.fs (X : Cx) : List Addr := frs X.outer
noncomputable def Vis (sc : Scope) (x : Str) : Prop := sc.names.lookup x = some .local ∨ sc.names.lookup x = some .cell ∨ sc.names.lookup x = some .free
noncomputable def Loc (sc : Scope) (x : Str) : Prop := sc.names.lookup x = some .local ∨ sc.names.lookup x = some .cell
noncomputable def Look (env : Env) (h : Heap) (m : Str → Option Value) (x : Str) (u : Value) : Prop :=
 (env.kindOf x = some .local ∧ m x = some u) ∨ ((env.kindOf x = some .cell ∨ env.kindOf x = some .free) ∧ ∃ c,env.cells.lookup x = some c ∧ h.IsCell c (some u))
structure Cx.Ok (X : Cx) : Prop where
 mod : Mod X.K X.mg X.base
 kind : X.env.scope.kind = .function
 glob : X.env.globals = mainGlobals
 blt : X.env.builtins = builtinsNs
 above : X.s₀.heap.objs.size ≤ X.env.locals
 inj : ∀ x y c,X.env.cells.lookup x = some c → X.env.cells.lookup y = some c → x = y
 has : ∀ x,(X.env.kindOf x = some .cell ∨ X.env.kindOf x = some .free) → ∃ c,X.env.cells.lookup x = some c
 cab : ∀ x c,X.fn x = true → X.env.cells.lookup x = some c → X.s₀.heap.objs.size ≤ c
 hd : X.calm = true → X.A.handled = none
 frames : X.A.frames = some X.stack
 stk : X.stack = X.outer ∨ (X.stack = X.env :: X.outer ∧ X.env.frame = some X.env.locals)
 exf : ∀ b ∈ X.ex,b ≠ X.env.locals ∧ ∀ x c,X.env.cells.lookup x = some c → c ≠ b
 bs : ∀ b o,X.base.get? b = some o → X.s₀.heap.get? b = some o ∧ X.H₀ b = none
 bsz : X.base.objs.size ≤ X.s₀.heap.objs.size
 noex : ∀ b o,X.base.get? b = some o → b ∉ X.ex
 exfs : ∀ b ∈ X.ex,b ∉ X.fs
 funs : X.s₀.heap.FunFrames X.base X.outer
 frf : ∀ b ∈ X.fs,X.H₀ b = none
structure Inv (X : Cx) (pins : List (Addr × Obj)) (σ : List (Option V)) (H : Hp) (s : Shared) : Prop where
 ok : X.Ok
 os : s.os = X.s₀.os
 bare : AllBare s.gens
 base : Un X.fs X.ex X.H₀ H X.s₀.heap s.heap
 loc : ∃ m,s.heap.Ns X.env.locals m ∧ ∀ (i : Nat) (x : Str) (v : V),X.N[i]? = some x → σ[i]? = some (some v) → Vis X.env.scope x → ∃ u,RelV v u ∧ Look X.env s.heap m x u
 cell : ∀ x c,X.env.cells.lookup x = some c → ∃ v,s.heap.IsCell c v
 free : H X.env.locals = none
 freeC : ∀ x c,X.env.cells.lookup x = some c → H c = none
 pin : ∀ p ∈ X.pn ++ pins,s.heap.get? p.1 = some p.2 ∧ H p.1 = none ∧ p.1 ≠ X.env.locals ∧ p.1 ∉ X.fs ∧ ∀ v,p.2.data ≠ .cell v
 hok : HOk X.prog X.w H s.heap
 len : σ.length = X.N.length
section
variable {X : Cx} {pins : List (Addr × Obj)} {σ : List (Option V)} {H H' : Hp} {s : Shared} {h' : Heap}
theorem Cx.Ok.nofr (ok : X.Ok) {b : Addr} {o : Obj} (e : X.base.get? b = some o) : b ∉ X.fs := fun hb => by
 have := (ok.funs.mem hb).1
 rw [e] at this; cases this
theorem Inv.bs (I : Inv X pins σ H s) : ∀ b o,X.base.get? b = some o → s.heap.get? b = some o ∧ H b = none := fun b o e =>
 ⟨I.base.keep b o (I.ok.bs b o e).1 (I.ok.bs b o e).2 (I.ok.nofr e) (I.ok.noex b o e),I.base.free b o (I.ok.bs b o e).1 (I.ok.bs b o e).2 (I.ok.noex b o e)⟩
theorem Inv.bk (I : Inv X pins σ H s) : ∀ b o,X.base.get? b = some o → s.heap.get? b = some o := fun b o e => (I.bs b o e).1
theorem Inv.mod (I : Inv X pins σ H s) : Mod X.K X.mg X.base := I.ok.mod
theorem Inv.kIn (I : Inv X pins σ H s) : X.K.In s.heap := I.ok.mod.kin.keeps I.bk
theorem Inv.lt (I : Inv X pins σ H s) : X.env.locals < s.heap.objs.size := let ⟨_,hn,_⟩ := I.loc; hn.lt
theorem Inv.sz (I : Inv X pins σ H s) : X.s₀.heap.objs.size ≤ s.heap.objs.size := Nat.le_trans I.ok.above (Nat.le_of_lt I.lt)
theorem Inv.nofs (I : Inv X pins σ H s) {a : Addr} (h : s.heap.objs.size ≤ a) : a ∉ X.fs := fun hb => by
 obtain ⟨_,o,ho,_⟩ := I.ok.funs.mem hb
 exact absurd (Nat.lt_of_lt_of_le (Heap.lt_size ho) (Nat.le_trans I.sz h)) (Nat.lt_irrefl _)
theorem Inv.cne (I : Inv X pins σ H s) : ∀ x c,X.env.cells.lookup x = some c → c ≠ X.env.locals := fun x c e z => by
 obtain ⟨v,o,ho,hd⟩ := I.cell x c e
 obtain ⟨m,⟨o',es,ep,ho',hd',_⟩,_⟩ := I.loc
 rw [z,ho'] at ho; cases ho; rw [hd'] at hd; cases hd
theorem Inv.funs (I : Inv X pins σ H s) : s.heap.FunFrames X.base X.outer := by
 have all : ∀ (l : List Env),(∀ b ∈ frs l,b ∈ X.fs) → X.s₀.heap.FunFrames X.base l → s.heap.FunFrames X.base l := by
  intro l
  induction l with
  | nil => intro _ _; trivial
  | cons env r ih =>
    intro hs hl
    obtain ⟨hk,⟨L,o,hf,hn,ho,hd⟩,hr⟩ := hl
    have hL : L ∈ X.fs := hs L (by unfold frs; rw [List.filterMap_cons,hf]; exact List.mem_cons_self)
    obtain ⟨sl,e⟩ := I.base.slot L o ho (I.ok.frf L hL) hL fun z => I.ok.exfs L z hL
    exact ⟨hk,⟨L,_,hf,hn,e,hd⟩,ih (fun b hb => hs b (by unfold frs; rw [List.filterMap_cons,hf]; exact List.mem_cons_of_mem _ hb)) hr⟩
 exact all X.outer (fun _ hb => hb) I.ok.funs
theorem Inv.stack (I : Inv X pins σ H s) : s.heap.FunFrames X.base X.stack := by
 rcases I.ok.stk with e | ⟨e,hf⟩
 ·rw [e]; exact I.funs
 ·rw [e]
  obtain ⟨m,hn,_⟩ := I.loc
  refine .cons (by rw [I.ok.kind]; decide) hf hn ?_ I.funs
  exact Heap.get?_none_of_le (Nat.le_trans I.ok.bsz I.ok.above)
theorem Inv.stkSub (I : Inv X pins σ H s) : ∀ b ∈ frs X.stack,b ∈ X.env.locals :: X.fs := fun b hb => by
 rcases I.ok.stk with e | ⟨e,hf⟩
 ·rw [e] at hb; exact List.mem_cons_of_mem _ hb
 ·rw [e] at hb
  unfold frs at hb
  rw [List.filterMap_cons,hf] at hb
  exact hb
theorem Inv.stkFree (I : Inv X pins σ H s) : ∀ b ∈ frs X.stack,H b = none := fun b hb => by
 rcases List.mem_cons.mp (I.stkSub b hb) with e | hb
 ·rw [e]; exact I.free
 ·obtain ⟨_,o,ho,_⟩ := I.ok.funs.mem hb
  exact I.base.free b o ho (I.ok.frf b hb) fun z => I.ok.exfs b z hb
theorem Inv.step {g' : Array GenState} {t' : Nat} {d' : Drawn} {ch : List Addr} (I : Inv X pins σ H s)
 (hch : ∀ b ∈ ch,(b ∈ X.ex ∨ X.s₀.heap.objs.size ≤ b) ∧ b ≠ X.env.locals ∧ (∀ x c,X.env.cells.lookup x = some c → c ≠ b) ∧ ∀ p ∈ X.pn ++ pins,p.1 ≠ b)
 (keep : ∀ b o,b ≠ X.env.locals → b ∉ X.fs → b ∉ ch → s.heap.get? b = some o → H b = none → h'.get? b = some o)
 (slot : ∀ b o,b ≠ X.env.locals → b ∈ X.fs → b ∉ ch → s.heap.get? b = some o → H b = none → ∃ sl,h'.get? b = some { o with slots := sl }) (free : ∀ b o,b ∉ ch → s.heap.get? b = some o → H b = none → H' b = none)
 (there : ∀ b o,b ∉ ch → s.heap.get? b = some o → ∃ o',h'.get? b = some o')
 (tups : ∀ b xs,H b = some (.tup xs) → H' b = some (.tup xs)) (frzs : ∀ b o u,H b = some (.frz o u) → H' b = some (.frz o u)) (tbls : ∀ b ps,H b = some (.tbl ps) → ∃ more,H' b = some (.tbl (ps ++ more)))
 (ns : ∀ m,s.heap.Ns X.env.locals m → h'.Ns X.env.locals m) (hok : HOk X.prog X.w H' h') (hg : AllBare g') :
 Inv X pins σ H' { s with heap := h',gens := g',drawn := d',toks := t' } := by
 have neL : ∀ b o,X.s₀.heap.get? b = some o → b ≠ X.env.locals := fun b o e => Nat.ne_of_lt (Nat.lt_of_lt_of_le (Heap.lt_size e) I.ok.above)
 have neC : ∀ b o,X.s₀.heap.get? b = some o → b ∉ X.ex → b ∉ ch := fun b o e hx hb => by
  rcases (hch b hb).1 with z | z
  ·exact hx z
  ·exact absurd (Nat.lt_of_lt_of_le (Heap.lt_size e) z) (Nat.lt_irrefl _)
 have cellK : ∀ x c,X.env.cells.lookup x = some c → ∀ v,s.heap.IsCell c v → h'.IsCell c v := fun x c e v ⟨o,ho,hd⟩ => by
  have nch : c ∉ ch := fun z => (hch c z).2.2.1 x c e rfl
  by_cases hc : c ∈ X.fs
  ·obtain ⟨sl,q⟩ := slot c o (I.cne x c e) hc nch ho (I.freeC x c e)
   exact ⟨_,q,hd⟩
  ·exact ⟨o,keep c o (I.cne x c e) hc nch ho (I.freeC x c e),hd⟩
 refine ⟨I.ok,I.os,hg,⟨fun b o e n hb hx => ?_,fun b o e n hb hx => ?_,fun b o e n hx => ?_,fun b o e hx => ?_,fun b xs e => tups b xs (I.base.tups b xs e),fun b o xs e => frzs b o xs (I.base.frzs b o xs e),fun b ps e => ?_⟩,?_,fun x c e => ?_,?_,fun x c e => ?_,fun p hp => ?_,hok,I.len⟩
 ·exact keep b o (neL b o e) hb (neC b o e hx) (I.base.keep b o e n hb hx) (I.base.free b o e n hx)
 ·obtain ⟨sl,e1⟩ := I.base.slot b o e n hb hx
  obtain ⟨sl',e2⟩ := slot b _ (neL b o e) hb (neC b o e hx) e1 (I.base.free b o e n hx)
  exact ⟨sl',e2⟩
 ·obtain ⟨o',e1⟩ := I.base.there b o e hx
  exact free b o' (neC b o e hx) e1 (I.base.free b o e n hx)
 ·obtain ⟨o',e1⟩ := I.base.there b o e hx
  exact there b o' (neC b o e hx) e1
 ·obtain ⟨m1,e1⟩ := I.base.tbls b ps e
  obtain ⟨m2,e2⟩ := tbls b _ e1
  exact ⟨m1 ++ m2,by rw [e2,Array.append_assoc]⟩
 ·obtain ⟨m,hn,hl⟩ := I.loc
  refine ⟨m,ns m hn,fun i x v e1 e2 e3 => ?_⟩
  obtain ⟨u,r,l⟩ := hl i x v e1 e2 e3
  refine ⟨u,r,?_⟩
  rcases l with l | ⟨k,c,e,z⟩
  ·exact .inl l
  ·exact .inr ⟨k,c,e,cellK x c e _ z⟩
 ·obtain ⟨v,z⟩ := I.cell x c e
  exact ⟨v,cellK x c e v z⟩
 ·obtain ⟨m,⟨o,_,_,ho,_⟩,_⟩ := I.loc
  exact free _ o (fun z => (hch _ z).2.1 rfl) ho I.free
 ·obtain ⟨v,o,ho,hd⟩ := I.cell x c e
  exact free c o (fun z => (hch c z).2.2.1 x c e rfl) ho (I.freeC x c e)
 ·obtain ⟨e,n,ne,nf,d⟩ := I.pin p hp
  have nch : p.1 ∉ ch := fun z => (hch p.1 z).2.2.2 p hp rfl
  exact ⟨keep p.1 p.2 ne nf nch e n,free p.1 p.2 nch e n,ne,nf,d⟩
theorem Inv.un {t' : Nat} (I : Inv X pins σ H s) (u : Un X.fs [] H H' s.heap h') (hok : HOk X.prog X.w H' h') : Inv X pins σ H' { s with heap := h',toks := t' } := by
 obtain ⟨m,⟨o,es,ep,ho,r⟩,_⟩ := id I.loc
 obtain ⟨sl,hL⟩ := u.any ho I.free (by simp)
 exact I.step (g' := s.gens) (d' := s.drawn) (ch := []) (fun _ z => nomatch z) (fun b o _ hb _ e n => u.keep b o e n hb (by simp)) (fun b o _ hb _ e n => u.slot b o e n hb (by simp)) (fun b o _ e n => u.free b o e n (by simp)) (fun b o _ e => u.there b o e (by simp)) u.tups u.frzs u.tbls (fun m' hm => by
  obtain ⟨o',es',ep',ho',r'⟩ := hm
  rw [ho] at ho'; cases ho'
  exact ⟨_,es',ep',hL,r'⟩) hok I.bare
theorem Inv.call {g' : Array GenState} {t' : Nat} {d' : Drawn} {ch : List Addr} (I : Inv X pins σ H s) (u : Un (frs X.stack) ch H H' s.heap h') (hok : HOk X.prog X.w H' h') (hg : AllBare g')
 (hch : ∀ b ∈ ch,(b ∈ X.ex ∨ X.s₀.heap.objs.size ≤ b) ∧ b ≠ X.env.locals ∧ (∀ x c,X.env.cells.lookup x = some c → c ≠ b) ∧ ∀ p ∈ X.pn ++ pins,p.1 ≠ b) :
 Inv X pins σ H' { s with heap := h',gens := g',drawn := d',toks := t' } := by
 obtain ⟨m,⟨o,es,ep,ho,r⟩,_⟩ := id I.loc
 obtain ⟨sl,hL⟩ := u.any ho I.free fun z => (hch _ z).2.1 rfl
 exact I.step (ch := ch) hch (fun b o hL hb hc e n => u.keep b o e n (fun z => (List.mem_cons.mp (I.stkSub b z)).elim hL hb) hc) (fun b o _ _ hc e n => u.any e n hc) (fun b o hc e n => u.free b o e n hc) (fun b o hc e => u.there b o e hc) u.tups u.frzs u.tbls (fun m' hm => by
  obtain ⟨o',es',ep',ho',r'⟩ := hm
  rw [ho] at ho'; cases ho'
  exact ⟨_,es',ep',hL,r'⟩) hok hg
theorem Inv.turned {t' : Nat} {it : Addr} (I : Inv X pins σ H s) (k : ∀ b o,b ≠ it → s.heap.get? b = some o → h'.get? b = some o) (hn : H it = none) (hL : it ≠ X.env.locals)
 (h1 : it ∈ X.ex ∨ X.s₀.heap.objs.size ≤ it) (h2 : ∀ x c,X.env.cells.lookup x = some c → c ≠ it) (h3 : ∀ p ∈ X.pn ++ pins,p.1 ≠ it) : Inv X pins σ H { s with heap := h',toks := t' } := by
 have nit : ∀ b u,H b = some u → b ≠ it := fun b u e z => by rw [z,hn] at e; cases e
 refine I.step (g' := s.gens) (d' := s.drawn) (ch := [it]) (fun b hb => ?_) (fun b o _ _ hc e _ => k b o (fun z => hc (by simp [z])) e) (fun b o _ _ hc e _ => ⟨o.slots,k b o (fun z => hc (by simp [z])) e⟩) (fun _ _ _ _ n => n)
  (fun b o hc e => ⟨o,k b o (fun z => hc (by simp [z])) e⟩) (fun _ _ e => e) (fun _ _ _ e => e) (fun b ps e => ⟨#[],by rw [e]; simp⟩) (fun m hm => ?_) (fun b u e => ?_) I.bare
 ·have e : b = it := by simpa using hb
  subst e
  exact ⟨h1,hL,h2,h3⟩
 ·obtain ⟨o,es,ep,ho,r⟩ := hm
  exact ⟨o,es,ep,k _ o (Ne.symm hL) ho,r⟩
 ·refine (I.hok b u e).stay (fun c v hc q => k c v ?_ q) (fun _ q => q) fun _ _ q => q
  rcases hc with z | z
  ·rw [z]; exact nit b u e
  ·exact nit c _ z
theorem Inv.tok (I : Inv X pins σ H s) (t : Nat) : Inv X pins σ H { s with toks := t } := I.un (h' := s.heap) (t' := t) Un.refl I.hok
theorem Inv.kept {t' : Nat} (I : Inv X pins σ H s) (k : ∀ b u,s.heap.get? b = some u → h'.get? b = some u) : Inv X pins σ H { s with heap := h',toks := t' } := I.un (Un.kept k) (I.hok.kept k)
theorem Inv.laid {a : Addr} {o : HO} {t' : Nat} (I : Inv X pins σ H s) (k : ∀ b u,s.heap.get? b = some u → h'.get? b = some u) (hp : s.heap.objs.size ≤ a) (new : vb X.prog X.w (upd H a o) h' a o) :
 Inv X pins σ (upd H a o) { s with heap := h',toks := t' } := I.un (Un.laid k hp (I.hok.fresh hp)) (I.hok.laid k hp new)
theorem Inv.write {x e : Addr} {o : HO} {t' : Nat} (I : Inv X pins σ H s) (mu : Mut (H x)) (he : e = x ∨ H e = some (.own x)) (k : ∀ b u,b ≠ e → s.heap.get? b = some u → h'.get? b = some u) (heo : ∃ u,h'.get? e = some u)
 (new : vb X.prog X.w (upd H x o) h' x o) : Inv X pins σ (upd H x o) { s with heap := h',toks := t' } := I.un (Un.write mu he k heo) (I.hok.write mu he k heo new)
theorem Inv.pins_of {pins' : List (Addr × Obj)} (I : Inv X pins σ H s) (h : ∀ p ∈ pins',s.heap.get? p.1 = some p.2 ∧ H p.1 = none ∧ p.1 ≠ X.env.locals ∧ p.1 ∉ X.fs ∧ ∀ v,p.2.data ≠ .cell v) : Inv X pins' σ H s :=
 ⟨I.ok,I.os,I.bare,I.base,I.loc,I.cell,I.free,I.freeC,fun p hp => (List.mem_append.mp hp).elim (fun z => I.pin p (List.mem_append_left _ z)) (h p),I.hok,I.len⟩
theorem zc5 {N : List Str} (hN : N.Nodup) {i j : Nat} {x : Str} (a : N[i]? = some x) (b : N[j]? = some x) : i = j := by
 obtain ⟨h1,e1⟩ := List.getElem?_eq_some_iff.mp a
 obtain ⟨h2,e2⟩ := List.getElem?_eq_some_iff.mp b
 exact (List.getElem_inj hN).mp (e1.trans e2.symm)
theorem zbi {M : Model} {A : Around} {E : Value → Shared → Prop} {i : Nat} {x : Str} {v : V} {u : Value} {Q : Unit → Shared → Prop} (I : Inv X pins σ H s) (hN : X.N.Nodup) (hi : X.N[i]? = some x) (hx : Loc X.env.scope x) (r : RelV v u)
 (h : ∀ s',Inv X pins (σ.set i (some v)) H s' → (∃ a,Heap.SameBut a s.heap s'.heap ∧ (a = X.env.locals ∨ X.env.cells.lookup x = some a)) → Q () s') (hf : X.fn x = true ∨ X.env.scope.names.lookup x = some .local := by first | exact .inl rfl | exact .inr rfl | assumption) : wpAny M A (storeName X.env x u) Q E s := by
 obtain ⟨m,hn,hl⟩ := id I.loc
 have hcls : (X.env.scope.kind == .class || (X.env.scope.kind == .module && X.env.locals != X.env.globals)) = false := by rw [I.ok.kind]; rfl
 have hiσ : i < σ.length := by rw [I.len]; exact (List.getElem?_eq_some_iff.mp hi).1
 have cne := I.cne
 have tracked : ∀ {a : Addr} {h' : Heap},(∃ o,s.heap.get? a = some o ∧ H a = none) → Heap.SameBut a s.heap h' → HOk X.prog X.w H h' := fun {a h'} ha hs b ob e => by
  obtain ⟨_,_,hfree⟩ := ha
  refine (I.hok b ob e).stay (fun c w' hc q => (hs.2 c ?_).trans q) (fun _ q => q) fun _ _ q => q
  rintro rfl
  rcases hc with rfl | hc
  ·rw [hfree] at e; cases e
  ·rw [hfree] at hc; cases hc
 rcases hx with hk | hk
 ·refine wpAny_storeName_local hk hn (fun h' hn' hs => ?_) hcls
  obtain ⟨oL,_,_,hoL,_⟩ := id hn
  refine h _ ⟨I.ok,I.os,I.bare,⟨fun b o e n hb hx => ?_,fun b o e n hb hx => ?_,I.base.free,fun b o e hx => ?_,I.base.tups,I.base.frzs,I.base.tbls⟩,⟨_,hn',fun j y v' e1 e2 e3 => ?_⟩,fun y c e => ?_,I.free,I.freeC,fun p hp => ?_,tracked ⟨oL,hoL,I.free⟩ hs,by simpa using I.len⟩ ⟨_,hs,.inl rfl⟩
  ·exact (hs.2 b (Nat.ne_of_lt (Nat.lt_of_lt_of_le (Heap.lt_size e) I.ok.above))).trans (I.base.keep b o e n hb hx)
  ·obtain ⟨sl,e1⟩ := I.base.slot b o e n hb hx
   exact ⟨sl,(hs.2 b (Nat.ne_of_lt (Nat.lt_of_lt_of_le (Heap.lt_size e) I.ok.above))).trans e1⟩
  ·obtain ⟨o',e1⟩ := I.base.there b o e hx
   exact ⟨o',(hs.2 b (Nat.ne_of_lt (Nat.lt_of_lt_of_le (Heap.lt_size e) I.ok.above))).trans e1⟩
  ·by_cases hj : j = i
   ·subst hj
    rw [hi] at e1; cases e1
    rw [List.getElem?_set_self hiσ] at e2
    cases e2
    exact ⟨u,r,.inl ⟨hk,by simp⟩⟩
   ·rw [List.getElem?_set_ne (Ne.symm hj)] at e2
    obtain ⟨u',r',q⟩ := hl j y v' e1 e2 e3
    refine ⟨u',r',?_⟩
    rcases q with ⟨k,e⟩ | ⟨k,c,e,z⟩
    ·refine .inl ⟨k,?_⟩
     have : y ≠ x := fun e => hj (zc5 hN e1 (e ▸ hi))
     simp [this,e]
    ·exact .inr ⟨k,c,e,z.sameBut hs (cne y c e)⟩
  ·obtain ⟨w',z⟩ := I.cell y c e
   exact ⟨w',z.sameBut hs (cne y c e)⟩
  ·obtain ⟨e,n,ne,nf,d⟩ := I.pin p hp
   exact ⟨(hs.2 p.1 ne).trans e,n,ne,nf,d⟩
 ·have hfn : X.fn x = true := by
   rcases hf with z | z
   ·exact z
   ·rw [z] at hk; cases hk
  obtain ⟨c,hc⟩ := I.ok.has x (.inl hk)
  obtain ⟨w',z⟩ := I.cell x c hc
  refine wpAny_storeName_cell I.ok.kind hk hc z (fun h' hc' hs => ?_)
  obtain ⟨oc,hoc,hocd⟩ := id z
  refine h { s with heap := h' } ⟨I.ok,I.os,I.bare,⟨fun b o e n hb hx => ?_,fun b o e n hb hx => ?_,I.base.free,fun b o e hx => ?_,I.base.tups,I.base.frzs,I.base.tbls⟩,⟨m,hn.sameBut hs (Ne.symm (cne x c hc)),fun j y v' e1 e2 e3 => ?_⟩,fun y c' e => ?_,I.free,I.freeC,fun p hp => ?_,tracked ⟨oc,hoc,I.freeC x c hc⟩ hs,by simpa using I.len⟩ ⟨c,hs,.inr hc⟩
  ·exact (hs.2 b (Nat.ne_of_lt (Nat.lt_of_lt_of_le (Heap.lt_size e) (I.ok.cab x c hfn hc)))).trans (I.base.keep b o e n hb hx)
  ·obtain ⟨sl,e1⟩ := I.base.slot b o e n hb hx
   exact ⟨sl,(hs.2 b (Nat.ne_of_lt (Nat.lt_of_lt_of_le (Heap.lt_size e) (I.ok.cab x c hfn hc)))).trans e1⟩
  ·obtain ⟨o',e1⟩ := I.base.there b o e hx
   exact ⟨o',(hs.2 b (Nat.ne_of_lt (Nat.lt_of_lt_of_le (Heap.lt_size e) (I.ok.cab x c hfn hc)))).trans e1⟩
  ·by_cases hj : j = i
   ·subst hj
    rw [hi] at e1; cases e1
    rw [List.getElem?_set_self hiσ] at e2
    cases e2
    exact ⟨u,r,.inr ⟨.inl hk,c,hc,hc'⟩⟩
   ·rw [List.getElem?_set_ne (Ne.symm hj)] at e2
    obtain ⟨u',r',q⟩ := hl j y v' e1 e2 e3
    refine ⟨u',r',?_⟩
    rcases q with q | ⟨k,c',e,z'⟩
    ·exact .inl q
    ·refine .inr ⟨k,c',e,z'.sameBut hs ?_⟩
     rintro rfl
     exact hj (zc5 hN e1 (I.ok.inj _ _ _ e hc ▸ hi))
  ·by_cases hcc : c' = c
   ·subst hcc; exact ⟨_,hc'⟩
   ·obtain ⟨w2,z2⟩ := I.cell y c' e
    exact ⟨w2,z2.sameBut hs hcc⟩
  ·obtain ⟨e,n,ne,nf,d⟩ := I.pin p hp
   refine ⟨(hs.2 p.1 ?_).trans e,n,ne,nf,d⟩
   intro q
   rw [q,hoc] at e
   have q' : oc = p.2 := Option.some.inj e
   exact d w' (by rw [← q']; exact hocd)
theorem zcL {M : Model} {A : Around} {E : Value → Shared → Prop} {i : Nat} {x : Str} {v : V} {u : Value} {Q : Unit → Shared → Prop} (I : Inv X pins σ H s) (hN : X.N.Nodup) (hi : X.N[i]? = some x) (hx : Loc X.env.scope x) (r : RelV v u)
 (h : ∀ s',Inv X pins (σ.set i (some v)) H s' → Q () s') (hf : X.fn x = true ∨ X.env.scope.names.lookup x = some .local := by first | exact .inl rfl | exact .inr rfl | assumption) : wpAny M A (storeName X.env x u) Q E s :=
 zbi I hN hi hx r (fun s' I' _ => h s' I') hf
theorem Inv.call' {s' : Shared} {ch : List Addr} (I : Inv X pins σ H s) (ho : s'.os = s.os) (u : Un (frs X.stack) ch H H' s.heap s'.heap) (hok : HOk X.prog X.w H' s'.heap) (hg : AllBare s'.gens)
 (hch : ∀ b ∈ ch,(b ∈ X.ex ∨ X.s₀.heap.objs.size ≤ b) ∧ b ≠ X.env.locals ∧ (∀ x c,X.env.cells.lookup x = some c → c ≠ b) ∧ ∀ p ∈ X.pn ++ pins,p.1 ≠ b) : Inv X pins σ H' s' := by
 obtain ⟨h',g',d',t',o'⟩ := s'
 have e : o' = s.os := ho
 subst e
 exact I.call (g' := g') (t' := t') (d' := d') u hok hg hch
end
noncomputable abbrev XK := Value → Option Addr → Hp → Prop
noncomputable abbrev St := List (Option V)
noncomputable abbrev VK := V → Hp → Prop
noncomputable abbrev TE := St → Hp → VK → Prop
noncomputable abbrev TT := St → Hp → (Bool → Hp → Prop) → Prop
noncomputable abbrev TA := St → Hp → (List V → Hp → Prop) → Prop
structure Ends where
 nx : St → Hp → Prop
 rt : VK
 bk : St → Hp → Prop := fun _ _ => False
 ct : St → Hp → Prop := fun _ _ => False
noncomputable abbrev TS := Ends → St → Hp → Prop
noncomputable def EP (X : Cx) (pins : List (Addr × Obj)) (σ : St) (Q : VK) (u : Value) (s' : Shared) : Prop := ∃ v H',Inv X pins σ H' s' ∧ RelV v u ∧ Q v H'
noncomputable def TP (X : Cx) (pins : List (Addr × Obj)) (σ : St) (Q : Bool → Hp → Prop) (b : Bool) (s' : Shared) : Prop := ∃ H',Inv X pins σ H' s' ∧ Q b H'
noncomputable def AP (X : Cx) (pins : List (Addr × Obj)) (σ : St) (Q : List V → Hp → Prop) (us : List Value) (s' : Shared) : Prop := ∃ vs H',Inv X pins σ H' s' ∧ Vals vs us ∧ Q vs H'
noncomputable def SP (X : Cx) (pins : List (Addr × Obj)) (D : Ends) (f : Flow) (s' : Shared) : Prop :=
 match f with
 | .next => ∃ σ' H',Inv X pins σ' H' s' ∧ D.nx σ' H'
 | .brk => ∃ σ' H',Inv X pins σ' H' s' ∧ D.bk σ' H'
 | .cont => ∃ σ' H',Inv X pins σ' H' s' ∧ D.ct σ' H'
 | .ret u => ∃ v σ' H',Inv X pins σ' H' s' ∧ RelV v u ∧ D.rt v H'
noncomputable def PE (X : Cx) (e : Expr) (t : TE) : Prop :=
 ∀ (pins : List (Addr × Obj)) (s : Shared) (σ : St) (H : Hp) (Q : VK),Inv X pins σ H s → t σ H Q → wpAny (model X.prog X.w) X.A (eval e X.env) (EP X pins σ Q) X.xe s
noncomputable def PT (X : Cx) (e : Expr) (t : TT) : Prop :=
 ∀ (pins : List (Addr × Obj)) (s : Shared) (σ : St) (H : Hp) (Q : Bool → Hp → Prop),Inv X pins σ H s → t σ H Q → wpAny (model X.prog X.w) X.A (isTrue e X.env (eval e X.env)) (TP X pins σ Q) X.xe s
noncomputable def PW (X : Cx) (e : Expr) (t : TT) : Prop :=
 ∀ (whole : Sem Value) (pins : List (Addr × Obj)) (s : Shared) (σ : St) (H : Hp) (Q : Bool → Hp → Prop),Inv X pins σ H s → t σ H Q → wpAny (model X.prog X.w) X.A (isTrue e X.env whole) (TP X pins σ Q) X.xe s
theorem PW.pt {X : Cx} {e : Expr} {t : TT} (h : PW X e t) : PT X e t := h _
noncomputable def PA (X : Cx) (es : List Expr) (t : TA) : Prop :=
 ∀ (pos : Pos) (pins : List (Addr × Obj)) (s : Shared) (σ : St) (H : Hp) (Q : List V → Hp → Prop),Inv X pins σ H s → t σ H Q → wpAny (model X.prog X.w) X.A (spliced (backTo pos (starEach es X.env))) (AP X pins σ Q) X.xe s
noncomputable def PS (X : Cx) (st : Stmt) (t : TS) : Prop :=
 ∀ (pins : List (Addr × Obj)) (s : Shared) (σ : St) (H : Hp) (D : Ends),Inv X pins σ H s → t D σ H → wpAny (model X.prog X.w) X.A (exec st X.env) (SP X pins D) X.xe s
noncomputable def PSs (X : Cx) (st : List Stmt) (t : TS) : Prop :=
 ∀ (pins : List (Addr × Obj)) (s : Shared) (σ : St) (H : Hp) (D : Ends),Inv X pins σ H s → t D σ H → wpAny (model X.prog X.w) X.A (execs st X.env) (SP X pins D) X.xe s
theorem thn {α : Type} {t : Sem α} {Q Q' : α → Shared → Prop} {M : Model} {A : Around} {E : Value → Shared → Prop} {s : Shared} (h : wpAny M A t Q E s) (hQ : ∀ a s,Q a s → Q' a s) : wpAny M A t Q' E s := wpAny_mono h hQ fun _ _ x => x
end L2
namespace L2
open PySem PySem.Spec PyProof.Rows
section
variable {X : Cx}
theorem bin {a b : Expr} {ta tb : TE} (ha : PE X a ta) (hb : PE X b tb) {pins : List (Addr × Obj)} {s : Shared} {σ : St} {H : Hp} {R : V → V → Hp → Prop} (I : Inv X pins σ H s) (h : ta σ H fun x H1 => tb σ H1 fun y H2 => R x y H2)
 {α : Type} {Q : α → Shared → Prop} {f : Value → Value → Sem α}
 (hf : ∀ v u s2 x y H2,Inv X pins σ H2 s2 → RelV x v → RelV y u → R x y H2 → wpAny (model X.prog X.w) X.A (f v u) Q X.xe s2) :
 wpAny (model X.prog X.w) X.A (eval a X.env) (fun v s₁ => wpAny (model X.prog X.w) X.A (eval b X.env) (fun u s₂ => wpAny (model X.prog X.w) X.A (f v u) Q X.xe s₂) X.xe s₁) X.xe s := by
 refine thn (ha pins s σ H _ I h) fun v s1 ⟨x,H1,I1,r1,q1⟩ => ?_
 refine thn (hb pins s1 σ H1 _ I1 q1) fun u s2 ⟨y,H2,I2,r2,q2⟩ => ?_
 exact hf v u s2 x y H2 I2 r1 r2 q2
noncomputable def tVar (i : Nat) : TE := fun σ H Q => ∃ v,σ[i]? = some (some v) ∧ Q v H
noncomputable def tC (v : V) : TE := fun _ H Q => Q v H
theorem ziN {i : Nat} {x : Str} {pos : Pos} (hN : X.N[i]? = some x) (hv : Vis X.env.scope x) (hd : (x == ("__debug__" : Str)) = false := by decide) (hcd : (x == ("__classdict__" : Str)) = false := by decide) : PE X (.Name x pos) (tVar i) := by
 intro pins s σ H Q I h
 obtain ⟨v,e,h⟩ := h
 obtain ⟨m,hn,hl⟩ := I.loc
 obtain ⟨u,r,l⟩ := hl i x v hN e hv
 have fin : EP X pins σ Q u s := ⟨v,H,I,r,h⟩
 rcases l with ⟨hk,hm⟩ | ⟨hk,c,hc,hcell⟩
 ·exact wpAny_Name (wpAny_loadName_local I.ok.kind hk hn hm fin) hd
 ·rcases hk with hk | hk
  ·exact wpAny_Name (wpAny_loadName_cell I.ok.kind hk hc hcell fin) hd
  ·exact wpAny_Name (wpAny_loadName_free I.ok.kind hk hc hcell fin hcd) hd
theorem ziS {i j pos} : PE X (.Constant (.int i) j pos) (tC (.int i)) := fun _ _ _ H _ I h => wpAny_Constant_int ⟨.int i,H,I.tok _,⟨_,rfl⟩,h⟩
theorem pe_bl {b j pos} : PE X (.Constant (.bool b) j pos) (tC (.bl b)) := fun _ _ _ H _ I h => Constant_bool ⟨.bl b,H,I,rfl,h⟩
theorem ziQ {j pos} : PE X (.Constant .none j pos) (tC .non) := fun _ _ _ H _ I h => Constant_none ⟨.non,H,I,rfl,h⟩
noncomputable def Gl (X : Cx) (x : Str) : Prop := X.env.kindOf x = some .globalImplicit
theorem zhS {E : Value → Shared → Prop} {pins : List (Addr × Obj)} {s : Shared} {σ : St} {H : Hp} {x : Str} {u : Value} {pos : Pos} {Q : Value → Shared → Prop} (I : Inv X pins σ H s) (hg : Gl X x) (hm : X.mg x = some u) (h : Q u s)
 (hd : (x == ("__debug__" : Str)) = false := by decide) : wpAny (model X.prog X.w) X.A (eval (.Name x pos) X.env) Q E s :=
 Calls.Name_function_global I.ok.kind hg (Calls.loadGlobal_global (by rw [I.ok.glob]; exact I.mod.glob.keeps I.bk) hm h) hd
theorem uU {E : Value → Shared → Prop} {pins : List (Addr × Obj)} {s : Shared} {σ : St} {H : Hp} {x : Str} {u : Value} {pos : Pos} {Q : Value → Shared → Prop} (I : Inv X pins σ H s) (hg : Gl X x) (hm : X.mg x = none) (hv : bootBuiltins x = some u) (h : Q u s)
 (hn : x ≠ "__name__" := by decide) (hd : (x == ("__debug__" : Str)) = false := by decide) : wpAny (model X.prog X.w) X.A (eval (.Name x pos) X.env) Q E s := by
 obtain ⟨mb,h1,h2⟩ := I.mod.blt
 exact Calls.Name_function_global I.ok.kind hg (Calls.loadGlobal_builtin (by rw [I.ok.glob]; exact I.mod.glob.keeps I.bk) hm (by rw [I.ok.blt]; exact h1.keeps I.bk) ((h2 x hn).trans hv) h) hd
variable {a b : Expr} {ta tb : TE} {pos : Pos}
variable {tA tB' : TT} {rest : List Expr}
noncomputable def tAnd (t u : TT) : TT := fun σ H Q => t σ H fun c H1 => if c = true then u σ H1 Q else Q false H1
noncomputable def tOr (t u : TT) : TT := fun σ H Q => t σ H fun c H1 => if c = true then Q true H1 else u σ H1 Q
noncomputable def tNot (t : TT) : TT := fun σ H Q => t σ H fun c H1 => Q (!c) H1
theorem zhu (ha : PT X a tA) : PW X (.BoolOp .And [a] pos) tA := by
 intro wh pins s σ H Q I h
 refine isTrue_and (thn (ha pins s σ H Q I h) fun c s1 e => ?_)
 cases c with
 | true => exact isTrue_and_nil e
 | false => exact e
theorem ziB (ha : PT X a tA) : PW X (.BoolOp .Or [a] pos) tA := by
 intro wh pins s σ H Q I h
 refine isTrue_or (thn (ha pins s σ H Q I h) fun c s1 e => ?_)
 cases c with
 | false => exact isTrue_or_nil e
 | true => exact e
theorem ziC (ha : PT X a tA) (hb : PW X (.BoolOp .And (b :: rest) pos) tB') : PW X (.BoolOp .And (a :: b :: rest) pos) (tAnd tA tB') := by
 intro wh pins s σ H Q I h
 refine isTrue_and (thn (ha pins s σ H _ I h) fun c s1 ⟨H1,I1,q1⟩ => ?_)
 cases c with
 | true => exact hb wh pins s1 σ H1 Q I1 q1
 | false => exact ⟨H1,I1,q1⟩
theorem pw_or (ha : PT X a tA) (hb : PW X (.BoolOp .Or (b :: rest) pos) tB') : PW X (.BoolOp .Or (a :: b :: rest) pos) (tOr tA tB') := by
 intro wh pins s σ H Q I h
 refine isTrue_or (thn (ha pins s σ H _ I h) fun c s1 ⟨H1,I1,q1⟩ => ?_)
 cases c with
 | true => exact ⟨H1,I1,q1⟩
 | false => exact hb wh pins s1 σ H1 Q I1 q1
theorem ziG (ha : PT X a tA) : PT X (.UnaryOp .Not a pos) (tNot tA) := by
 intro pins s σ H Q I h
 exact isTrue_not (ha pins s σ H (fun c H1 => Q (!c) H1) I h)
noncomputable def tAndV (ta tb : TE) : TE := fun σ H Q => ta σ H fun x H1 => ∃ c,x = .bl c ∧ if c = true then tb σ H1 Q else Q (.bl false) H1
theorem ziP {op} {t : TE} (h : PE X a t) : PE X (.BoolOp op [a] pos) t := fun pins s σ H Q I hw => BoolOp_one (h pins s σ H Q I hw)
theorem ziT (ha : PE X a ta) (hb : PE X (.BoolOp .And (b :: rest) pos) tb) : PE X (.BoolOp .And (a :: b :: rest) pos) (tAndV ta tb) := by
 intro pins s σ H Q I h
 refine BoolOp_and (thn (ha pins s σ H _ I h) fun v s1 ⟨x,H1,I1,r1,q1⟩ => ?_)
 obtain ⟨c,rfl,q1⟩ := q1
 cases r1
 refine wpAny_truthy_bool ?_
 cases c with
 | true => exact hb pins s1 σ H1 Q I1 q1
 | false => exact ⟨.bl false,H1,I1,rfl,q1⟩
noncomputable def tIf (t : TT) (ta tb : TE) : TE := fun σ H Q => t σ H fun c H1 => if c = true then ta σ H1 Q else tb σ H1 Q
theorem zgb {c : Expr} (hc : PT X c tA) (ha : PE X a ta) (hb : PE X b tb) : PE X (.IfExp c a b pos) (tIf tA ta tb) := by
 intro pins s σ H Q I h
 refine wpAny_IfExp (thn (hc pins s σ H _ I h) fun d s1 ⟨H1,I1,q1⟩ => ?_)
 cases d with
 | true => exact ha pins s1 σ H1 Q I1 q1
 | false => exact hb pins s1 σ H1 Q I1 q1
end
end L2
namespace L2
open PySem PySem.Spec PyProof.Rows
noncomputable def SqL (K : PySem.W.Frag) (H : Hp) (a : Addr) (xs : List V) : Prop :=
 Rd H a (.lst xs) ∨
  ∃ (o : Obj) (its : Array Value) (n : Nat),K.lookup a = some o ∧ o.cls = .type "list" ∧ o.dict = none ∧ o.data = .seq its n ∧ its.size ≤ sizeLine ∧ Vals xs its.toList
noncomputable def SqT (K : PySem.W.Frag) (H : Hp) (a : Addr) (xs : List V) : Prop :=
 Rd H a (.tup xs) ∨
  ∃ (o : Obj) (its : Array Value) (n : Nat),K.lookup a = some o ∧ o.cls = .type "tuple" ∧ o.data = .seq its n ∧ its.size ≤ sizeLine ∧ Vals xs its.toList
noncomputable def absV : Value → Option V
 | .none => some .non
 | .bool b => some (.bl b)
 | .int i _ => some (.int i)
 | .str x _ => some (.str x)
 | .bytes b _ => some (.byt b)
 | .float b _ => some (.flt b)
 | .ref a => some (.ref a)
 | .type n => some (.ty n)
 | _ => none
theorem RelV.abs {x : V} {u : Value} (r : RelV x u) : absV u = some x := by
 cases x with
 | non => cases r; rfl
 | bl _ => cases r; rfl
 | int _ => obtain ⟨t,rfl⟩ := r; rfl
 | str _ => obtain ⟨t,rfl⟩ := r; rfl
 | byt _ => obtain ⟨t,rfl⟩ := r; rfl
 | flt _ => obtain ⟨t,rfl⟩ := r; rfl
 | ref _ => cases r; rfl
 | ty _ => cases r; rfl
theorem RelV.inj {x y : V} {u : Value} (r : RelV x u) (q : RelV y u) : x = y := Option.some.inj (r.abs.symm.trans q.abs)
theorem Vals.inj : ∀ {xs ys : List V} {us : List Value},Vals xs us → Vals ys us → xs = ys
 | _,_,_,.nil,.nil => rfl
 | _,_,_,.cons r t,.cons r' t' => by rw [r.inj r',Vals.inj t t']
section
variable {X : Cx} {pins : List (Addr × Obj)} {σ : St} {H : Hp} {s : Shared} {a : Addr} {xs ys : List V}
theorem SqL.of {K : PySem.W.Frag} (h : H a = some (.lst xs)) : SqL K H a xs := .inl (.inl h)
theorem SqT.of {K : PySem.W.Frag} (h : H a = some (.tup xs)) : SqT K H a xs := .inl (.inl h)
theorem Inv.list (I : Inv X pins σ H s) (h : SqL X.K H a xs) : ∃ its : List Value,Vals xs its ∧ PlainL s.heap a its.toArray ∧ xs.length ≤ sizeLine := by
 rcases h with h | ⟨o,its,n,hk,hc,hd,hs,hz,r⟩
 ·obtain ⟨z,its,n,r,e⟩ := h.ok I.hok
  exact ⟨its,r,⟨_,n,e,rfl,rfl,rfl⟩,z⟩
 ·refine ⟨its.toList,r,⟨o,n,I.kIn a o hk,hc,hd,by simpa using hs⟩,?_⟩
  have e := r.length
  simp only [Array.length_toList] at e
  lia
theorem Inv.tuple (I : Inv X pins σ H s) (h : SqT X.K H a xs) : ∃ its : List Value,Vals xs its ∧ IsTup s.heap a its.toArray ∧ xs.length ≤ sizeLine := by
 rcases h with h | ⟨o,its,n,hk,hc,hs,hz,r⟩
 ·obtain ⟨z,its,r,p⟩ := h.ok I.hok
  exact ⟨its,r,p,z⟩
 ·refine ⟨its.toList,r,⟨o,I.kIn a o hk,hc,n,by simpa using hs⟩,?_⟩
  have e := r.length
  simp only [Array.length_toList] at e
  lia
theorem Inv.list_inj (I : Inv X pins σ H s) (h : SqL X.K H a xs) (h' : SqL X.K H a ys) : xs = ys := by
 obtain ⟨its,r,⟨o,n,e,_,_,d⟩,_⟩ := I.list h
 obtain ⟨its',r',⟨o',n',e',_,_,d'⟩,_⟩ := I.list h'
 rw [e] at e'; cases e'
 rw [d] at d'
 injection d' with d1 _
 have : its = its' := by simpa using congrArg Array.toList d1
 subst this
 exact r.inj r'
end
noncomputable abbrev Cx.wish (X : Cx) (E : Value → Shared → Prop) : Cx := { X with xe := E }
noncomputable abbrev Cx.nox (X : Cx) : Cx := X.wish fun _ _ => False
theorem Cx.Ok.wish {X : Cx} (ok : X.Ok) (E : Value → Shared → Prop) : (X.wish E).Ok :=
 ⟨ok.mod,ok.kind,ok.glob,ok.blt,ok.above,ok.inj,ok.has,ok.cab,ok.hd,ok.frames,ok.stk,ok.exf,ok.bs,ok.bsz,ok.noex,ok.exfs,ok.funs,ok.frf⟩
theorem Cx.Ok.unwish {X : Cx} {E : Value → Shared → Prop} (ok : (X.wish E).Ok) : X.Ok :=
 ⟨ok.mod,ok.kind,ok.glob,ok.blt,ok.above,ok.inj,ok.has,ok.cab,ok.hd,ok.frames,ok.stk,ok.exf,ok.bs,ok.bsz,ok.noex,ok.exfs,ok.funs,ok.frf⟩
section
variable {X : Cx} {pins : List (Addr × Obj)} {σ : St} {H : Hp} {s : Shared} {E : Value → Shared → Prop}
theorem Inv.wish (I : Inv X pins σ H s) (E : Value → Shared → Prop) : Inv (X.wish E) pins σ H s := ⟨I.ok.wish E,I.os,I.bare,I.base,I.loc,I.cell,I.free,I.freeC,I.pin,I.hok,I.len⟩
theorem Inv.unwish (I : Inv (X.wish E) pins σ H s) : Inv X pins σ H s := ⟨I.ok.unwish,I.os,I.bare,I.base,I.loc,I.cell,I.free,I.freeC,I.pin,I.hok,I.len⟩
theorem SP.unwish {D : Ends} {f : Flow} {s' : Shared} (h : SP (X.wish E) pins D f s') : SP X pins D f s' := by
 cases f with
 | next => obtain ⟨σ',H',I,q⟩ := h; exact ⟨σ',H',I.unwish,q⟩
 | brk => obtain ⟨σ',H',I,q⟩ := h; exact ⟨σ',H',I.unwish,q⟩
 | cont => obtain ⟨σ',H',I,q⟩ := h; exact ⟨σ',H',I.unwish,q⟩
 | ret u => obtain ⟨v,σ',H',I,r,q⟩ := h; exact ⟨v,σ',H',I.unwish,r,q⟩
theorem PSs.nox {st : List Stmt} {t : TS} (h : PSs X.nox st t) : PSs X st t := fun pins s σ H D I hw =>
 wpAny_mono (h pins s σ H D (I.wish _) hw) (fun _ _ q => q.unwish) fun _ _ z => False.elim z
end
section
variable {X : Cx} {st : Stmt} {rest : List Stmt} {t u : TS} {e : Expr} {te : TE} {pos : Pos}
noncomputable def tNext : TS := fun D σ H => D.nx σ H
noncomputable def tSeq (t u : TS) : TS := fun D σ H => t { D with nx := u D } σ H
theorem zhy : PSs X [] tNext := fun _ _ σ H _ I h => wpAny_execs_nil ⟨σ,H,I,h⟩
theorem zf7 (h1 : PS X st t) (h2 : PSs X rest u) : PSs X (st :: rest) (tSeq t u) := by
 intro pins s σ H D I h
 refine wpAny_execs_cons (thn (h1 pins s σ H { D with nx := u D } I h) fun f s1 q => ?_)
 cases f with
 | next =>
   obtain ⟨σ',H',I',q⟩ := q
   exact h2 pins s1 σ' H' D I' q
 | ret v => exact q
 | brk => exact q
 | cont => exact q
theorem zhx (h1 : PS X st t) : PSs X [st] t := by
 intro pins s σ H D I h
 refine wpAny_execs_cons (thn (h1 pins s σ H D I h) fun f s1 q => ?_)
 cases f with
 | next => exact wpAny_execs_nil q
 | ret v => exact q
 | brk => exact q
 | cont => exact q
theorem Inv.quiet {pins : List (Addr × Obj)} {σ : St} {H : Hp} {s : Shared} (I : Inv X pins σ H s) : interactive X.env = false := by simp [interactive,I.ok.kind]
noncomputable def ziq (te : TE) : TS := fun D σ H => te σ H fun _ H1 => D.nx σ H1
theorem zaH (he : PE X e te) (hs : swapsWith e none pos.line X.env = pure false := by rfl) : PS X (.Expr e pos) (ziq te) := by
 intro pins s σ H D I h
 exact wpAny_Expr_any (thn (he pins s σ H _ I h) fun v s1 ⟨x,H1,I1,r1,q1⟩ => ⟨σ,H1,I1,q1⟩) I.quiet hs
noncomputable def tRet (te : TE) : TS := fun D σ H => te σ H D.rt
theorem ziI (he : PE X e te) : PS X (.Return (some e) pos) (tRet te) := by
 intro pins s σ H D I h
 exact wpAny_Return_some (thn (he pins s σ H _ I h) fun v s1 ⟨x,H1,I1,r1,q1⟩ => ⟨x,σ,H1,I1,r1,q1⟩)
noncomputable def tIfS (c : TT) (t u : TS) : TS := fun D σ H => c σ H fun b H1 => if b = true then t D σ H1 else u D σ H1
theorem ps_if {c : Expr} {a b : List Stmt} {tc : TT} (hc : PT X c tc) (ha : PSs X a t) (hb : PSs X b u) : PS X (.If c a b pos) (tIfS tc t u) := by
 intro pins s σ H D I h
 refine wpAny_If (thn (hc pins s σ H _ I h) fun d s1 ⟨H1,I1,q1⟩ => ?_)
 cases d with
 | true => exact ha pins s1 σ H1 D I1 q1
 | false => exact hb pins s1 σ H1 D I1 q1
end
noncomputable abbrev TG := V → St → Hp → (St → Hp → Prop) → Prop
noncomputable abbrev TGs := List V → St → Hp → (St → Hp → Prop) → Prop
noncomputable def PG (X : Cx) (target : Expr) (t : TG) : Prop :=
 ∀ (pins : List (Addr × Obj)) (s : Shared) (σ : St) (H : Hp) (v : V) (u : Value) (Q : St → Hp → Prop),Inv X pins σ H s → RelV v u → t v σ H Q →
   wpAny (model X.prog X.w) X.A (assign target X.env u) (fun _ s' => ∃ σ' H',Inv X pins σ' H' s' ∧ Q σ' H') X.xe s
noncomputable def PGs (X : Cx) (ts : List Expr) (t : TGs) : Prop :=
 ∀ (pins : List (Addr × Obj)) (s : Shared) (σ : St) (H : Hp) (vs : List V) (us : List Value) (Q : St → Hp → Prop),Inv X pins σ H s → Vals vs us → t vs σ H Q →
   wpAny (model X.prog X.w) X.A (assignInOrder ((assignEach ts X.env).map (·.2)) us) (fun _ s' => ∃ σ' H',Inv X pins σ' H' s' ∧ Q σ' H') X.xe s
noncomputable abbrev TSet := V → V → V → Hp → (Hp → Prop) → Prop
noncomputable def PSet (X : Cx) (t : TSet) : Prop :=
 ∀ (pins : List (Addr × Obj)) (s : Shared) (σ : St) (H : Hp) (o i v : V) (ov iv u : Value) (Q : Hp → Prop),Inv X pins σ H s → RelV o ov → RelV i iv → RelV v u → t o i v H Q →
   wpAny (model X.prog X.w) X.A (setItem ov iv u) (fun _ s' => ∃ H',Inv X pins σ H' s' ∧ Q H') X.xe s
section
variable {X : Cx} {pos : Pos}
noncomputable def zjp (i : Nat) : TG := fun v σ H Q => Q (σ.set i (some v)) H
theorem zeB {i : Nat} {x : Str} (hN : X.N.Nodup) (hi : X.N[i]? = some x) (hx : Loc X.env.scope x) (hf : X.fn x = true ∨ X.env.scope.names.lookup x = some .local := by first | exact .inl rfl | exact .inr rfl | assumption) : PG X (.Name x pos) (zjp i) := by
 intro pins s σ H v u Q I r h
 exact wpAny_assign_Name (zcL I hN hi hx r (fun s' I' => ⟨_,H,I',h⟩) hf)
noncomputable def gNil : TGs := fun vs σ H Q => vs = [] ∧ Q σ H
noncomputable def gCons (t : TG) (u : TGs) : TGs := fun vs σ H Q => ∃ v r,vs = v :: r ∧ t v σ H fun σ' H' => u r σ' H' Q
theorem zhD : PGs X [] gNil := by
 intro pins s σ H vs us Q I r h
 obtain ⟨e,h⟩ := h
 subst e
 cases r
 exact assignInOrder_nil ⟨σ,H,I,h⟩
theorem zga {e : Expr} {es : List Expr} {t : TG} {u : TGs} (h1 : PG X e t) (h2 : PGs X es u)
 (hs : (assignEach (e :: es) X.env).map (·.2) = assign e X.env :: (assignEach es X.env).map (·.2) := by rfl) : PGs X (e :: es) (gCons t u) := by
 intro pins s σ H vs us Q I r h
 obtain ⟨v,vr,e1,h⟩ := h
 subst e1
 cases r with
 | cons r rr =>
   rw [hs]
   refine assignInOrder_cons (thn (h1 pins s σ H _ _ _ I r h) fun _ s1 ⟨σ1,H1,I1,q1⟩ => ?_)
   exact h2 pins s1 σ1 H1 _ _ Q I1 rr q1
noncomputable def gTup (K : PySem.W.Frag) (n : Nat) (t : TGs) : TG := fun v σ H Q => ∃ a xs,v = .ref a ∧ SqT K H a xs ∧ xs.length = n ∧ t xs σ H Q
theorem ziL {es : List Expr} {k : Nat} {t : TGs} {n : Nat} (hc : X.calm = true) (h : PGs X es t)
 (hn : (assignEach es X.env).length = n := by rfl) (hst : (assignEach es X.env).findIdx? (·.1) = none := by rfl) : PG X (.Tuple es k pos) (gTup X.K n t) := by
 intro pins s σ H v u Q I r hw
 obtain ⟨a,xs,e1,hq,hl,hw⟩ := hw
 subst e1
 cases r
 obtain ⟨its,rv,ht,hz⟩ := I.tuple hq
 refine assign_Tuple_tuple (I.ok.hd hc) ht (by simp [hn,← hl,rv.length]) hst fun h' hx => ?_
 have I1 : Inv X pins σ H { s with heap := h' } := I.kept (t' := s.toks) fun b o e => hx b o (Nat.ne_of_lt (Heap.lt_size e)) e
 exact h pins _ σ H xs _ Q I1 (by simpa using rv) hw
noncomputable def gSub (to ti : TE) (t : TSet) : TG := fun v σ H Q => to σ H fun o H1 => ti σ H1 fun i H2 => t o i v H2 fun H3 => Q σ H3
theorem ziM {o i : Expr} {to ti : TE} {t : TSet} (ho : PE X o to) (hi : PE X i ti) (hs : PSet X t)
 (ha : ∀ v,assign (.Subscript o i pos) X.env v = (do
  let ov ← holding [v] (eval o X.env)
  let iv ← holding [v,ov] (eval i X.env)
  standAt pos
  holding [v,ov,iv] (setItem ov iv v)
  release [v,ov,iv] []) := by intro _; rfl) : PG X (.Subscript o i pos) (gSub to ti t) := by
 intro pins s σ H v u Q I r h
 rw [ha]
 refine wpAny_bind (wpAny_holding (thn (ho pins s σ H _ I h) fun ov s1 ⟨x,H1,I1,r1,q1⟩ => ?_))
 refine wpAny_bind (wpAny_holding (thn (hi pins s1 σ H1 _ I1 q1) fun iv s2 ⟨y,H2,I2,r2,q2⟩ => ?_))
 refine wpAny_bind (wpAny_standAt (wpAny_bind (wpAny_holding (thn (hs pins s2 σ H2 x y v ov iv u _ I2 r1 r2 r q2) fun _ s3 ⟨H3,I3,q3⟩ => ?_))))
 exact wpAny_release ⟨σ,H3,I3,q3⟩
noncomputable def tAsg (te : TE) (g : TG) : TS := fun D σ H => te σ H fun x H1 => g x σ H1 D.nx
theorem zgU {tg e : Expr} {te : TE} {g : TG} (he : PE X e te) (hg : PG X tg g) (hs : swapsWithSole [tg] e pos.line X.env = pure false := by rfl) (hw : swappedStores [tg] e X.env = pure none := by rfl)
 (h1 : (assignEach [tg] X.env).map (·.2) = [assign tg X.env] := by rfl) : PS X (.Assign [tg] e pos) (tAsg te g) := by
 intro pins s σ H D I h
 refine wpAny_Assign_stores (thn (he pins s σ H _ I h) fun v s1 ⟨x,H1,I1,r1,q1⟩ => ?_) hs hw
 rw [h1]
 exact thn (hg pins s1 σ H1 x v _ I1 r1 q1) fun _ s2 q => q
theorem ziH {i : Nat} {x : Str} {e : Expr} {te : TE} {pos' : Pos} (hN : X.N.Nodup) (hi : X.N[i]? = some x) (hx : Loc X.env.scope x) (he : PE X e te) (hs : swapsWith e (some (.Name x pos')) pos.line X.env = pure false := by rfl) (hf : X.fn x = true ∨ X.env.scope.names.lookup x = some .local := by first | exact .inl rfl | exact .inr rfl | assumption) :
 PS X (.Assign [.Name x pos'] e pos) (tAsg te (zjp i)) := by
 intro pins s σ H D I h
 refine wpAny_Assign_Name (thn (he pins s σ H _ I h) fun v s1 ⟨y,H1,I1,r1,q1⟩ => ?_) hs
 exact zcL I1 hN hi hx r1 (fun s2 I2 => ⟨_,H1,I2,q1⟩) hf
end
section
variable {X : Cx} {pos : Pos}
noncomputable def zin (c : TT) (tb : TS) : TS := fun D σ H => ∃ W : Nat → St → Hp → Prop,(∃ m,W m σ H) ∧ ∀ m σ H,W m σ H →
 c σ H fun b H1 => if b = true then ∃ N : St → Hp → Prop,(∀ σ' H',N σ' H' → ∃ m',m' < m ∧ W m' σ' H') ∧ tb { D with nx := N,ct := N,bk := D.nx } σ H1 else D.nx σ H1
theorem zf8 {c : Expr} {body : List Stmt} {tc : TT} {tb : TS} (hp : PassesOwn (model X.prog X.w) X.A X.env X.xe) (hc : PT X c tc) (hb : PSs X body tb) : PS X (.While c body [] pos) (zin tc tb) := by
 intro pins s σ H D I h
 obtain ⟨W,⟨m0,w0⟩,turn⟩ := h
 refine wpAny_While (codeAny_whileLoop (fun n s' => ∃ σ' H',Inv X pins σ' H' s' ∧ W n σ' H') ?_ m0 ⟨σ,H,I,w0⟩)
 rintro n s1 ⟨σ1,H1,I1,w1⟩
 refine wpAny_passesOwn hp (thn (hc pins s1 σ1 H1 _ I1 (turn n σ1 H1 w1)) fun b s2 ⟨H2,I2,q2⟩ => ?_)
 cases b with
 | true =>
   obtain ⟨N,hN,q2⟩ := q2
   rw [if_pos rfl]
   refine wpAny_passesOwn hp (thn (hb pins s2 σ1 H2 _ I2 q2) fun f s3 q3 => ?_)
   cases f with
   | next =>
     obtain ⟨σ3,H3,I3,n3⟩ := q3
     obtain ⟨m',hm,w3⟩ := hN σ3 H3 n3
     exact ⟨m',hm,σ3,H3,I3,w3⟩
   | cont =>
     obtain ⟨σ3,H3,I3,n3⟩ := q3
     obtain ⟨m',hm,w3⟩ := hN σ3 H3 n3
     exact ⟨m',hm,σ3,H3,I3,w3⟩
   | brk => exact q3
   | ret v => exact q3
 | false =>
   rw [if_neg Bool.false_ne_true]
   exact wpAny_execs_nil ⟨σ1,H2,I2,q2⟩
end
structure It where
 go : Nat → Hp → Prop
 yld : Nat → Hp → V → Hp → Prop
 stop : Nat → Hp → Prop
noncomputable def FpOk (X : Cx) (pins : List (Addr × Obj)) (H : Hp) (b : Addr) : Prop :=
 H b = none ∧ b ≠ X.env.locals ∧ b ∉ X.fs ∧ (b ∈ X.ex ∨ X.s₀.heap.objs.size ≤ b) ∧ (∀ x c,X.env.cells.lookup x = some c → c ≠ b) ∧ ∀ p ∈ X.pn ++ pins,p.1 ≠ b
theorem Inv.fpOk {X : Cx} {pins : List (Addr × Obj)} {σ : St} {H H' : Hp} {s : Shared} {b : Addr} (I : Inv X pins σ H s) (hb : s.heap.objs.size ≤ b) (hn : H' b = none) : FpOk X pins H' b := by
 refine ⟨hn,Nat.ne_of_gt (Nat.lt_of_lt_of_le I.lt hb),I.nofs hb,.inr (Nat.le_trans I.sz hb),fun x c e z => ?_,fun p hp z => ?_⟩
 ·obtain ⟨v,q⟩ := I.cell x c e
  exact absurd (Nat.lt_of_lt_of_le q.lt (by rw [z]; exact hb)) (Nat.lt_irrefl _)
 ·exact absurd (Nat.lt_of_lt_of_le (Heap.lt_size (I.pin p hp).1) (by rw [z]; exact hb)) (Nat.lt_irrefl _)
structure Turn (P : Program) (w : World) (K : PySem.W.Frag) (tg : Expr) (J : It) (fp : List Addr) (it : Addr) (tn : Nat → Heap → Prop) : Prop where
 mem : it ∈ fp
 obj : ∀ i h,tn i h → ∀ b ∈ fp,∃ o,h.get? b = some o ∧ ∀ v,o.data ≠ .cell v
 keep : ∀ i h h',tn i h → (∀ b ∈ fp,∀ o,h.get? b = some o → h'.get? b = some o) → tn i h'
 item : ∀ (X : Cx),X.prog = P → X.w = w → X.K = K → X.calm = true → ∀ (i : Nat) (pins : List (Addr × Obj)) (s : Shared) (σ : St) (H : Hp) (E : Value → Shared → Prop),Inv X pins σ H s → (∀ b ∈ fp,FpOk X pins H b) → tn i s.heap → J.go i H →
  wpAny (model P w) X.A (pyNext (.ref it)) (fun r s1 => ∃ u,r = some u ∧
   wpAny (model P w) X.A (letOwnedTupleGo tg (.ref it) u) (fun _ s2 => ∃ x H',Inv X pins σ H' s2 ∧ RelV x u ∧ J.yld i H x H' ∧ tn (i + 1) s2.heap ∧ ∀ b ∈ fp,H' b = none) E s1) E s
 done : ∀ (X : Cx),X.prog = P → X.w = w → X.K = K → X.calm = true → ∀ (i : Nat) (pins : List (Addr × Obj)) (s : Shared) (σ : St) (H : Hp) (E : Value → Shared → Prop),Inv X pins σ H s → (∀ b ∈ fp,FpOk X pins H b) → tn i s.heap → J.stop i H →
  wpAny (model P w) X.A (pyNext (.ref it)) (fun r s1 => r = none ∧ Inv X pins σ H s1) E s
 self : ∀ (A : Around) (i : Nat) (s : Shared) (Q : Value → Shared → Prop) (E : Value → Shared → Prop),tn i s.heap → Q (.ref it) s → wpAny (model P w) A (pyIter (.ref it)) Q E s
noncomputable abbrev TI := St → Hp → (It → Hp → Prop) → Prop
noncomputable def PIE (X : Cx) (pins : List (Addr × Obj)) (σ : St) (tg : Expr) (R : It → Hp → Prop) (itv : Value) (s2 : Shared) : Prop :=
 ∃ (it : Addr) (fp : List Addr) (tn : Nat → Heap → Prop) (J : It) (H' : Hp),itv = .ref it ∧ Inv X pins σ H' s2 ∧ Turn X.prog X.w X.K tg J fp it tn ∧ tn 0 s2.heap ∧ (∀ b ∈ fp,FpOk X pins H' b) ∧ R J H'
noncomputable def PI (X : Cx) (tg iter : Expr) (wi : TI) : Prop :=
 ∀ (pins : List (Addr × Obj)) (s : Shared) (σ : St) (H : Hp) (R : It → Hp → Prop),Inv X pins σ H s → wi σ H R →
   wpAny (model X.prog X.w) X.A (eval iter X.env) (fun v s1 => wpAny (model X.prog X.w) X.A (pyIter v) (PIE X pins σ tg R) X.xe s1) X.xe s
theorem zhY {M : Model} {A : Around} {E : Value → Shared → Prop} {s : Shared} {tg : Expr} {it : Addr} {u : Value} {o : Obj} {n : String} {vs : Array Value} {Q : Unit → Shared → Prop} (ho : s.heap.get? it = some o) (hc : o.cls = .type n) (hd : o.data = .fields vs)
 (hn : ["enumerate","zip","dict_itemiterator","dict_reverseitemiterator","odict_iterator","itertools.zip_longest","itertools.pairwise"].contains n = false) (hQ : Q () s) : wpAny M A (letOwnedTupleGo tg (.ref it) u) Q E s := by
 unfold letOwnedTupleGo
 cases tg <;> first
  | exact wpAny_pure hQ
  | (cases u <;> first
   | exact wpAny_pure hQ
   | (refine wpAny_bind (wpAny_load ho ?_)
      rw [hc,hd]
      show wpAny M A (if (["enumerate","zip","dict_itemiterator","dict_reverseitemiterator","odict_iterator","itertools.zip_longest","itertools.pairwise"].contains n && vs[0]? == some (rawInt _)) = true then _ else _) Q E s
      rw [if_neg (by intro h; rw [hn,Bool.false_and] at h; cases h)]
      exact wpAny_pure hQ))
noncomputable def Itl (K : PySem.W.Frag) (a : Addr) : It :=
 ⟨fun i H => ∃ xs x,SqL K H a xs ∧ xs[i]? = some x,fun i H x H' => H' = H ∧ ∀ xs,SqL K H a xs → xs[i]? = some x,fun i H => ∃ xs,SqL K H a xs ∧ xs.length ≤ i⟩
noncomputable def Itr (lo : Int) (n : Nat) : It := ⟨fun i _ => i < n,fun i H x H' => H' = H ∧ x = .int (lo + i),fun i _ => n ≤ i⟩
theorem zd4 {P : Program} {w : World} {K : PySem.W.Frag} {tg : Expr} (a it : Addr) : Turn P w K tg (Itl K a) [it] it (fun i h => h.IsListIter it a i) where
 mem := by simp
 obj := fun i h st b hb => by
  have e : b = it := by simpa using hb
  subst e
  obtain ⟨o,e,c,d⟩ := st
  exact ⟨o,e,fun v z => by rw [d] at z; cases z⟩
 keep := fun i h h' st k => st.at fun o e => k it (by simp) o e
 item := by
  intro X hP hw hK hc i pins s σ H E I hf st hg
  subst hP hw hK
  obtain ⟨xs,x,hq,hx⟩ := hg
  obtain ⟨its,rv,p,hz⟩ := I.list hq
  obtain ⟨u,hu,ru⟩ := rv.get hx
  obtain ⟨f0,f1,f2,f3,f4,f5⟩ := hf it (by simp)
  refine wpAny_pyNext_list_item st p.isList (x := u) (by simpa using hu) fun h' st' sb => ?_
  have I1 : Inv X pins σ H { s with heap := h' } := I.turned (t' := s.toks) (fun b o hb e => (sb.2 b hb).trans e) f0 f1 f3 f4 f5
  obtain ⟨o,e,c,d⟩ := id st'
  exact ⟨u,rfl,zhY (s := { s with heap := h' }) e c d (by decide) ⟨x,H,I1,ru,⟨rfl,fun ys hy => by rw [I.list_inj hy hq]; exact hx⟩,st',fun b hb => (hf b hb).1⟩⟩
 done := by
  intro X hP hw hK hc i pins s σ H E I hf st hg
  subst hP hw hK
  obtain ⟨xs,hq,hx⟩ := hg
  obtain ⟨its,rv,p,hz⟩ := I.list hq
  obtain ⟨f0,f1,f2,f3,f4,f5⟩ := hf it (by simp)
  have hl := rv.length
  exact wpAny_pyNext_list_end (I.ok.hd hc) st p.isList (by simp; lia) fun h' eb => ⟨rfl,I.turned (t' := s.toks) (fun b o hb e => eb b o hb e) f0 f1 f3 f4 f5⟩
 self := fun _ _ _ _ _ st h => wpAny_pyIter_listiter st h
theorem zdw {P : Program} {w : World} {K : PySem.W.Frag} {tg : Expr} (it : Addr) (lo : Int) (n : Nat) : Turn P w K tg (Itr lo n) [it] it (fun i h => IsRangeIter h it (lo + (i : Nat) * 1) ((n : Int) - (i : Nat)) 1) where
 mem := by simp
 obj := fun i h st b hb => by
  have e : b = it := by simpa using hb
  subst e
  exact ⟨_,st,fun v z => by
   have z' : Data.fields _ = Data.cell v := z
   cases z'⟩
 keep := fun i h h' st k => k it (by simp) _ st
 item := by
  intro X hP hw hK hc i pins s σ H E I hf st hg
  subst hP hw hK
  obtain ⟨f0,f1,f2,f3,f4,f5⟩ := hf it (by simp)
  have W := Walks.range (prog := X.prog) (w := X.w) (I.ok.hd hc) it lo 1 n
  refine W.item i s _ _ hg st fun v h' tk hv st' kk => ?_
  obtain ⟨t,rfl⟩ := hv
  have I1 : Inv X pins σ H { s with heap := h',toks := tk } := I.turned (fun b o hb e => kk b o (by simpa using hb) e) f0 f1 f3 f4 f5
  refine ⟨_,rfl,zhY (s := { s with heap := h',toks := tk }) (n := "range_iterator") st' rfl rfl (by decide) ⟨.int (lo + i),H,I1,⟨t,?_⟩,⟨rfl,rfl⟩,st',fun b hb => (hf b hb).1⟩⟩
  rw [Int.mul_one]
 done := by
  intro X hP hw hK hc i pins s σ H E I hf st hg
  subst hP hw hK
  obtain ⟨f0,f1,f2,f3,f4,f5⟩ := hf it (by simp)
  exact wpAny_pyNext_range_end (I.ok.hd hc) st (by have : n ≤ i := hg; lia) fun h' eb => ⟨rfl,I.turned (t' := s.toks) (fun b o hb e => eb b o hb e) f0 f1 f3 f4 f5⟩
 self := fun _ _ _ _ _ st h => wpAny_pyIter_rangeiter st h
end L2
namespace L2
open PySem PySem.Spec PyProof.Rows
section
variable {X : Cx} {tg : Expr}
noncomputable def iList (K : PySem.W.Frag) (tl : TE) : TI := fun σ H R => tl σ H fun x H1 => ∃ a,x = .ref a ∧ (∃ xs,SqL K H1 a xs) ∧ R (Itl K a) H1
theorem zhC {l : Expr} {tl : TE} (hl : PE X l tl) : PI X tg l (iList X.K tl) := by
 intro pins s σ H R I h
 refine thn (hl pins s σ H _ I h) fun v s1 ⟨x,H1,I1,r1,q1⟩ => ?_
 obtain ⟨a,e,⟨xs,hq⟩,q⟩ := q1
 subst e
 cases r1
 obtain ⟨its,rv,p,hz⟩ := I1.list hq
 refine wpAny_pyIter_list p.isList ?_
 refine ⟨s1.heap.objs.size,[s1.heap.objs.size],_,_,H1,rfl,I1.kept (t' := s1.toks) fun b o e => Heap.get?_push_of_some _ e,zd4 a _,⟨_,Heap.get?_push_size _ rfl,rfl,rfl⟩,fun b hb => ?_,q⟩
 have e : b = s1.heap.objs.size := by simpa using hb
 subst e
 exact I1.fpOk (Nat.le_refl _) (I1.hok.fresh (Nat.le_refl _))
theorem zf3 {pins : List (Addr × Obj)} {σ : St} {H : Hp} {s : Shared} {R : It → Hp → Prop} {E : Value → Shared → Prop} {lo hi : Int} {t u v : Tok} {tk : Nat} (I : Inv X pins σ H s) (h1 : -(2 ^ 62) ≤ lo) (h2 : lo < 2 ^ 62) (h3 : -(2 ^ 62) ≤ hi) (h4 : hi < 2 ^ 62)
 (q : R (Itr lo (hi - lo).toNat) H) : wpAny (model X.prog X.w) X.A (pyIter (.ref s.heap.objs.size)) (PIE X pins σ tg R) E { s with heap := s.heap.push { cls := .type "range",data := .fields #[.int lo t,.int hi u,.int 1 v] },toks := tk } := by
 refine wpAny_pyIter_range (IsRange.new ..) (small_one h1 h2 h3 h4) ?_
 have I1 : Inv X pins σ H { s with heap := s.heap.push { cls := .type "range",data := .fields #[.int lo t,.int hi u,.int 1 v] },toks := tk } := I.kept fun b o e => Heap.get?_push_of_some _ e
 refine ⟨(s.heap.push { cls := .type "range",data := .fields #[.int lo t,.int hi u,.int 1 v] }).objs.size,[(s.heap.push { cls := .type "range",data := .fields #[.int lo t,.int hi u,.int 1 v] }).objs.size],_,_,H,rfl,
  I1.kept (t' := tk) fun b o e => Heap.get?_push_of_some _ e,zdw _ lo (hi - lo).toNat,?_,fun b hb => ?_,q⟩
 ·have e1 : lo + ((0 : Nat) : Int) * 1 = lo := by simp
  have e2 : (((hi - lo).toNat : Nat) : Int) - ((0 : Nat) : Int) = Builtin.Range.rangeSize lo hi 1 := by rw [rangeSize_one]; split <;> lia
  show IsRangeIter _ _ (lo + ((0 : Nat) : Int) * 1) ((((hi - lo).toNat : Nat) : Int) - ((0 : Nat) : Int)) 1
  rw [e1,e2]
  exact Heap.get?_push_size _ rfl
 ·have e : b = (s.heap.push { cls := .type "range",data := .fields #[.int lo t,.int hi u,.int 1 v] }).objs.size := by simpa using hb
  subst e
  exact I1.fpOk (Nat.le_refl _) (I1.hok.fresh (Nat.le_refl _))
noncomputable def iRng1 (ta : TA) : TI := fun σ H R => ta σ H fun vs H1 => ∃ j : Int,vs = [.int j] ∧ -(2 ^ 62) ≤ j ∧ j < 2 ^ 62 ∧ R (Itr 0 j.toNat) H1
theorem zeA {a : Expr} {ta : TA} {p pos : Pos} (hg : Gl X "range") (hm : X.mg "range" = none) (ha : PA X [a] ta) (hs : starEach [a] X.env = [(false,eval a X.env)] := by rfl) : PI X tg (.Call (.Name "range" p) [a] [] pos) (iRng1 ta) := by
 intro pins s σ H R I h
 refine Call_ (uU I hg hm boot_range (PyProof.Rows.callWith_type1 (thn (ha pos pins s σ H _ I h) fun us s1 ⟨vs,H1,I1,r1,q1⟩ => ?_) hs rfl))
 obtain ⟨j,e,q1,q2,q⟩ := q1
 subst e
 cases r1 with
 | cons r rr =>
   cases rr
   obtain ⟨t,rfl⟩ := r
   exact call_range_1 (zf3 I1 (by lia) (by lia) q1 q2 (by simpa using q))
noncomputable def tFor (wi : TI) (g : TG) (tb : TS) : TS := fun D σ H => wi σ H fun J H1 => ∃ W : Nat → Nat → St → Hp → Prop,(∃ m,W 0 m σ H1) ∧ ∀ i m σ H,W i m σ H →
 (J.stop i H ∧ D.nx σ H) ∨ (J.go i H ∧ ∃ N : St → Hp → Prop,(∀ σ' H',N σ' H' → ∃ m',m' < m ∧ W (i + 1) m' σ' H') ∧ ∀ x H',J.yld i H x H' → g x σ H' fun σ2 H2 => tb { D with nx := N,ct := N,bk := D.nx } σ2 H2)
noncomputable def zbm (fp : List Addr) (h : Heap) : List (Addr × Obj) := fp.filterMap fun b => (h.get? b).map fun o => (b,o)
theorem wI {fp : List Addr} {h : Heap} {b : Addr} {o : Obj} (hb : b ∈ fp) (e : h.get? b = some o) : (b,o) ∈ zbm fp h := List.mem_filterMap.mpr ⟨b,hb,by rw [e]; rfl⟩
theorem zeE {fp : List Addr} {h : Heap} {p : Addr × Obj} (hp : p ∈ zbm fp h) : p.1 ∈ fp ∧ h.get? p.1 = some p.2 := by
 obtain ⟨b,hb,e⟩ := List.mem_filterMap.mp hp
 cases q : h.get? b with
 | none => rw [q] at e; cases e
 | some o =>
   rw [q] at e
   have e' : (b,o) = p := Option.some.inj e
   subst e'
   exact ⟨hb,q⟩
theorem Inv.pinned {pins : List (Addr × Obj)} {σ : St} {H : Hp} {s : Shared} {fp : List Addr} (I : Inv X pins σ H s) (hf : ∀ b ∈ fp,FpOk X pins H b) (ho : ∀ b ∈ fp,∃ o,s.heap.get? b = some o ∧ ∀ v,o.data ≠ .cell v) : Inv X (pins ++ zbm fp s.heap) σ H s :=
 I.pins_of fun p hp => (List.mem_append.mp hp).elim (fun z => I.pin p (List.mem_append_right _ z)) fun z => by
  obtain ⟨hb,e⟩ := zeE z
  obtain ⟨f0,f1,f2,_⟩ := hf p.1 hb
  obtain ⟨o,e',d⟩ := ho p.1 hb
  rw [e] at e'; cases e'
  exact ⟨e,f0,f1,f2,d⟩
theorem Inv.unpinned {pins pl : List (Addr × Obj)} {σ : St} {H : Hp} {s : Shared} (I : Inv X (pins ++ pl) σ H s) : Inv X pins σ H s := I.pins_of fun p hp => I.pin p (List.mem_append_right _ (List.mem_append_left _ hp))
theorem ziJ {iter : Expr} {body : List Stmt} {wi : TI} {g : TG} {tb : TS} {pos : Pos} (hp : PassesOwn (model X.prog X.w) X.A X.env X.xe) (hc : X.calm = true) (hi : PI X tg iter wi) (hg : PG X tg g) (hb : PSs X body tb)
 (hs : ∀ x,foldedSetIterable iter X.env x = pure x := by intro _; rfl) : PS X (.For tg iter body [] pos) (tFor wi g tb) := by
 intro pins s σ H D I h
 refine wpAny_For (thn (hi pins s σ H _ I h) fun v s1 h1 => thn h1 fun itv s2 h2 => ?_) hs
 obtain ⟨it,fp,tn,J,H2,e,I2,T,st2,f2,W,⟨m0,w0⟩,turn⟩ := h2
 subst e
 have stat : ∀ {H' : Hp},(∀ b ∈ fp,H' b = none) → ∀ b ∈ fp,FpOk X pins H' b := fun hn b hb => ⟨hn b hb,(f2 b hb).2⟩
 refine codeAny_forLoop_any (fun n s' => ∃ i σ' H',Inv X pins σ' H' s' ∧ tn i s'.heap ∧ (∀ b ∈ fp,H' b = none) ∧ W i n σ' H') ?_ m0 ⟨0,σ,H2,I2,st2,fun b hb => (f2 b hb).1,w0⟩
 rintro n s3 ⟨i,σ3,H3,I3,st3,fr3,w3⟩
 rcases turn i n σ3 H3 w3 with ⟨stop,qn⟩ | ⟨go,N,hN,step⟩
 ·refine wpAny_passesOwn hp (thn (T.done X rfl rfl rfl hc i pins s3 σ3 H3 X.xe I3 (stat fr3) st3 stop) fun r s4 ⟨hr,I4⟩ => ?_)
  subst hr
  exact wpAny_execs_nil ⟨σ3,H3,I4,qn⟩
 ·refine wpAny_passesOwn hp (thn (T.item X rfl rfl rfl hc i pins s3 σ3 H3 X.xe I3 (stat fr3) st3 go) fun r s4 ⟨u,hr,h4⟩ => ?_)
  subst hr
  refine wpAny_passesOwn hp (thn h4 fun _ s5 ⟨x,H5,I5,r5,y5,st5,fr5⟩ => ?_)
  have I5' := I5.pinned (stat fr5) (T.obj _ _ st5)
  refine wpAny_passesOwn hp (thn (hg _ s5 σ3 H5 x u _ I5' r5 (step x H5 y5)) fun _ s6 ⟨σ6,H6,I6,q6⟩ => ?_)
  refine wpAny_passesOwn hp (thn (hb _ s6 σ6 H6 _ I6 q6) fun f s7 q7 => ?_)
  have again : ∀ {σ7 : St} {H7 : Hp},Inv X (pins ++ zbm fp s5.heap) σ7 H7 s7 → N σ7 H7 → ∃ m,m < n ∧ ∃ i σ' H',Inv X pins σ' H' s7 ∧ tn i s7.heap ∧ (∀ b ∈ fp,H' b = none) ∧ W i m σ' H' := fun {σ7 H7} I7 n7 => by
   obtain ⟨m',hm,w7⟩ := hN σ7 H7 n7
   refine ⟨m',hm,i + 1,σ7,H7,I7.unpinned,T.keep _ _ _ st5 fun b hb o e => (I7.pin (b,o) (List.mem_append_right _ (List.mem_append_right _ (wI hb e)))).1,fun b hb => ?_,w7⟩
   obtain ⟨o,e,d⟩ := T.obj _ _ st5 b hb
   exact (I7.pin (b,o) (List.mem_append_right _ (List.mem_append_right _ (wI hb e)))).2.1
  cases f with
  | next => obtain ⟨σ7,H7,I7,n7⟩ := q7; exact again I7 n7
  | cont => obtain ⟨σ7,H7,I7,n7⟩ := q7; exact again I7 n7
  | brk => obtain ⟨σ7,H7,I7,q7⟩ := q7; exact ⟨σ7,H7,I7.unpinned,q7⟩
  | ret v => obtain ⟨x7,σ7,H7,I7,r7,q7⟩ := q7; exact ⟨x7,σ7,H7,I7.unpinned,r7,q7⟩
end
end L2
namespace L2
open PySem PySem.Spec PyProof.Rows
noncomputable abbrev R2 := V → V → Hp → VK → Prop
noncomputable def OpR (X : Cx) (f : Value → Value → Sem Value) (r : R2) : Prop :=
 ∀ (pins : List (Addr × Obj)) (s : Shared) (σ : St) (H : Hp) (x y : V) (v u : Value) (Q : VK),Inv X pins σ H s → RelV x v → RelV y u → r x y H Q →
   wpAny (model X.prog X.w) X.A (f v u) (EP X pins σ Q) X.xe s
noncomputable def UnR (X : Cx) (f : Value → Sem Value) (r : V → Hp → VK → Prop) : Prop :=
 ∀ (pins : List (Addr × Obj)) (s : Shared) (σ : St) (H : Hp) (x : V) (v : Value) (Q : VK),Inv X pins σ H s → RelV x v → r x H Q →
   wpAny (model X.prog X.w) X.A (f v) (EP X pins σ Q) X.xe s
noncomputable def ui (X : Cx) (f : Value) (r : List V → Hp → VK → Prop) : Prop :=
 ∀ (pins : List (Addr × Obj)) (s : Shared) (σ : St) (H : Hp) (xs : List V) (us : List Value) (Q : VK),Inv X pins σ H s → Vals xs us → r xs H Q →
   wpAny (model X.prog X.w) X.A (call f us) (EP X pins σ Q) X.xe s
noncomputable def TruR (X : Cx) (r : V → Hp → (Bool → Hp → Prop) → Prop) : Prop :=
 ∀ (pins : List (Addr × Obj)) (s : Shared) (σ : St) (H : Hp) (x : V) (v : Value) (Q : Bool → Hp → Prop),Inv X pins σ H s → RelV x v → r x H Q →
   wpAny (model X.prog X.w) X.A (truthy v) (TP X pins σ Q) X.xe s
noncomputable def tOp (r : R2) (ta tb : TE) : TE := fun σ H Q => ta σ H fun x H1 => tb σ H1 fun y H2 => r x y H2 Q
noncomputable def tUn (r : V → Hp → VK → Prop) (ta : TE) : TE := fun σ H Q => ta σ H fun x H1 => r x H1 Q
noncomputable def rI (C : Int → Int → Prop) (g : Int → Int → V) : R2 := fun x y H Q => ∃ i j,x = .int i ∧ y = .int j ∧ C i j ∧ Q (g i j) H
noncomputable def rI0 (g : Int → Int → V) : R2 := fun x y H Q => ∃ i j,x = .int i ∧ y = .int j ∧ Q (g i j) H
noncomputable def rU (g : Int → V) : V → Hp → VK → Prop := fun x H Q => ∃ i,x = .int i ∧ Q (g i) H
section
variable {X : Cx} {a b c : Expr} {ta tb tc : TE} {pos : Pos}
theorem binT (ha : PE X a ta) (hb : PE X b tb) {pins : List (Addr × Obj)} {s : Shared} {σ : St} {H : Hp} {R : V → V → Hp → Prop} (I : Inv X pins σ H s)
 (h : ta σ H fun x H1 => tb σ H1 fun y H2 => R x y H2) {Q : Value → Shared → Prop} {f : Value → Value → Sem Value}
 (hf : ∀ v u s2 x y H2,Inv X pins σ H2 s2 → RelV x v → RelV y u → R x y H2 → wpAny (model X.prog X.w) X.A (f v u) Q X.xe s2) :
 wpAny (model X.prog X.w) X.A (eval a X.env) (fun v s₁ => wpAny (model X.prog X.w) X.A (eval b X.env) (fun u s₂ => wpAny (model X.prog X.w) X.A (f v u) Q X.xe s₂) X.xe s₁) X.xe s := by
 refine thn (ha pins s σ H _ I h) fun v s1 ⟨x,H1,I1,r1,q1⟩ => ?_
 refine thn (hb pins s1 σ H1 _ I1 q1) fun u s2 ⟨y,H2,I2,r2,q2⟩ => ?_
 exact hf v u s2 x y H2 I2 r1 r2 q2
theorem pe_op {op : Operator} {r : R2} (ho : OpR X (binaryOp op) r) (ha : PE X a ta) (hb : PE X b tb) : PE X (.BinOp a op b pos) (tOp r ta tb) := by
 intro pins s σ H Q I h
 exact wpAny_BinOp (binT ha hb I h fun v u s2 x y H2 I2 rx ry q => ho pins s2 σ H2 x y v u Q I2 rx ry q)
theorem pe_un {op : UnaryOp} {r : V → Hp → VK → Prop} (ho : UnR X (unaryOp op) r) (ha : PE X a ta) : PE X (.UnaryOp op a pos) (tUn r ta) := by
 intro pins s σ H Q I h
 exact UnaryOp_ (thn (ha pins s σ H _ I h) fun v s1 ⟨x,H1,I1,r1,q1⟩ => ho pins s1 σ H1 x v Q I1 r1 q1)
theorem opI {f : Value → Value → Sem Value} {C : Int → Int → Prop} {g : Int → Int → Int}
 (rule : ∀ (i j : Int) (t u : Tok) (s : Shared) (Q : Value → Shared → Prop) (E : Value → Shared → Prop),C i j → Q (.int (g i j) s.toks) { s with toks := s.toks + 1 } → wpAny (model X.prog X.w) X.A (f (.int i t) (.int j u)) Q E s) :
 OpR X f (rI C fun i j => .int (g i j)) := by
 intro pins s σ H x y v u Q I rx ry h
 obtain ⟨i,j,rfl,rfl,hc,q⟩ := h
 obtain ⟨t,rfl⟩ := rx
 obtain ⟨t',rfl⟩ := ry
 exact rule i j t t' s _ _ hc ⟨.int (g i j),H,I.tok _,⟨_,rfl⟩,q⟩
theorem opI0 {f : Value → Value → Sem Value} {g : Int → Int → Int}
 (rule : ∀ (i j : Int) (t u : Tok) (s : Shared) (Q : Value → Shared → Prop) (E : Value → Shared → Prop),Q (.int (g i j) s.toks) { s with toks := s.toks + 1 } → wpAny (model X.prog X.w) X.A (f (.int i t) (.int j u)) Q E s) :
 OpR X f (rI0 fun i j => .int (g i j)) := by
 intro pins s σ H x y v u Q I rx ry h
 obtain ⟨i,j,rfl,rfl,q⟩ := h
 obtain ⟨t,rfl⟩ := rx
 obtain ⟨t',rfl⟩ := ry
 exact rule i j t t' s _ _ ⟨.int (g i j),H,I.tok _,⟨_,rfl⟩,q⟩
theorem opB0 {f : Value → Value → Sem Value} {g : Int → Int → Bool}
 (rule : ∀ (i j : Int) (t u : Tok) (s : Shared) (Q : Value → Shared → Prop) (E : Value → Shared → Prop),Q (.bool (g i j)) s → wpAny (model X.prog X.w) X.A (f (.int i t) (.int j u)) Q E s) :
 OpR X f (rI0 fun i j => .bl (g i j)) := by
 intro pins s σ H x y v u Q I rx ry h
 obtain ⟨i,j,rfl,rfl,q⟩ := h
 obtain ⟨t,rfl⟩ := rx
 obtain ⟨t',rfl⟩ := ry
 exact rule i j t t' s _ _ ⟨.bl (g i j),H,I,rfl,q⟩
noncomputable def CPow (i j : Int) : Prop := 0 ≤ j ∧ j ≤ 1000000 ∧ i.natAbs < 2 ^ 64
noncomputable def CMul (i j : Int) : Prop := (-(2 ^ 64) < i ∧ i < 2 ^ 64) ∨ (-(2 ^ 64) < j ∧ j < 2 ^ 64)
theorem CMul.ok {i j : Int} (h : CMul i j) : IntMulOk i j := by
 rcases h with ⟨h1,h2⟩ | ⟨h1,h2⟩
 ·exact .of_left (intBits_le_64 h1 h2)
 ·exact .of_right (intBits_le_64 h1 h2)
theorem zi2 : OpR X (binaryOp .Add) (rI0 fun i j => .int (i + j)) := opI0 fun _ _ _ _ _ _ _ q => add_int q
theorem ziU : OpR X (binaryOp .Sub) (rI0 fun i j => .int (i - j)) := opI0 fun _ _ _ _ _ _ _ q => sub_int q
theorem ziX : OpR X (binaryOp .Mult) (rI CMul fun i j => .int (i * j)) := opI fun _ _ _ _ _ _ _ hc q => mul_int q hc.ok
theorem ziY : OpR X (binaryOp .Mod) (rI (fun _ j => 0 < j) fun i j => .int (i % j)) := opI fun i j _ _ _ _ _ hc q => by
 have h1 : (0 : Int) < j := hc
 exact mod_int' (by lia) (by rw [Int.fmod_eq_emod_of_nonneg i (by lia)]; exact q)
theorem ziV : OpR X (binaryOp .Pow) (rI CPow fun i j => .int (i ^ j.toNat)) := opI fun _ _ _ _ _ _ _ hc q => pow_int_small hc.1 hc.2.1 hc.2.2 q
theorem unI {f : Value → Sem Value} {g : Int → Int}
 (rule : ∀ (i : Int) (t : Tok) (s : Shared) (Q : Value → Shared → Prop) (E : Value → Shared → Prop),Q (.int (g i) s.toks) { s with toks := s.toks + 1 } → wpAny (model X.prog X.w) X.A (f (.int i t)) Q E s) :
 UnR X f (rU fun i => .int (g i)) := by
 intro pins s σ H x v Q I rx h
 obtain ⟨i,rfl,q⟩ := h
 obtain ⟨t,rfl⟩ := rx
 exact rule i t s _ _ ⟨.int (g i),H,I.tok _,⟨_,rfl⟩,q⟩
theorem zik : UnR X (unaryOp .USub) (rU fun i => .int (-i)) := unI fun _ _ _ _ _ q => neg_int q
end
section
variable {X : Cx} {a b c : Expr} {ta tb tc : TE} {pos : Pos}
theorem zg6 {pins : List (Addr × Obj)} {σ : St} {H : Hp} {s : Shared} {Q : VK} {k k' : Bool} (I : Inv X pins σ H s) (q : Q (.bl k) H) (e : k = k') : EP X pins σ Q (.bool k') s := by
 subst e
 exact ⟨.bl k,H,I,rfl,q⟩
theorem zhJ : OpR X (compareOp .Lt) (rI0 fun i j => .bl (decide (i < j))) := opB0 fun _ _ _ _ _ _ _ q => lt_int q
theorem op_le : OpR X (compareOp .LtE) (rI0 fun i j => .bl (decide (i ≤ j))) := opB0 fun _ _ _ _ _ _ _ q => le_int q
theorem zi0 : OpR X (compareOp .Gt) (rI0 fun i j => .bl (decide (j < i))) := opB0 fun _ _ _ _ _ _ _ q => gt_int q
theorem ziZ : OpR X (compareOp .Is) (fun x y H Q => y = .non ∧ Q (.bl (decide (x = .non))) H) := by
 intro pins s σ H x y v u Q I rx ry h
 obtain ⟨rfl,q⟩ := h
 cases ry
 refine is_none_gen (zg6 I q ?_)
 cases x <;> first
  | (cases rx; rfl)
  | (obtain ⟨t,rfl⟩ := rx; rfl)
theorem zeD : OpR X (compareOp .IsNot) (fun x y H Q => y = .non ∧ Q (.bl (!decide (x = .non))) H) := by
 intro pins s σ H x y v u Q I rx ry h
 obtain ⟨rfl,q⟩ := h
 cases ry
 refine isnot_none_gen (zg6 I q ?_)
 cases x <;> first
  | (cases rx; rfl)
  | (obtain ⟨t,rfl⟩ := rx; rfl)
theorem OpR.or {f : Value → Value → Sem Value} {r r' : R2} (h : OpR X f r) (h' : OpR X f r') : OpR X f (fun x y H Q => r x y H Q ∨ r' x y H Q) := by
 intro pins s σ H x y v u Q I rx ry q
 rcases q with q | q
 ·exact h pins s σ H x y v u Q I rx ry q
 ·exact h' pins s σ H x y v u Q I rx ry q
theorem wV (b : Expr) {op : CmpOp} (h : op ≠ .In := by decide) (h2 : op ≠ .NotIn := by decide) : behindInMarks op b = false := by
 have e1 : (op == CmpOp.In) = false := by cases op <;> first | rfl | exact absurd rfl h
 have e2 : (op == CmpOp.NotIn) = false := by cases op <;> first | rfl | exact absurd rfl h2
 cases b <;> simp [behindInMarks,e1,e2]
theorem zhF {op : CmpOp} {r : R2} (ho : OpR X (compareOp op) r) (ha : PE X a ta) (hb : PE X b tb) (hm : behindInMarks op b = false) : PE X (.Compare a [op] [b] pos) (tOp r ta tb) := by
 intro pins s σ H Q I h
 exact wpAny_Compare1 (binT ha hb I h fun v u s2 x y H2 I2 rx ry q => ho pins s2 σ H2 x y v u Q I2 rx ry q) hm
noncomputable def zio (t : TE) : TT := fun σ H Q => t σ H fun x H' => ∃ k,x = .bl k ∧ Q k H'
theorem zhw {op : CmpOp} {r : R2} (ho : OpR X (compareOp op) r) (ha : PE X a ta) (hb : PE X b tb) (hm : behindInMarks op b = false) : PT X (.Compare a [op] [b] pos) (zio (tOp r ta tb)) := by
 intro pins s σ H Q I h
 refine wpAny_isTrue_Compare1 (thn (ha pins s σ H _ I h) fun v s1 ⟨x,H1,I1,r1,q1⟩ => thn (hb pins s1 σ H1 _ I1 q1) fun u s2 ⟨y,H2,I2,r2,q2⟩ =>
  thn (ho pins s2 σ H2 x y v u _ I2 r1 r2 q2) fun c s3 ⟨z,H3,I3,r3,k,e,q3⟩ => ?_) hm
 subst e
 cases r3
 exact wpAny_truthy_bool ⟨H3,I3,q3⟩
noncomputable def zgP (r r' : R2) (ta tb tc : TE) : TE := fun σ H Q => ta σ H fun x H1 => tb σ H1 fun y H2 => r x y H2 fun z H3 => ∃ k,z = .bl k ∧
 (if k = true then tc σ H3 fun w' H4 => r' y w' H4 Q else Q (.bl false) H3)
theorem zf6 {op op' : CmpOp} {r r' : R2} (ho : OpR X (compareOp op) r) (ho' : OpR X (compareOp op') r') (ha : PE X a ta) (hb : PE X b tb) (hc : PE X c tc)
 (hm : lastMarks [op,op'] [b,c] = false := by with_unfolding_all rfl) : PT X (.Compare a [op,op'] [b,c] pos) (zio (zgP r r' ta tb tc)) := by
 intro pins s σ H Q I h
 refine isTrue_chain (thn (ha pins s σ H _ I h) fun v s1 ⟨x,H1,I1,r1,q1⟩ => test_link (thn (hb pins s1 σ H1 _ I1 q1) fun u s2 ⟨y,H2,I2,r2,q2⟩ =>
  thn (ho pins s2 σ H2 x y v u _ I2 r1 r2 q2) fun d s3 ⟨z,H3,I3,r3,k,e,q3⟩ => ?_)) hm
 subst e
 cases r3
 refine wpAny_truthy_bool ?_
 cases k with
 | false =>
   obtain ⟨k',e',q'⟩ := q3
   cases e'
   exact ite_ff ⟨H3,I3,q'⟩
 | true =>
   refine ite_tt (test_last (thn (hc pins s3 σ H3 _ I3 q3) fun w' s4 ⟨z',H4,I4,r4,q4⟩ => thn (ho' pins s4 σ H4 y z' u w' _ I4 r2 r4 q4) fun d' s5 ⟨z2,H5,I5,r5,k2,e2,q5⟩ => ?_))
   subst e2
   cases r5
   exact wpAny_truthy_bool ⟨H5,I5,q5⟩
noncomputable def TruV (K : PySem.W.Frag) (x : V) (H : Hp) (k : Bool) : Prop :=
 match x with
 | .non => k = false
 | .bl b => k = b
 | .int i => k = (i != 0)
 | .str y => y.length ≤ sizeLine ∧ k = ((y.length : Int) != 0)
 | .byt y => y.size ≤ sizeLine ∧ k = ((y.size : Int) != 0)
 | .ref p => (∃ xs,SqL K H p xs ∧ k = !xs.isEmpty) ∨ (∃ xs,SqT K H p xs ∧ k = !xs.isEmpty) ∨ ∃ kvs,H p = some (.dK kvs) ∧ k = !kvs.isEmpty
 | _ => False
theorem zdN {κ : Type} {kvs : List (κ × V)} {vs : List (κ × Value)} (r : KV kvs vs) : (!vs.isEmpty) = !kvs.isEmpty := by
 cases r <;> rfl
theorem zai {xs : List V} {its : List Value} (r : Vals xs its) : (!its.toArray.isEmpty) = !xs.isEmpty := by
 cases r <;> simp
theorem zah : (sizeLine : Nat) < 2 ^ 63 := by rw [sizeLine_eq]; decide
theorem zil : TruR X (fun x H Q => ∃ k,TruV X.K x H k ∧ Q k H) := by
 intro pins s σ H x v Q I rx h
 obtain ⟨k,e,q⟩ := h
 have hl := zah
 have hs : sizeLine = 16777216 := sizeLine_eq
 cases x with
 | non =>
   cases rx
   have e' : k = false := e
   subst e'
   exact truthy_none ⟨H,I,q⟩
 | bl b =>
   cases rx
   have e' : k = b := e
   subst e'
   exact wpAny_truthy_bool ⟨H,I,q⟩
 | int i =>
   obtain ⟨t,rfl⟩ := rx
   have e' : k = (i != 0) := e
   subst e'
   exact PySem.P.truthy_int ⟨H,I,q⟩
 | str y =>
   obtain ⟨t,rfl⟩ := rx
   obtain ⟨hy,e'⟩ : y.length ≤ sizeLine ∧ k = ((y.length : Int) != 0) := e
   subst e'
   exact PySem.P.truthy_str (by lia) ⟨H,I.tok _,q⟩
 | byt y =>
   obtain ⟨t,rfl⟩ := rx
   obtain ⟨hy,e'⟩ : y.size ≤ sizeLine ∧ k = ((y.size : Int) != 0) := e
   subst e'
   exact PySem.W.truthy_bytes (by lia) ⟨H,I.tok _,q⟩
 | ref p =>
   cases rx
   have e' : (∃ xs,SqL X.K H p xs ∧ k = !xs.isEmpty) ∨ (∃ xs,SqT X.K H p xs ∧ k = !xs.isEmpty) ∨ ∃ kvs,H p = some (.dK kvs) ∧ k = !kvs.isEmpty := e
   rcases e' with ⟨xs,hx,e'⟩ | ⟨xs,hx,e'⟩ | ⟨kvs,hx,e'⟩
   ·subst e'
    obtain ⟨its,r,pl,hz⟩ := I.list hx
    have hlen := r.length
    exact wpAny_truthy_list pl.isList (by simp only [List.size_toArray]; lia) ⟨H,I.tok _,by rw [zai r]; exact q⟩
   ·subst e'
    obtain ⟨its,r,pl,hz⟩ := I.tuple hx
    have hlen := r.length
    exact truthy_tuple pl (by simp only [List.size_toArray]; lia) ⟨H,I.tok _,by rw [zai r]; exact q⟩
   ·subst e'
    obtain ⟨hz,hS,vs,r,m⟩ : kvs.length ≤ sizeLine ∧ (p == sysModules) = false ∧ ∃ vs,KV kvs vs ∧ s.heap.DictOf (zb7 X.prog X.w) p vs := I.hok p _ hx
    have hlen : kvs.length = vs.length := Paired.length r
    exact wpAny_truthy_dict hS m (by lia) ⟨H,I.tok _,by rw [zdN r]; exact q⟩
 | _ => exact (show False from e).elim
theorem zf5 (ha : PE X a ta) (he : ∀ whole,isTrue a X.env whole = (do let v ← whole; standAt a.pos; holding [v] (truthy v))) :
 PT X a (fun σ H Q => ta σ H fun x H' => ∃ k,TruV X.K x H' k ∧ Q k H') := by
 intro pins s σ H Q I h
 exact isTrue_plain (thn (ha pins s σ H _ I h) fun v s1 ⟨x,H1,I1,r1,q1⟩ => zil pins s1 σ H1 x v Q I1 r1 q1) (he _)
theorem zav {x : V} {us : List Value} (r : Vals [x] us) : ∃ u,us = [u] ∧ RelV x u := by
 cases r with
 | cons r1 r2 => cases r2; exact ⟨_,rfl,r1⟩
theorem zhg {x y : V} {us : List Value} (r : Vals [x,y] us) : ∃ u w',us = [u,w'] ∧ RelV x u ∧ RelV y w' := by
 cases r with
 | cons r1 r2 =>
   cases r2 with
   | cons r3 r4 => cases r4; exact ⟨_,_,rfl,r1,r3⟩
theorem zfr (hc : X.calm = true) : ui X (.builtin "max") (fun xs H Q => ∃ i j,xs = [.int i,.int j] ∧ Q (.int (if j > i then j else i)) H) := by
 intro pins s σ H xs us Q I r h
 obtain ⟨i,j,rfl,q⟩ := h
 obtain ⟨u,w',rfl,⟨t,rfl⟩,⟨t',rfl⟩⟩ := zhg r
 refine max_two_ints (I.ok.hd hc) fun h' tk k => ⟨_,H,I.kept k,?_,q⟩
 by_cases hj : j > i
 ·rw [if_pos hj,if_pos hj]; exact ⟨_,rfl⟩
 ·rw [if_neg hj,if_neg hj]; exact ⟨_,rfl⟩
theorem tz (hc : X.calm = true) : ui X (.builtin "min") (fun xs H Q => ∃ i j,xs = [.int i,.int j] ∧ Q (.int (if j < i then j else i)) H) := by
 intro pins s σ H xs us Q I r h
 obtain ⟨i,j,rfl,q⟩ := h
 obtain ⟨u,w',rfl,⟨t,rfl⟩,⟨t',rfl⟩⟩ := zhg r
 refine min_two_ints (I.ok.hd hc) fun h' tk k => ⟨_,H,I.kept k,?_,q⟩
 by_cases hj : j < i
 ·rw [if_pos hj,if_pos hj]; exact ⟨_,rfl⟩
 ·rw [if_neg hj,if_neg hj]; exact ⟨_,rfl⟩
theorem zfs : ui X (.type "int") (fun xs H Q => (∃ i,xs = [.int i] ∧ Q (.int i) H) ∨ ∃ k,xs = [.bl k] ∧ Q (.int (if k then 1 else 0)) H) := by
 intro pins s σ H xs us Q I r h
 rcases h with ⟨i,rfl,q⟩ | ⟨k,rfl,q⟩
 ·obtain ⟨u,rfl,t,rfl⟩ := zav r
  exact call_int_int ⟨.int i,H,I,⟨_,rfl⟩,q⟩
 ·obtain ⟨u,rfl,r1⟩ := zav r
  cases r1
  exact call_int_bool ⟨.int (if k then 1 else 0),H,I.tok _,⟨_,rfl⟩,q⟩
end
end L2
namespace L2
open PySem PySem.Spec PyProof.Rows
structure ObjM (h : Heap) (x dx C : Addr) (mA : Str → Option Value) : Prop where
 obj : h.get? x = some (PySem.W.instObj C dx)
 ns : h.Ns1 dx mA
 ne : dx ≠ x
section
variable {prog : Program} {w : World} {A : Around} {E : Value → Shared → Prop} {s : Shared} {K : PySem.W.Frag} {x dx C f : Addr} {mA : Str → Option Value} {name : Str} {v : Value}
end
section
variable {P : Program} {w : World} {H H' : Hp} {h h' : Heap} {a C dx : Addr} {fs fs' : List (Str × V)}
end
structure Cls (K : PySem.W.Frag) (C : Addr) : Prop where
 pg : PySem.W.plainGet K C Str.empty = true
 hd : PySem.W.hasDictIn K C = true
 po : PySem.W.plainOver K C = true
 sa : PySem.W.findIn K (.ref C) "__setattr__" = some (some (.builtin "object.__setattr__"))
structure Con (K : PySem.W.Frag) (C : Addr) (f : Str) (v : V) (u : Value) : Prop where
 at_ : PySem.W.findIn K (.ref C) f = some (some u)
 rel : RelV v u
 get : PySem.W.specialIn K u "__get__" = some none
 cp : PySem.W.copiedNames.contains f = false
structure Meth (K : PySem.W.Frag) (C : Addr) (m : Str) (f : Addr) : Prop where
 at_ : PySem.W.findIn K (.ref C) m = some (some (.ref f))
 fn : PySem.W.isFn K (.ref f) = true
 kp : PySem.W.keepIn K (.ref f) = true
section
variable {X : Cx} {pins : List (Addr × Obj)} {σ : St} {H : Hp} {s : Shared} {a C dx : Addr} {fs : List (Str × V)} {f : Str} {v : V} {A : Around} {E : Value → Shared → Prop}
end
section
variable {X : Cx} {o e value : Expr} {f : Str} {pos pos' tpos : Pos} {ta tv : TE}
end
section
variable {X : Cx} {pins : List (Addr × Obj)} {σ : St} {H : Hp} {s : Shared} {A : Around} {E : Value → Shared → Prop} {Q : Value → Shared → Prop} {c : Value} {b : Bool}
inductive TyOf (K : PySem.W.Frag) (H : Hp) : V → Value → Prop where
 | non : TyOf K H .non (.type "NoneType")
 | bl (x : Bool) : TyOf K H (.bl x) (.type "bool")
 | int (i : Int) : TyOf K H (.int i) (.type "int")
 | str (x : Str) : TyOf K H (.str x) (.type "str")
 | flt (x : UInt64) : TyOf K H (.flt x) (.type "float")
 | lst {a : Addr} {xs : List V} (e : H a = some (.lst xs)) : TyOf K H (.ref a) (.type "list")
 | frz {a : Addr} {o : Obj} {xs : List V} (e : H a = some (.frz o (.lst xs))) : TyOf K H (.ref a) (.type "list")
 | tup {a : Addr} {xs : List V} (e : H a = some (.tup xs)) : TyOf K H (.ref a) (.type "tuple")
 | dK {a : Addr} {kvs : List (Key × V)} (e : H a = some (.dK kvs)) : TyOf K H (.ref a) (.type "dict")
 | dT {a : Addr} {kvs : List (List Key × V)} (e : H a = some (.dT kvs)) : TyOf K H (.ref a) (.type "dict")
 | ins {a C dx : Addr} {fs : List (Str × V)} (e : H a = some (.ins C dx fs)) (cl : Cls K C) (ha : PySem.W.findIn K (.ref C) "__class__" = some (some (.builtin "object.__class__")))
  (hn : PySem.W.specialIn K (.builtin "object.__class__") "__get__" = some (some (.builtin "getset_descriptor.__get__"))) (htk : PySem.W.takesIn K (.builtin "object.__class__") = some true)
  (hm : PySem.W.mroIn K C (.type "object") = some true) : TyOf K H (.ref a) (.ref C)
end
end L2
namespace L2
open PySem PySem.Spec PyProof.Rows
structure Room (k : Nat) (A : Around) : Prop where
 hd : A.handled = none
 dp : A.depth + 3 * k + 5 < recursionLimit
 un : A.units + 16 * k + 200 < cLine
theorem Room.mono {j k : Nat} {A : Around} (r : Room k A) (h : j ≤ k) : Room j A := ⟨r.hd,by have := r.dp; lia,by have := r.un; lia⟩
theorem Room.deeper {k : Nat} {A : Around} (r : Room (k + 1) A) (env : Env) : Room k (A.deeper env) :=
 ⟨r.hd,by have := r.dp; show A.depth + 1 + 3 * k + 5 < _; lia,by have := r.un; show A.units + 3 + 16 * k + 200 < _; lia⟩
theorem Room.depth {k : Nat} {A : Around} (r : Room k A) : A.depth < recursionLimit := by have := r.dp; lia
theorem Room.units {k : Nat} {A : Around} (r : Room k A) : A.units + 64 < cLine := by have := r.un; lia
noncomputable def tNil : TA := fun _ H Q => Q [] H
noncomputable def zir (ta : TE) (tr : TA) : TA := fun σ H Q => ta σ H fun x H1 => tr σ H1 fun xs H2 => Q (x :: xs) H2
section
variable {X : Cx} {e : Expr} {es : List Expr} {te : TE} {t : TA} {pos : Pos}
theorem wU : PA X [] tNil := fun _ _ _ _ H Q I h => Calls.spliced_nil ⟨[],H,I,.nil,h⟩
theorem xg (ha : PE X e te) (hr : PA X es t) (hs : starEach (e :: es) X.env = (false,eval e X.env) :: starEach es X.env := by rfl) : PA X (e :: es) (zir te t) := by
 intro pos pins s σ H Q I h
 rw [hs]
 show wpAny _ _ (spliced ((false,eval e X.env) :: backTo pos (starEach es X.env))) _ _ s
 refine Calls.spliced_cons (thn (ha pins s σ H _ I h) fun u s1 ⟨x,H1,I1,r1,q1⟩ => ?_)
 exact thn (hr pos pins s1 σ H1 _ I1 q1) fun us s2 ⟨xs,H2,I2,r2,q2⟩ => ⟨x :: xs,H2,I2,.cons r1 r2,q2⟩
noncomputable def tTup (t : TA) : TE := fun σ H Q => t σ H fun xs H1 => xs.length ≤ sizeLine ∧ ∀ p,H1 p = none → Q (.ref p) (upd H1 p (.tup xs))
noncomputable def tLst (t : TA) : TE := fun σ H Q => t σ H fun xs H1 => xs.length ≤ sizeLine ∧ ∀ p,H1 p = none → Q (.ref p) (upd H1 p (.lst xs))
theorem ziO {x1} (h : PA X es t) : PE X (.Tuple es x1 pos) (tTup t) := by
 intro pins s σ H Q I hq
 refine wpAny_Tuple_spliced (thn (h pos pins s σ H _ I hq) fun us s1 ⟨xs,H1,I1,r,z,q⟩ => ⟨by rw [← r.length]; exact z,?_⟩)
 have hf : H1 s1.heap.objs.size = none := I1.hok.fresh (Nat.le_refl _)
 refine ⟨.ref s1.heap.objs.size,upd H1 s1.heap.objs.size (.tup xs),I1.laid (t' := s1.toks) (fun b u e => Heap.get?_push_of_some _ e) (Nat.le_refl _) ?_,rfl,q _ hf⟩
 exact ⟨z,us,r,⟨_,Heap.get?_push_size _ rfl,rfl,_,rfl⟩⟩
theorem ziR (h : PA X es t) : PE X (.List es pos) (tLst t) := by
 intro pins s σ H Q I hq
 refine wpAny_List_spliced (thn (h pos pins s σ H _ I hq) fun us s1 ⟨xs,H1,I1,r,z,q⟩ => ⟨by rw [← r.length]; exact z,?_⟩)
 have hf : H1 s1.heap.objs.size = none := I1.hok.fresh (Nat.le_refl _)
 refine ⟨.ref s1.heap.objs.size,upd H1 s1.heap.objs.size (.lst xs),I1.laid (t' := s1.toks) (fun b u e => Heap.get?_push_of_some _ e) (Nat.le_refl _) ?_,rfl,q _ hf⟩
 exact ⟨z,us,0,r,Heap.get?_push_size _ rfl⟩
end
noncomputable abbrev Sp := List V → Hp → VK → XK → Prop
noncomputable abbrev CXT := List Env → Hp → Shared → XK → Value → Shared → Prop
structure Env0 (P : Program) (w : World) (K : PySem.W.Frag) (mg : Str → Option Value) (base : Heap) (A : Around) (outer : List Env) (s : Shared) (H : Hp) : Prop where
 frames : A.frames = some outer
 mod : Mod K mg base
 bs : ∀ b o,base.get? b = some o → s.heap.get? b = some o ∧ H b = none
 bsz : base.objs.size ≤ s.heap.objs.size
 funs : s.heap.FunFrames base outer
 frf : ∀ b ∈ frs outer,H b = none
 hok : HOk P w H s.heap
 bare : AllBare s.gens
noncomputable def CE (outer : List Env) (P : Program) (w : World) (H : Hp) (s : Shared) (Q : VK) (u : Value) (s' : Shared) : Prop :=
 ∃ v H',s'.os = s.os ∧ AllBare s'.gens ∧ Un (frs outer) [] H H' s.heap s'.heap ∧ HOk P w H' s'.heap ∧ RelV v u ∧ Q v H'
noncomputable def CR (CX : CXT) (outer : List Env) (P : Program) (w : World) (H : Hp) (s : Shared) (Q : VK) (E : XK) (r : Result) (s' : Shared) : Prop :=
 match r with
 | .ok (.ret u) => CE outer P w H s Q u s'
 | .ok _ => False
 | .error e => CX outer H s E e s'
structure FnOk (P : Program) (w : World) (K : PySem.W.Frag) (mg : Str → Option Value) (base : Heap) (CX : CXT) (k : Nat) (f : Addr) (fd : FuncData) (ps : List Str) (sp : Sp) : Prop where
 len : ∀ vs H Q E,sp vs H Q E → vs.length = ps.length
 run : ∀ (A : Around) (outer : List Env) (s : Shared) (H : Hp) (args : Args) (us : List Value) (vs : List V) (Q : VK) (E : XK),Room k A → Env0 P w K mg base A outer s H → BindsTo s fd args (ps.zip us) → Vals vs us → sp vs H Q E →
  codeAny (model P w) A (.call (.ref f) args) (CR CX outer P w H s Q E) s
theorem FnOk.mono {P : Program} {w : World} {K : PySem.W.Frag} {mg : Str → Option Value} {base : Heap} {CX : CXT} {j k : Nat} {f : Addr} {fd : FuncData} {ps : List Str} {sp : Sp} (F : FnOk P w K mg base CX j f fd ps sp) (h : j ≤ k) :
 FnOk P w K mg base CX k f fd ps sp := ⟨F.len,fun A outer s H args us vs Q E hr => F.run A outer s H args us vs Q E (hr.mono h)⟩
theorem FnOk.imp {P : Program} {w : World} {K : PySem.W.Frag} {mg : Str → Option Value} {base : Heap} {CX : CXT} {k : Nat} {f : Addr} {fd : FuncData} {ps : List Str} {sp sp' : Sp} (F : FnOk P w K mg base CX k f fd ps sp)
 (h : ∀ vs H Q E,sp' vs H Q E → sp vs H Q E) : FnOk P w K mg base CX k f fd ps sp' :=
 ⟨fun vs H Q E q => F.len vs H Q E (h _ _ _ _ q),fun A outer s H args us vs Q E hr he hb hv hs => F.run A outer s H args us vs Q E hr he hb hv (h _ _ _ _ hs)⟩
section
variable {X : Cx} {pins : List (Addr × Obj)} {σ : St} {H : Hp} {s s' : Shared}
theorem Inv.env0 (I : Inv X pins σ H s) : Env0 X.prog X.w X.K X.mg X.base X.A X.stack s H :=
 ⟨I.ok.frames,I.ok.mod,I.bs,Nat.le_trans I.ok.bsz I.sz,I.stack,I.stkFree,I.hok,I.bare⟩
theorem Inv.after {Q : VK} {u : Value} (I : Inv X pins σ H s) (h : CE X.stack X.prog X.w H s Q u s') : EP X pins σ Q u s' := by
 obtain ⟨v,H',os,bare,un,hok,r,q⟩ := h
 obtain ⟨hh,g,d,t,os'⟩ := s'
 obtain rfl : os' = s.os := os
 exact ⟨v,H',I.call (h' := hh) (g' := g) (d' := d) (t' := t) (ch := []) un hok bare (fun b z => absurd z (by simp)),r,q⟩
end
noncomputable def tCall (sp : Sp) (dvs : List V) (E : XK) (t : TA) : TE := fun σ H Q => t σ H fun vs H1 => sp (vs ++ dvs) H1 Q E
noncomputable def Binds (K : PySem.W.Frag) (fd : FuncData) (ps : List Str) (ds : List Value) : Prop :=
 ∀ (s : Shared) (us : List Value),K.In s.heap → (us ++ ds).length = ps.length → BindsTo s fd ⟨us,[]⟩ (ps.zip (us ++ ds))
theorem Binds.all {K : PySem.W.Frag} {fd : FuncData} {ps : List Str} (h : ∀ us : List Value,us.length = ps.length → bindArgs fd ⟨us,[]⟩ = pure (ps.zip us)) : Binds K fd ps [] := fun s us _ hl => by
 rw [List.append_nil] at hl ⊢
 exact .of_eq (h us hl)
noncomputable def zfH (CX : CXT) (X : Cx) (E : XK) : Prop := ∀ (pins : List (Addr × Obj)) (σ : St) (H : Hp) (s : Shared) (e : Value) (s' : Shared),Inv X pins σ H s → CX X.stack H s E e s' → X.xe e s'
section
variable {X : Cx} {CX : CXT} {k : Nat} {f C : Addr} {fd : FuncData} {ps : List Str} {sp : Sp} {dvs : List V} {ds : List Value} {E : XK} {x m : Str} {p pos apos : Pos} {e o : Expr} {es : List Expr} {ta : TE} {t : TA}
theorem ziy {pins : List (Addr × Obj)} {σ : St} {H : Hp} {s : Shared} {Q : VK} {us : List Value} {vs : List V} (F : FnOk X.prog X.w X.K X.mg X.base CX k f fd ps sp) (hr : Room k X.A) (hb : Binds X.K fd ps ds) (hd : Vals dvs ds) (hx : zfH CX X E)
 (I : Inv X pins σ H s) (r : Vals vs us) (h : sp (vs ++ dvs) H Q E) : wpAny (model X.prog X.w) X.A (call (.ref f) us) (EP X pins σ Q) X.xe s := by
 have r2 : Vals (vs ++ dvs) (us ++ ds) := r.append hd
 have hl : (us ++ ds).length = ps.length := by rw [← r2.length]; exact F.len _ _ _ _ h
 refine wpAny_call (codeAny_mono (F.run X.A X.stack s H ⟨us,[]⟩ (us ++ ds) (vs ++ dvs) Q E hr I.env0 (hb s us I.kIn hl) r2 h) fun r s' hq => ?_)
 cases r with
 | error e => exact hx pins σ H s e s' I hq
 | ok fl =>
   cases fl with
   | ret u => exact I.after hq
   | next => exact False.elim hq
   | brk => exact False.elim hq
   | cont => exact False.elim hq
theorem zhG (F : FnOk X.prog X.w X.K X.mg X.base CX k f fd ps sp) (hr : Room k X.A) (hg : Gl X x) (hm : X.mg x = some (.ref f)) (hk : PySem.W.keepIn X.K (.ref f) = true) (hb : Binds X.K fd ps ds) (hd : Vals dvs ds) (hx : zfH CX X E)
 (ha : PA X (e :: es) t) (hdb : (x == ("__debug__" : Str)) = false := by decide) (he : starEach (e :: es) X.env = (false,eval e X.env) :: starEach es X.env := by rfl) (hpl : (backTo pos (starEach es X.env)).any (·.1) = false := by rfl) :
 PE X (.Call (.Name x p) (e :: es) [] pos) (tCall sp dvs E t) := by
 intro pins s σ H Q I h
 refine wpAny_Call_Name_kw (zhS I hg hm ?_ hdb)
 refine PySem.W.callWith_K (h₀ := X.base) I.ok.mod.kin hk (thn (ha pos pins s σ H _ I h) fun us s1 ⟨vs,H1,I1,r,q⟩ => ⟨I1.kIn,?_⟩) he hpl
 exact ziy F hr hb hd hx I1 r q
structure Mk (K : PySem.W.Frag) (C f : Addr) : Prop where
 makes : PySem.W.makesIn K C = true
 init : PySem.W.findIn K (.ref C) "__init__" = some (some (.ref f))
 fn : PySem.W.isFn K (.ref f) = true
 kp : PySem.W.keepIn K (.ref C) = true
end
section
variable {X : Cx} {CX : CXT} {k : Nat} {f C : Addr} {fd : FuncData} {ps ks : List Str} {sp : Sp} {E : XK} {x m : Str} {p pos apos kpos : Pos} {e o : Expr} {es : List Expr} {kws : List Keyword} {te ta : TE} {t tk : TA} {nm : Option Str}
structure KBinds (K : PySem.W.Frag) (fd : FuncData) (ps ks : List Str) (g : List Value → List Value → List Value) (gV : List V → List V → List V) : Prop where
 to : ∀ (s : Shared) (us ws : List Value),K.In s.heap → (g us ws).length = ps.length → BindsTo s fd ⟨us,ks.zip ws⟩ (ps.zip (g us ws))
 rel : ∀ {vs : List V} {us : List Value} {zs : List V} {ws : List Value},Vals vs us → Vals zs ws → Vals (gV vs zs) (g us ws)
variable {g : List Value → List Value → List Value} {gV : List V → List V → List V}
end
structure FnScope (N P : List Str) (sc : Scope) : Prop where
 kind : sc.kind = .function
 co : sc.isCoroutine = false
 gen : sc.isGenerator = false
 nd : N.Nodup
 pre : N.take P.length = P
 par : ∀ x ∈ P,sc.names.lookup x = some .local ∨ sc.names.lookup x = some .cell
 nofree : ∀ y ∈ sc.names,y.2 ≠ .free
theorem zbS {kindOf : Str → Option NameKind} {x : Str} : ∀ {binds : List (Str × Value)} {m : Str → Option Value},(∀ v,(x,v) ∉ binds) → bindL kindOf binds m x = m x
 | [],_,_ => rfl
 | (n,v) :: r,m,h => by
   unfold bindL
   rw [zbS fun w hw => h w (List.mem_cons_of_mem _ hw)]
   split
   ·have : x ≠ n := by rintro rfl; exact h v List.mem_cons_self
    simp [this]
   ·rfl
theorem zbU {kindOf : Str → Option NameKind} {x : Str} : ∀ {binds : List (Str × Value)} {m : Str → Option Value},(∀ v,(x,v) ∉ binds) → bindC kindOf binds m x = m x
 | [],_,_ => rfl
 | (n,v) :: r,m,h => by
   unfold bindC
   rw [zbU fun w hw => h w (List.mem_cons_of_mem _ hw)]
   split
   ·rfl
   ·have : x ≠ n := by rintro rfl; exact h v List.mem_cons_self
    simp [this]
theorem zbT {kindOf : Str → Option NameKind} {x : Str} {v : Value} : ∀ {P : List Str} {vs : List Value} {i : Nat} {m : Str → Option Value},P.Nodup → P[i]? = some x → vs[i]? = some v → kindOf x = some .local →
 bindL kindOf (P.zip vs) m x = some v
 | [],_,_,_,_,h,_,_ => by simp at h
 | _ :: _,[],_,_,_,_,h,_ => by simp at h
 | p :: P,w :: vs,0,m,nd,h1,h2,hk => by
   simp at h1 h2; subst h1; subst h2
   show bindL kindOf ((p,w) :: P.zip vs) m p = _
   unfold bindL
   rw [zbS fun v hv => (List.nodup_cons.mp nd).1 (List.of_mem_zip hv).1,if_pos hk]
   simp
 | p :: P,w :: vs,i + 1,m,nd,h1,h2,hk => by
   show bindL kindOf ((p,w) :: P.zip vs) m x = _
   unfold bindL
   exact zbT (i := i) (List.nodup_cons.mp nd).2 (by simpa using h1) (by simpa using h2) hk
theorem zbV {kindOf : Str → Option NameKind} {x : Str} {v : Value} : ∀ {P : List Str} {vs : List Value} {i : Nat} {m : Str → Option Value},P.Nodup → P[i]? = some x → vs[i]? = some v → kindOf x ≠ some .local →
 bindC kindOf (P.zip vs) m x = some v
 | [],_,_,_,_,h,_,_ => by simp at h
 | _ :: _,[],_,_,_,_,h,_ => by simp at h
 | p :: P,w :: vs,0,m,nd,h1,h2,hk => by
   simp at h1 h2; subst h1; subst h2
   show bindC kindOf ((p,w) :: P.zip vs) m p = _
   unfold bindC
   rw [zbU fun v hv => (List.nodup_cons.mp nd).1 (List.of_mem_zip hv).1,if_neg hk]
   simp
 | p :: P,w :: vs,i + 1,m,nd,h1,h2,hk => by
   show bindC kindOf ((p,w) :: P.zip vs) m x = _
   unfold bindC
   exact zbV (i := i) (List.nodup_cons.mp nd).2 (by simpa using h1) (by simpa using h2) hk
noncomputable def uA (N : List Str) (vs : List V) : St := vs.map some ++ List.replicate (N.length - vs.length) none
noncomputable def cxOf (CX : CXT) (P : Program) (w : World) (K : PySem.W.Frag) (mg : Str → Option Value) (base : Heap) (N : List Str) (qual : Str) (scope : Scope) (f : Addr) (cd : Value) (A : Around) (outer : List Env) (s : Shared) (H : Hp) (E : XK) : Cx where
 prog := P
 w := w
 K := K
 mg := mg
 base := base
 A := A.deeper (envOfC qual scope s.heap.objs.size f cd)
 N := N
 s₀ := s
 H₀ := H
 env := envOfC qual scope s.heap.objs.size f cd
 outer := outer
 stack := envOfC qual scope s.heap.objs.size f cd :: outer
 ex := []
 calm := true
 fn := fun _ => true
 pn := []
 xe := fun e s' => wpAny (model P w) (A.deeper (envOfC qual scope s.heap.objs.size f cd)) (leaving (envOfC qual scope s.heap.objs.size f cd) e) (fun _ s'' => CX outer H s E e s'') (fun e' s'' => CX outer H s E e' s'') s'
theorem uu {sc : Scope} {n : Nat} {x : Str} (h : sc.names.lookup x = some .cell) : ∃ c,(cellsFrom n sc.names []).lookup x = some c := by
 have q := PySem.W.cellsFrom_some sc.names n [] (.inl h)
 exact Option.isSome_iff_exists.mp q
theorem zeY {CX : CXT} {P : Program} {w : World} {K : PySem.W.Frag} {mg : Str → Option Value} {base : Heap} {N ps : List Str} {qual : Str} {scope : Scope} {f : Addr} {cd : Value} {A : Around} {outer : List Env} {s s1 : Shared} {H : Hp} {E : XK} {us : List Value} {vs : List V}
 (S : FnScope N ps scope) (hd : A.handled = none) (e0 : Env0 P w K mg base A outer s H) (hl : vs.length = ps.length) (r : Vals vs us)
 (x : InCallC s s.heap.objs.size (bindL (envOfC qual scope s.heap.objs.size f cd).kindOf (ps.zip us) fun _ => none) (cellsFrom (s.heap.objs.size + 1) scope.names []) (bindC (envOfC qual scope s.heap.objs.size f cd).kindOf (ps.zip us) fun _ => none) s1) :
 Inv (cxOf CX P w K mg base N qual scope f cd A outer s H E) [] (uA N vs) H s1 := by
 have hpl : ps.length ≤ N.length := by have := congrArg List.length S.pre; rw [List.length_take] at this; lia
 obtain ⟨h1,tk,rfl,hk⟩ := x.done
 have noA : ∀ b : Addr,b ∉ (cxOf CX P w K mg base N qual scope f cd A outer s H E).ex := fun b z => absurd (show b ∈ ([] : List Addr) from z) (by simp)
 refine ⟨⟨e0.mod,S.kind,rfl,rfl,Nat.le_refl _,fun y z c h1 h2 => ?_,fun y hy => ?_,fun y c _ h => ?_,fun _ => hd,Around.frames_deeper e0.frames,.inr ⟨rfl,rfl⟩,fun b z => absurd z (noA b),e0.bs,e0.bsz,fun b _ _ => noA b,fun b z => absurd z (noA b),e0.funs,e0.frf⟩,
  rfl,e0.bare,Un.kept hk,⟨_,x.toInCall.ns,fun i y v h1 h2 h3 => ?_⟩,fun y c h => ⟨_,x.cell y c h⟩,e0.hok.fresh (Nat.le_refl _),fun y c h => ?_,fun p hp => absurd (show p ∈ ([] : List (Addr × Obj)) from hp) (by simp),e0.hok.kept hk,?_⟩
 ·exact name_of_addr x.apart (PySem.mem_of_lookup h1) (PySem.mem_of_lookup h2)
 ·have hy : scope.names.lookup y = some .cell ∨ scope.names.lookup y = some .free := hy
  rcases hy with hy | hy
  ·exact uu hy
  ·exact absurd rfl (S.nofree _ (PySem.mem_of_lookup hy))
 ·exact Nat.le_of_lt (x.above y c (PySem.mem_of_lookup h))
 ·have hi : i < vs.length := by
   unfold uA at h2
   by_cases hi : i < vs.length
   ·exact hi
   ·rw [List.getElem?_append_right (by simpa using hi)] at h2
    rw [List.getElem?_replicate] at h2
    split at h2 <;> cases h2
  have ha : vs[i]? = some v := by
   unfold uA at h2
   rw [List.getElem?_append_left (by simpa using hi),List.getElem?_map] at h2
   cases e : vs[i]? with
   | none => rw [e] at h2; cases h2
   | some a => rw [e] at h2; cases h2; rfl
  obtain ⟨u,hu,rv⟩ := r.get ha
  have hp : ps[i]? = some y := by
   rw [← S.pre,List.getElem?_take_of_lt (by lia)]; exact h1
  have ndP : ps.Nodup := by rw [← S.pre]; exact S.nd.sublist (List.take_sublist _ _)
  refine ⟨u,rv,?_⟩
  rcases S.par y (List.mem_of_getElem? hp) with k | k
  ·exact .inl ⟨k,zbT ndP hp hu k⟩
  ·obtain ⟨c,e⟩ := uu (n := s.heap.objs.size + 1) k
   refine .inr ⟨.inl k,c,e,?_⟩
   have q := x.cell y c e
   rw [zbV ndP hp hu (by show scope.names.lookup y ≠ _; rw [k]; decide)] at q
   exact q
 ·exact e0.hok.fresh (Nat.le_of_lt (x.above y c (PySem.mem_of_lookup h)))
 ·unfold uA
  show _ = N.length
  rw [List.length_append,List.length_map,List.length_replicate]
  lia
theorem fn_of {CX : CXT} {P : Program} {w : World} {K : PySem.W.Frag} {mg : Str → Option Value} {base : Heap} {k : Nat} {f : Addr} {name qual : Str} {params : Arguments} {body : List Stmt} {scope : Scope} {dV kV doc pm cdv ct oc : Value} {an od : Option Addr}
 {osl : Array (Option Value)} {N ps : List Str} {sp : Sp} (lk : K.lookup f = some ⟨oc,od,.func (PySem.W.fnOf name qual params body scope dV kV doc pm an cdv ct),osl⟩) (hcd : PySem.W.codeIn K cdv qual = true) (S : FnScope N ps scope)
 (len : ∀ vs H Q E,sp vs H Q E → vs.length = ps.length)
 (hbody : ∀ (A : Around) (outer : List Env) (s : Shared) (H : Hp) (vs : List V) (Q : VK) (E : XK),Room k (A.deeper (envOfC qual scope s.heap.objs.size f cdv)) → sp vs H Q E →
  ∃ t,PSs (cxOf CX P w K mg base N qual scope f cdv A outer s H E) body t ∧ t { nx := fun _ H' => Q .non H',rt := Q } (uA N vs) H) :
 FnOk P w K mg base CX (k + 1) f (PySem.W.fnOf name qual params body scope dV kV doc pm an cdv ct) ps sp := by
 refine ⟨len,fun A outer s H args us vs Q E hr e0 hb r hsp => ?_⟩
 have hl := len _ _ _ _ hsp
 have KX : K.In s.heap := e0.mod.kin.keeps fun b o e => (e0.bs b o e).1
 have lim : s.heap.NoLimit := e0.mod.nolimit.keeps fun b o e => (e0.bs b o e).1
 have hkind : ∀ y ∈ ps.zip us,scope.names.lookup y.1 = some .local ∨ (scope.names.lookup y.1 = some .cell ∧ ((cellsFrom (s.heap.objs.size + 1) scope.names []).lookup y.1).isSome = true) := fun ⟨n,v⟩ hy => by
  rcases S.par n (List.of_mem_zip hy).1 with q | q
  ·exact .inl q
  ·exact .inr ⟨q,PySem.W.cellsFrom_some _ _ _ (.inl q)⟩
 refine codeAny_call_function hr.depth (KX _ _ lk) rfl S.co S.gen rfl (PySem.W.codeRec_of KX hcd) (hb _ _ _ _ ?_)
 refine wpAny_newFunctionEnv_cells S.kind hkind fun env he s1 x => ?_
 subst he
 refine ⟨lim.keeps x.toInCall.keep,codeAny_func ?_⟩
 obtain ⟨t,ht,hq⟩ := hbody A outer s H vs Q E (hr.deeper _) hsp
 have I : Inv (cxOf CX P w K mg base N qual scope f cdv A outer s H E) [] (uA N vs) H s1 := zeY S hr.hd e0 hl r x
 refine wpAny_mono (ht [] s1 (uA N vs) H _ I hq) (fun fl s' hs => ?_) fun e s' hs => hs
 have fin : ∀ {σ' : St} {H' : Hp} {v : V} {u : Value},Inv (cxOf CX P w K mg base N qual scope f cdv A outer s H E) [] σ' H' s' → RelV v u → Q v H' → CE outer P w H s Q u s' :=
  fun {σ' H' v u} J rv q => ⟨v,H',J.os,J.bare,J.base,J.hok,rv,q⟩
 cases fl with
 | ret u =>
   obtain ⟨v,σ',H',J,rv,q⟩ := hs
   exact fin J rv q
 | next =>
   obtain ⟨σ',H',J,q⟩ := hs
   exact fin (v := V.non) (u := Value.none) J rfl q
 | brk =>
   obtain ⟨_,_,_,q⟩ := hs
   exact False.elim q
 | cont =>
   obtain ⟨_,_,_,q⟩ := hs
   exact False.elim q
end L2
namespace L2
open PySem PySem.Spec PyProof.Rows
section
variable {X : Cx} {x : Str} {p pos : Pos} {e : Expr} {es : List Expr} {t : TA} {id T : String} {r : List V → Hp → VK → Prop}
noncomputable def tCB (r : List V → Hp → VK → Prop) (t : TA) : TE := fun σ H Q => t σ H fun vs H1 => r vs H1 Q
theorem zc1 (hc : ui X (.builtin id) r) (hg : Gl X x) (hm : X.mg x = none) (hv : bootBuiltins x = some (.builtin id)) (ha : PA X (e :: es) t) (hn : x ≠ "__name__" := by decide) (hdb : (x == ("__debug__" : Str)) = false := by decide)
 (he : starEach (e :: es) X.env = (false,eval e X.env) :: starEach es X.env := by rfl) (hpl : (backTo pos (starEach es X.env)).any (·.1) = false := by rfl) : PE X (.Call (.Name x p) (e :: es) [] pos) (tCB r t) := by
 intro pins s σ H Q I h
 refine wpAny_Call_Name_kw (uU I hg hm hv ?_ hn hdb)
 exact PyProof.Rows.callWith_builtin1 (thn (ha pos pins s σ H _ I h) fun us s1 ⟨vs,H1,I1,r1,q1⟩ => hc pins s1 σ H1 vs us Q I1 r1 q1) he hpl
theorem zbn (hc : ui X (.type T) r) (hg : Gl X x) (hm : X.mg x = none) (hv : bootBuiltins x = some (.type T)) (ha : PA X (e :: es) t) (hn : x ≠ "__name__" := by decide) (hdb : (x == ("__debug__" : Str)) = false := by decide)
 (he : starEach (e :: es) X.env = (false,eval e X.env) :: starEach es X.env := by rfl) (hpl : (backTo pos (starEach es X.env)).any (·.1) = false := by rfl) : PE X (.Call (.Name x p) (e :: es) [] pos) (tCB r t) := by
 intro pins s σ H Q I h
 refine wpAny_Call_Name_kw (uU I hg hm hv ?_ hn hdb)
 exact PyProof.Rows.callWith_type1 (thn (ha pos pins s σ H _ I h) fun us s1 ⟨vs,H1,I1,r1,q1⟩ => hc pins s1 σ H1 vs us Q I1 r1 q1) he hpl
end
end L2
namespace HT
open PySem PyProof.Rows
section
open PySem.SeqAt
open PySem.AutoSeq1 (wpAny_loadPart')
open PySem.MeetsSeq PySem.MeetsSeq2 PySem.MeetsSeq3
end
section
variable {prog : Program} {w : World} {A : Around} {E : Value → Shared → Prop} {s : Shared}
theorem cat_tup {t b : Addr} {vs ws : List Value} {Q : Value → Shared → Prop} (ht : IsTup s.heap t vs.toArray) (hb : IsTup s.heap b ws.toArray) (hv : vs ≠ [])
 (h1 : ws = [] → Q (.ref t) s) (h2 : ws ≠ [] → Q (.ref s.heap.objs.size) { s with heap := s.heap.push { cls := .type "tuple",data := .seq (vs ++ ws).toArray } })
 (hsz : vs.length + ws.length ≤ sizeLine) : wpAny (model prog w) A (binaryOp .Add (.ref t) (.ref b)) Q E s := by
 obtain ⟨⟨cls,dd,data,sl⟩,ho,hc,n,hd⟩ := id ht
 obtain ⟨⟨cls2,dd2,data2,sl2⟩,ho2,hc2,n2,hd2⟩ := id hb
 simp only at hc hd hc2 hd2
 subst hc hd hc2 hd2
 have e : vs.toArray ++ ws.toArray = (vs ++ ws).toArray := by simp
 by_cases hw : ws = []
 ·exact concat_meets ⟨_,ho,rfl⟩ ⟨_,ho2,rfl⟩ noFill_tuple_add seq_tuple_add PySem.F.slot_tuple_add PySem.F.entry_tuple_add (PySem.F.args_tuple_add_2 _ _)
   (tuple_addW1 t b vs.toArray ws.toArray n n2 dd dd2 sl sl2 (by simpa using hv) (by simp [hw])) ⟨ho,ho2,h1 hw⟩
 ·refine concat_meets ⟨_,ho,rfl⟩ ⟨_,ho2,rfl⟩ noFill_tuple_add seq_tuple_add PySem.F.slot_tuple_add PySem.F.entry_tuple_add (PySem.F.args_tuple_add_2 _ _)
   (tuple_addW2 t b vs.toArray ws.toArray n n2 dd dd2 sl sl2 (by simpa using hv) (by simpa using hw) (by rw [List.size_toArray,List.size_toArray]; exact hsz)) ⟨ho,ho2,?_⟩
  rw [e]
  exact h2 hw
noncomputable def sIx (n d : Nat) : Option Int → Nat
 | none => d
 | some v => if v < 0 then (v + (n : Int)).toNat else min v.toNat n
theorem ziw (n d : Nat) (hd : d ≤ n) (o : Option Int) : sIx n d o ≤ n := by
 cases o with
 | none => exact hd
 | some v =>
   show (if v < 0 then (v + (n : Int)).toNat else min v.toNat n) ≤ n
   by_cases hv : v < 0
   ·rw [if_pos hv]; lia
   ·rw [if_neg hv]; exact Nat.min_le_right _ _
theorem zfn (v : Int) (n d : Nat) : (if v < 0 then max (v + (n : Int)) 0 else min v (n : Int)) = ((sIx n d (some v) : Nat) : Int) := by
 show (if v < 0 then max (v + (n : Int)) 0 else min v (n : Int)) = (((if v < 0 then (v + (n : Int)).toNat else min v.toNat n) : Nat) : Int)
 by_cases hv : v < 0
 ·simp only [if_pos hv]; lia
 ·simp only [if_neg hv]; lia
theorem zdU (lo hi : Option Int) (n : Nat) : Builtin.Slice.sliceAdjust lo hi 1 (n : Int) = (((sIx n 0 lo : Nat) : Int),((sIx n n hi : Nat) : Int)) := by
 have h1 : ¬ ((1 : Int) < 0) := by lia
 unfold Builtin.Slice.sliceAdjust
 simp only [h1,if_false]
 refine Prod.ext ?_ ?_
 ·cases lo with
  | none => rfl
  | some v => exact zfn v n 0
 ·cases hi with
  | none => rfl
  | some v => exact zfn v n n
theorem zdG (i j : Nat) : Builtin.Slice.slicePlaces (i : Int) (j : Int) 1 = j - i := by
 unfold Builtin.Slice.slicePlaces
 have h1 : (1 : Int) > 0 := by lia
 simp only [h1,if_true,Int.ediv_one]
 split <;> lia
theorem t0 {v : Value} {o : Option Int} {Q : Option Int → Shared → Prop} (p : IsPart v o) (h : Q o s) : wpAny (model prog w) A (Builtin.Slice.slicePartIndex v) Q E s := by
 cases p with
 | none => exact slicePart_none h
 | int i t => exact slicePart_int h
theorem v5 {sl : Addr} {vl vu : Value} {lo hi : Option Int} {n : Nat} {Q : Int × Int × Nat → Shared → Prop} (hs : s.heap.IsSliceOf sl vl vu .none) (pl : IsPart vl lo) (pu : IsPart vu hi)
 (h : Q (((sIx n 0 lo : Nat) : Int),1,sIx n n hi - sIx n 0 lo) s) : wpAny (model prog w) A (Builtin.Slice.sliceApplied (.ref sl) (pure (n : Int))) Q E s := by
 obtain ⟨os,hos,hcs,hds⟩ := id hs
 unfold Builtin.Slice.sliceApplied Builtin.Slice.sliceFields
 refine wpAny_bind (wpAny_bind (wpAny_field hos hds (x := vl) rfl (wpAny_bind (wpAny_field hos hds (x := vu) rfl (wpAny_bind (wpAny_field hos hds (x := .none) rfl (wpAny_pure ?_)))))))
 refine wpAny_bind (slicePart_none ?_)
 show wpAny _ _ (if ((1 : Int) == 0) = true then _ else _) _ _ s
 rw [if_neg (by decide)]
 refine wpAny_bind (t0 pl (wpAny_bind (t0 pu (wpAny_bind (wpAny_pure ?_)))))
 show wpAny _ _ (match Builtin.Slice.sliceAdjust lo hi 1 (n : Int) with | (lo,hi) => pure (lo,(1 : Int),Builtin.Slice.slicePlaces lo hi 1)) _ _ s
 rw [zdU lo hi n]
 show wpAny _ _ (pure (((sIx n 0 lo : Nat) : Int),(1 : Int),Builtin.Slice.slicePlaces ((sIx n 0 lo : Nat) : Int) ((sIx n n hi : Nat) : Int) 1)) _ _ s
 rw [zdG]
 exact wpAny_pure h
theorem zf9 (xs : Array Value) (i k : Nat) : ((List.range k).filterMap fun (m : Nat) => xs[((i : Int) + (m : Int) * 1).toNat]?).toArray = ((xs.toList.drop i).take k).toArray := by
 have e : (fun (m : Nat) => xs[((i : Int) + (m : Int) * 1).toNat]?) = fun m => xs[i + m]? := by
  funext m
  have : ((i : Int) + (m : Int) * 1).toNat = i + m := by lia
  rw [this]
 rw [e]
 have := pick_run xs i k
 rw [List.filterMap_map] at this
 have e2 : ((fun x => xs[x]?) ∘ fun x => i + x) = fun m => xs[i + m]? := rfl
 rw [e2] at this
 rw [this]
theorem getItem_tuple_cut {t sl : Addr} {items : Array Value} {vl vu : Value} {lo hi : Option Int} {Q : Value → Shared → Prop} (ht : IsTup s.heap t items) (hs : s.heap.IsSliceOf sl vl vu .none) (pl : IsPart vl lo) (pu : IsPart vu hi)
 (hw : ¬ (sIx items.size 0 lo = 0 ∧ sIx items.size items.size hi = items.size))
 (h : Q (.ref s.heap.objs.size) { s with heap := s.heap.push { cls := .type "tuple",data := .seq ((items.toList.drop (sIx items.size 0 lo)).take (sIx items.size items.size hi - sIx items.size 0 lo)).toArray } })
 (hsz : items.size ≤ sizeLine) : wpAny (model prog w) A (getItem (.ref t) (.ref sl)) Q E s := by
 have htake : sizeOk (.seq ((items.toList.drop (sIx items.size 0 lo)).take (sIx items.size items.size hi - sIx items.size 0 lo)).toArray) := by
  show ((items.toList.drop (sIx items.size 0 lo)).take (sIx items.size items.size hi - sIx items.size 0 lo)).toArray.size ≤ sizeLine
  rw [List.size_toArray,List.length_take,List.length_drop,Array.length_toList]
  lia
 have hj : sIx items.size items.size hi ≤ items.size := ziw _ _ (Nat.le_refl _) hi
 obtain ⟨os,hos,hcs,hds⟩ := id hs
 have hTs : s.TypeIs (.ref sl) "slice" := ⟨os,hos,hcs⟩
 unfold getItem
 try with_reducible refine wpAny_holding ?_
 first | refine wpAny_bind (wpAny_pure ?_) | skip
 refine wpAny_bind (wpAny_sequenceKey ht.typeIs (by decide) ?_)
 refine wpAny_bind (wpAny_callSpecial?_slot (name := Str.ofString "__getitem__") ht.typeIs PyProof.Rows.slot_tuple_getitem
  (wpAny_call_entry PyProof.Rows.slot_tuple_getitem ht.typeIs entry_tuple_getitem ?_ (args_tuple_getitem _ _)))
 show wpAny _ _ (Builtin.Tuple.tupleItemsOf (.ref t) >>= _) _ _ s
 refine wpAny_bind (tupleItemsOf_ ht ?_)
 refine wpAny_bind (wpAny_typeOf hTs ?_)
 rw [if_pos (by decide)]
 refine wpAny_bind (v5 hs pl pu ?_)
 have hno : ¬ ((((sIx items.size 0 lo : Nat) : Int) == 0 && (1 : Int) == 1 && (sIx items.size items.size hi - sIx items.size 0 lo) == items.size) = true) := by
  intro q
  rw [Bool.and_eq_true,Bool.and_eq_true] at q
  have q1 : ((sIx items.size 0 lo : Nat) : Int) = 0 := eq_of_beq q.1.1
  have q2 : sIx items.size items.size hi - sIx items.size 0 lo = items.size := eq_of_beq q.2
  exact hw ⟨by lia,by lia⟩
 show wpAny _ _ (if (((sIx items.size 0 lo : Nat) : Int) == 0 && (1 : Int) == 1 && (sIx items.size items.size hi - sIx items.size 0 lo) == items.size) = true then _ else _) _ _ s
 rw [if_neg hno,zf9]
 first
  | exact wpAny_bind (m := Builtin.Tuple.tupleExact _) (wpAny_newObj_type (wpAny_pure ⟨_,rfl,wpAny_pure h⟩) htake)
  | exact wpAny_bind (m := Builtin.Tuple.tupleExact _) (wpAny_newObj_type (wpAny_bind (wpAny_pure (wpAny_pure ⟨_,rfl,wpAny_pure h⟩))) htake)
  | exact wpAny_bind (wpAny_bind (m := Builtin.Tuple.tupleExact _) (wpAny_newObj_type (wpAny_pure (wpAny_pure ⟨_,rfl,wpAny_pure h⟩)) htake))
  | exact wpAny_bind (wpAny_bind (m := Builtin.Tuple.tupleExact _) (wpAny_newObj_type (wpAny_pure ⟨_,rfl,wpAny_pure h⟩) htake))
end
end HT
namespace L2
open PySem PySem.Spec PyProof.Rows
noncomputable abbrev TO := St → Hp → (Option Int → Hp → Prop) → Prop
noncomputable def PO (X : Cx) (e : Option Expr) (t : TO) : Prop :=
 ∀ (pins : List (Addr × Obj)) (s : Shared) (σ : St) (H : Hp) (Q : Option Int → Hp → Prop),Inv X pins σ H s → t σ H Q →
   wpAny (model X.prog X.w) X.A (evalPart e X.env) (fun u s' => ∃ o H',Inv X pins σ H' s' ∧ IsPart u o ∧ Q o H') X.xe s
noncomputable def zhj : TO := fun _ H Q => Q none H
noncomputable def tPart (t : TE) : TO := fun σ H Q => t σ H fun x H1 => ∃ i,x = .int i ∧ Q (some i) H1
theorem zak {ns : List Int} : ∀ {us : List Value},Vals (ns.map V.int) us → IntsAre us ns := by
 induction ns with
 | nil => intro us r; rw [List.map_nil] at r; cases r; exact .nil
 | cons n ns ih =>
   intro us r
   rw [List.map_cons] at r
   cases r with
   | cons r1 r2 =>
     obtain ⟨t,e⟩ := r1
     subst e
     exact .cons n t (ih r2)
section
variable {X : Cx} {e : Expr} {te : TE} {lo hi : Option Expr} {tl th : TO} {pos p2 : Pos}
theorem zhA : PO X none zhj := by
 intro pins s σ H Q I h
 rw [evalPart_none]
 exact wpAny_pure ⟨none,H,I,.none,h⟩
theorem zhz (h : PE X e te) : PO X (some e) (tPart te) := by
 intro pins s σ H Q I hw
 rw [evalPart_some]
 refine thn (h pins s σ H _ I hw) fun u s1 ⟨x,H1,I1,r1,q1⟩ => ?_
 obtain ⟨i,rfl,q⟩ := q1
 obtain ⟨t,rfl⟩ := r1
 exact ⟨some i,H1,I1,.int i t,q⟩
noncomputable def SlR (X : Cx) (r : V → Option Int → Option Int → Hp → VK → Prop) : Prop :=
 ∀ (pins : List (Addr × Obj)) (s : Shared) (σ : St) (H : Hp) (x : V) (v vl vu : Value) (lo hi : Option Int) (sl : Addr) (Q : VK),Inv X pins σ H s → RelV x v → s.heap.IsSliceOf sl vl vu .none → IsPart vl lo → IsPart vu hi → r x lo hi H Q →
   ∃ T id,typeLookup (.type T) "__getitem__" = pure (some (.builtin id)) ∧ s.TypeIs v T ∧ wpAny (model X.prog X.w) X.A (getItem v (.ref sl)) (EP X pins σ Q) X.xe s
theorem SlR.or {r r' : V → Option Int → Option Int → Hp → VK → Prop} (h : SlR X r) (h' : SlR X r') : SlR X (fun x lo hi H Q => r x lo hi H Q ∨ r' x lo hi H Q) := by
 intro pins s σ H x v vl vu lo hi sl Q I rx hs pl pu q
 rcases q with q | q
 ·exact h pins s σ H x v vl vu lo hi sl Q I rx hs pl pu q
 ·exact h' pins s σ H x v vl vu lo hi sl Q I rx hs pl pu q
noncomputable def tSl (r : V → Option Int → Option Int → Hp → VK → Prop) (te : TE) (tl th : TO) : TE := fun σ H Q => te σ H fun x H1 => tl σ H1 fun l H2 => th σ H2 fun u H3 => r x l u H3 Q
theorem zc0 {r : V → Option Int → Option Int → Hp → VK → Prop} (hr : SlR X r) (he : PE X e te) (hl : PO X lo tl) (hu : PO X hi th) : PE X (.Subscript e (.Slice lo hi none p2) pos) (tSl r te tl th) := by
 intro pins s σ H Q I h
 refine Subscript_ (thn (he pins s σ H _ I h) fun v s1 ⟨x,H1,I1,r1,q1⟩ => ?_)
 refine wpAny_Slice (thn (hl pins s1 σ H1 _ I1 q1) fun vl s2 ⟨l,H2,I2,pl,q2⟩ => thn (hu pins s2 σ H2 _ I2 q2) fun vu s3 ⟨u,H3,I3,pu,q3⟩ => ?_)
 rw [evalPart_none]
 refine wpAny_pure ?_
 have I4 : Inv X pins σ H3 { s3 with heap := s3.heap.push { cls := .type "slice",data := .fields #[vl,vu,.none] } } := I3.kept (t' := s3.toks) fun b ob q => Heap.get?_push_of_some _ q
 obtain ⟨T,id,hT,ht,hg⟩ := hr pins { s3 with heap := s3.heap.push { cls := .type "slice",data := .fields #[vl,vu,.none] } } σ H3 x v vl vu l u s3.heap.objs.size Q I4 r1 (Heap.IsSliceOf.new ..) pl pu q3
 show wpAny (model X.prog X.w) X.A (subscriptTail e (.Slice lo hi none p2) v (.ref s3.heap.objs.size)) (EP X pins σ Q) X.xe { s3 with heap := s3.heap.push { cls := .type "slice",data := .fields #[vl,vu,.none] } }
 exact tail_any (ops := [.ref s3.heap.objs.size,v]) ht hT hg (by with_unfolding_all rfl)
noncomputable def cutV (xs : List V) (lo hi : Option Int) : List V := (xs.drop (HT.sIx xs.length 0 lo)).take (HT.sIx xs.length xs.length hi - HT.sIx xs.length 0 lo)
theorem tx (xs : List V) (lo hi : Option Int) : (cutV xs lo hi).length ≤ xs.length := by
 unfold cutV
 rw [List.length_take,List.length_drop]
 lia
noncomputable def rSlT (K : PySem.W.Frag) : V → Option Int → Option Int → Hp → VK → Prop := fun x lo hi H Q => ∃ a xs,x = .ref a ∧ SqT K H a xs ∧
 ¬ (HT.sIx xs.length 0 lo = 0 ∧ HT.sIx xs.length xs.length hi = xs.length) ∧ ∀ p,H p = none → Q (.ref p) (upd H p (.tup (cutV xs lo hi)))
theorem ziv : SlR X (rSlT X.K) := by
 intro pins s σ H x v vl vu lo hi sl Q I rx hs pl pu h
 obtain ⟨a,xs,rfl,hx,hw,q⟩ := h
 cases rx
 obtain ⟨its,r,ht,hz⟩ := I.tuple hx
 have hlen : its.toArray.size = xs.length := by rw [List.size_toArray]; exact r.length.symm
 refine ⟨"tuple",_,PyProof.Rows.slot_tuple_getitem.lookup,ht.typeIs,?_⟩
 refine HT.getItem_tuple_cut ht hs pl pu (by rw [hlen]; exact hw) ?_ (by rw [hlen]; exact hz)
 rw [hlen]
 refine ⟨.ref s.heap.objs.size,_,I.laid (t' := s.toks) (o := .tup (cutV xs lo hi)) (fun b ob q => Heap.get?_push_of_some _ q) (Nat.le_refl _) ?_,rfl,q _ (I.hok.fresh (Nat.le_refl _))⟩
 exact ⟨Nat.le_trans (tx xs lo hi) hz,_,(r.drop (HT.sIx xs.length 0 lo)).take (HT.sIx xs.length xs.length hi - HT.sIx xs.length 0 lo),IsTup.new _ _⟩
noncomputable def ziA (K : PySem.W.Frag) : R2 := fun x y H Q => ∃ a b xs ys,x = .ref a ∧ y = .ref b ∧ SqT K H a xs ∧ SqT K H b ys ∧ xs ≠ [] ∧ xs.length + ys.length ≤ sizeLine ∧
 (ys = [] → Q (.ref a) H) ∧ (ys ≠ [] → ∀ p,H p = none → Q (.ref p) (upd H p (.tup (xs ++ ys))))
theorem Vals.nil_iff {xs : List V} {us : List Value} (r : Vals xs us) : us = [] ↔ xs = [] := by
 cases r with
 | nil => simp
 | cons _ _ => simp
theorem zhK : OpR X (binaryOp .Add) (ziA X.K) := by
 intro pins s σ H x y v u Q I rx ry h
 obtain ⟨a,b,xs,ys,rfl,rfl,ha,hb,hx,hz,q1,q2⟩ := h
 cases rx
 cases ry
 obtain ⟨its,r1,p1,_⟩ := I.tuple ha
 obtain ⟨its2,r2,p2,_⟩ := I.tuple hb
 refine HT.cat_tup p1 p2 (fun z => hx (r1.nil_iff.mp z)) (fun z => ⟨.ref a,H,I,rfl,q1 (r2.nil_iff.mp z)⟩) (fun z => ?_) (by rw [← r1.length,← r2.length]; exact hz)
 refine ⟨.ref s.heap.objs.size,_,I.laid (t' := s.toks) (o := .tup (xs ++ ys)) (fun b ob q => Heap.get?_push_of_some _ q) (Nat.le_refl _) ?_,rfl,q2 (fun w => z (r2.nil_iff.mpr w)) _ (I.hok.fresh (Nat.le_refl _))⟩
 exact ⟨by rw [List.length_append]; exact hz,_,r1.append r2,IsTup.new _ _⟩
end
end L2
namespace L2
open PySem PySem.Spec PyProof.Rows
noncomputable def ixN (n : Nat) (i : Int) : Option Nat := if 0 ≤ i then (if i < n then some i.toNat else none) else if -(n : Int) ≤ i then some (i + n).toNat else none
noncomputable def atI {α : Type} (xs : List α) (i : Int) : Option α := (ixN xs.length i).bind fun j => xs[j]?
theorem zeX {n : Nat} {i : Int} {j : Nat} (h : ixN n i = some j) : seqIndex? i n = some j ∧ j < n ∧ -(n : Int) ≤ i ∧ i < n := by
 unfold ixN at h
 by_cases h0 : 0 ≤ i
 ·rw [if_pos h0] at h
  by_cases h1 : i < n
  ·rw [if_pos h1] at h
   have e : i.toNat = j := Option.some.inj h
   exact ⟨by rw [seqIndex_of h0 h1,e],by lia,by lia,h1⟩
  ·rw [if_neg h1] at h; cases h
 ·rw [if_neg h0] at h
  by_cases h1 : -(n : Int) ≤ i
  ·rw [if_pos h1] at h
   have e : (i + n).toNat = j := Option.some.inj h
   exact ⟨by rw [seqIndex_neg (by lia) h1,e],by lia,h1,by lia⟩
  ·rw [if_neg h1] at h; cases h
theorem zcz {α : Type} {xs : List α} {i : Int} {v : α} (h : atI xs i = some v) : ∃ j,seqIndex? i xs.length = some j ∧ xs[j]? = some v ∧ j < xs.length ∧ -(xs.length : Int) ≤ i ∧ i < xs.length := by
 unfold atI at h
 cases e : ixN xs.length i with
 | none => rw [e] at h; cases h
 | some j =>
   rw [e] at h
   obtain ⟨h1,h2,h3,h4⟩ := zeX e
   exact ⟨j,h1,h,h2,h3,h4⟩
noncomputable def zcD (b : Expr) : Prop := ∀ o i,subscripted b false o i = operate [o,i] (getItem o i)
noncomputable def IxR (X : Cx) (r : R2) : Prop :=
 ∀ (value slice : Expr) (pins : List (Addr × Obj)) (s : Shared) (σ : St) (H : Hp) (x y : V) (v u : Value) (Q : VK),Inv X pins σ H s → RelV x v → RelV y u → r x y H Q →
   subscripted slice false v u = operate [v,u] (getItem v u) → wpAny (model X.prog X.w) X.A (subscriptTail value slice v u) (EP X pins σ Q) X.xe s
noncomputable def MtR (X : Cx) (id : String) (r : V → List V → Hp → VK → Prop) : Prop :=
 ∀ (pins : List (Addr × Obj)) (s : Shared) (σ : St) (H : Hp) (x : V) (xs : List V) (v : Value) (us : List Value) (Q : VK),Inv X pins σ H s → RelV x v → Vals xs us → r x xs H Q →
   wpAny (model X.prog X.w) X.A (call (.builtin id) (v :: us)) (EP X pins σ Q) X.xe s
section
variable {X : Cx} {a b : Expr} {ta tb : TE} {pos : Pos}
theorem IxR.or {r r' : R2} (h : IxR X r) (h' : IxR X r') : IxR X (fun x y H Q => r x y H Q ∨ r' x y H Q) := by
 intro value slice pins s σ H x y v u Q I rx ry q hs
 rcases q with q | q
 ·exact h value slice pins s σ H x y v u Q I rx ry q hs
 ·exact h' value slice pins s σ H x y v u Q I rx ry q hs
theorem pe_ix {r : R2} (hr : IxR X r) (ha : PE X a ta) (hb : PE X b tb) (hs : zcD b) : PE X (.Subscript a b pos) (tOp r ta tb) := by
 intro pins s σ H Q I h
 exact Subscript_ (binT ha hb I h fun v u s2 x y H2 I2 rx ry q => hr a b pins s2 σ H2 x y v u Q I2 rx ry q (hs _ _))
noncomputable def rIxL (K : PySem.W.Frag) : R2 := fun x y H Q => ∃ p xs i v,x = .ref p ∧ y = .int i ∧ SqL K H p xs ∧ atI xs i = some v ∧ Q v H
noncomputable def rIxT (K : PySem.W.Frag) : R2 := fun x y H Q => ∃ p xs i v,x = .ref p ∧ y = .int i ∧ SqT K H p xs ∧ atI xs i = some v ∧ Q v H
noncomputable def rIxS : R2 := fun x y H Q => ∃ z i c,x = .str z ∧ y = .int i ∧ z.length ≤ sizeLine ∧ atI z.cps.toList i = some c ∧ Q (.str ⟨#[c]⟩) H
theorem zhX : IxR X (rIxL X.K) := by
 intro value slice pins s σ H x y v u Q I rx ry h hs
 obtain ⟨p,xs,i,z,rfl,rfl,hq,he,q⟩ := h
 cases rx
 obtain ⟨t,rfl⟩ := ry
 obtain ⟨its,r,pl,hz⟩ := I.list hq
 obtain ⟨j,h1,h2,h3,h4,h5⟩ := zcz he
 obtain ⟨w,ew,rw'⟩ := r.get h2
 have hl := r.length
 have hn := zah
 have fin : EP X pins σ Q w s := ⟨z,H,I,rw',q⟩
 by_cases h0 : 0 ≤ i
 ·have hj : i.toNat = j := by
   rw [seqIndex_of h0 h5] at h1
   exact Option.some.inj h1
  exact item_listR pl.isList h0 (by lia) (by rw [hj]; simpa using ew) fin hs
 ·have hj : (i + (its.toArray.size : Int)).toNat = j := by
   rw [seqIndex_neg (by lia) h4] at h1
   rw [List.size_toArray,← hl]
   exact Option.some.inj h1
  exact subscriptTail_builtinR (x := w) pl.isList.typeIs slot_list_getitem.lookup
   (wpAny_getItem_list_neg (Q := fun r s' => r = w ∧ EP X pins σ Q r s') pl.isList (by lia) (by rw [List.size_toArray] <;> lia) (by lia) (by rw [hj]; simpa using ew) ⟨rfl,fin⟩) hs
theorem zjj : IxR X (rIxT X.K) := by
 intro value slice pins s σ H x y v u Q I rx ry h hs
 obtain ⟨p,xs,i,z,rfl,rfl,hq,he,q⟩ := h
 cases rx
 obtain ⟨t,rfl⟩ := ry
 obtain ⟨its,r,pl,hz⟩ := I.tuple hq
 obtain ⟨j,h1,h2,h3,h4,h5⟩ := zcz he
 obtain ⟨w,ew,rw'⟩ := r.get h2
 have hl := r.length
 have hn := zah
 have fin : EP X pins σ Q w s := ⟨z,H,I,rw',q⟩
 exact subscriptTail_builtinR (x := w) pl.typeIs slot_tuple_getitem.lookup
  (getItem_tuple (j := j) (Q := fun r s' => r = w ∧ EP X pins σ Q r s') pl (by lia) (by lia) (by rw [List.size_toArray,← hl]; exact h1) (by simpa using ew) ⟨rfl,fin⟩) hs
theorem zjk : IxR X rIxS := by
 intro value slice pins s σ H x y v u Q I rx ry h hs
 obtain ⟨z,i,c,rfl,rfl,hz,he,q⟩ := h
 obtain ⟨t,rfl⟩ := rx
 obtain ⟨t',rfl⟩ := ry
 obtain ⟨j,h1,h2,h3,h4,h5⟩ := zcz he
 have hl : z.cps.toList.length = z.length := by simp [Str.length]
 rw [hl] at h1 h4 h5
 have hn := zah
 exact tail_any (typeIs_str s z t) slot_str_getitem.lookup (getItem_str (c := c) (by
  have e1 : decide (i < -(2 ^ 63 : Int)) = false := decide_eq_false (by lia)
  have e2 : decide (i ≥ 2 ^ 63) = false := decide_eq_false (by lia)
  rw [e1,e2,Bool.or_false]) (by rw [h1]; simpa using h2) ⟨.str ⟨#[c]⟩,H,I.tok _,⟨_,rfl⟩,q⟩) hs
noncomputable def rIx (K : PySem.W.Frag) : R2 := fun x y H Q => rIxL K x y H Q ∨ rIxT K x y H Q ∨ rIxS x y H Q
theorem zjl : IxR X (rIx X.K) := zhX.or (zjj.or zjk)
theorem zdM (its : List Value) (n j : Nat) (u : Value) : Obj.mapSeq (·.setIfInBounds j u) { cls := .type "list",data := .seq its.toArray n } = { cls := .type "list",data := .seq (its.set j u).toArray n } := by
 simp [Obj.mapSeq]
theorem Inv.lst {pins : List (Addr × Obj)} {σ : St} {H : Hp} {s : Shared} {p : Addr} {xs : List V} (I : Inv X pins σ H s) (h : H p = some (.lst xs)) :
 ∃ (its : List Value) (n : Nat),Vals xs its ∧ s.heap.get? p = some { cls := .type "list",data := .seq its.toArray n } ∧ xs.length ≤ sizeLine := by
 obtain ⟨z,its,n,r,e⟩ := I.hok p _ h
 exact ⟨its,n,r,e,z⟩
theorem Inv.lstUpd {pins : List (Addr × Obj)} {σ : St} {H : Hp} {s : Shared} {p : Addr} {xs ys : List V} {its its' : List Value} {n n' : Nat} {f : Obj → Obj} (I : Inv X pins σ H s) (h : H p = some (.lst xs))
 (ho : s.heap.get? p = some { cls := .type "list",data := .seq its.toArray n }) (hf : f { cls := .type "list",data := .seq its.toArray n } = { cls := .type "list",data := .seq its'.toArray n' }) (r : Vals ys its') (hz : ys.length ≤ sizeLine) (t : Nat) :
 Inv X pins σ (upd H p (.lst ys)) { s with heap := s.heap.update p f,toks := t } := by
 have e : (s.heap.update p f).get? p = some { cls := .type "list",data := .seq its'.toArray n' } := by
  rw [Heap.get?_update_self f ho (by rw [hf] <;> rfl),hf]
 refine I.write (x := p) (e := p) (by rw [h]; trivial) (.inl rfl) (fun b u hb q => (Heap.get?_update_other _ _ (Ne.symm hb)).trans q) ⟨_,e⟩ ?_
 exact ⟨hz,its',n',r,e⟩
noncomputable def rSetL : V → V → V → Hp → (Hp → Prop) → Prop := fun o i v H Q => ∃ p xs k j,o = .ref p ∧ i = .int k ∧ H p = some (.lst xs) ∧ ixN xs.length k = some j ∧ Q (upd H p (.lst (xs.set j v)))
theorem zfV : PSet X rSetL := by
 intro pins s σ H o i v ov iv u Q I ro ri rv h
 obtain ⟨p,xs,k,j,rfl,rfl,hp,hj,q⟩ := h
 cases ro
 obtain ⟨t,rfl⟩ := ri
 obtain ⟨its,n,r,ho,hz⟩ := I.lst hp
 obtain ⟨h1,h2,h3,h4⟩ := zeX hj
 have hl := r.length
 have hn := zah
 have I' : Inv X pins σ (upd H p (.lst (xs.set j v))) { s with heap := s.heap.update p (Obj.mapSeq (·.setIfInBounds j u)) } :=
  I.lstUpd hp ho (zdM its n j u) (r.set rv j) (by rw [List.length_set]; exact hz) s.toks
 by_cases h0 : 0 ≤ k
 ·have hk : k.toNat = j := by
   rw [seqIndex_of h0 h4] at h1
   exact Option.some.inj h1
  exact PySem.W.ki_setAt ho h0 (by lia) (by rw [List.size_toArray,← hl]; exact h4) (by rw [hk]; exact ⟨_,I',q⟩)
 ·have hk : (k + (its.toArray.size : Int)).toNat = j := by
   rw [seqIndex_neg (by lia) h3] at h1
   rw [List.size_toArray,← hl]
   exact Option.some.inj h1
  exact PySem.W.ki_setBack ho (by lia) (by rw [List.size_toArray,← hl]; exact h3) (by lia) (by rw [hk]; exact ⟨_,I',q⟩)
theorem zbk (lo hi : Option Int) (n : Nat) : (sliceBounds lo hi none n).1 = ((HT.sIx n 0 lo : Nat) : Int) ∧ (sliceBounds lo hi none n).2.1 = ((HT.sIx n n hi : Nat) : Int) ∧ (sliceBounds lo hi none n).2.2 = 1 := by
 refine ⟨?_,?_,rfl⟩
 ·cases lo with
  | none => simp [sliceBounds,HT.sIx]
  | some i =>
    simp only [sliceBounds,HT.sIx,Option.getD_none,show (1 : Int) > 0 by decide,if_true]
    by_cases h : i < 0
    ·simp only [h,if_true] <;> lia
    ·simp only [h,if_false] <;> lia
 ·cases hi with
  | none => simp [sliceBounds,HT.sIx]
  | some i =>
    simp only [sliceBounds,HT.sIx,Option.getD_none,show (1 : Int) > 0 by decide,if_true]
    by_cases h : i < 0
    ·simp only [h,if_true] <;> lia
    ·simp only [h,if_false] <;> lia
theorem zay (its : List Value) (lo hi : Option Int) : slicePick its.toArray lo hi none = ((its.drop (HT.sIx its.length 0 lo)).take (HT.sIx its.length its.length hi - HT.sIx its.length 0 lo)).toArray := by
 obtain ⟨h1,h2,h3⟩ := zbk lo hi its.toArray.size
 unfold slicePick
 rw [h1,h2,h3]
 simp only [sliceRange_one,pick_run,List.size_toArray] <;> rfl
noncomputable def rSlL (K : PySem.W.Frag) : V → Option Int → Option Int → Hp → VK → Prop := fun x lo hi H Q => ∃ a xs,x = .ref a ∧ SqL K H a xs ∧ ∀ p,H p = none → Q (.ref p) (upd H p (.lst (cutV xs lo hi)))
theorem zef : SlR X (rSlL X.K) := by
 intro pins s σ H x v vl vu lo hi sl Q I rx hs pl pu h
 obtain ⟨a,xs,rfl,hx,q⟩ := h
 cases rx
 obtain ⟨its,r,ht,hz⟩ := I.list hx
 have hlen := r.length
 refine ⟨"list",_,slot_list_getitem.lookup,ht.isList.typeIs,?_⟩
 refine wpAny_getItem_list_slice ht.isList hs pl pu .none (by simp) ?_ (by rw [List.size_toArray] <;> lia)
 rw [zay,← hlen]
 refine ⟨.ref s.heap.objs.size,_,I.laid (t' := s.toks) (o := .lst (cutV xs lo hi)) (fun b ob q => Heap.get?_push_of_some _ q) (Nat.le_refl _) ?_,rfl,q _ (I.hok.fresh (Nat.le_refl _))⟩
 exact ⟨Nat.le_trans (tx xs lo hi) hz,_,0,(r.drop (HT.sIx xs.length 0 lo)).take (HT.sIx xs.length xs.length hi - HT.sIx xs.length 0 lo),Heap.get?_push_size _ rfl⟩
theorem yb : ui X (.builtin "len") (fun xs H Q => ∃ p ys,xs = [.ref p] ∧ (SqL X.K H p ys ∨ SqT X.K H p ys) ∧ Q (.int ys.length) H) := by
 intro pins s σ H xs us Q I r h
 obtain ⟨p,ys,rfl,hq,q⟩ := h
 obtain ⟨u,rfl,rx⟩ := zav r
 cases rx
 have hn := zah
 rcases hq with hq | hq
 ·obtain ⟨its,r',pl,hz⟩ := I.list hq
  have hlen := r'.length
  exact Calls.call_len_list pl.isList (by simp only [List.size_toArray] <;> lia) ⟨.int ys.length,H,I.tok _,⟨s.toks + 1,by rw [List.size_toArray,hlen]⟩,q⟩
 ·obtain ⟨its,r',pl,hz⟩ := I.tuple hq
  have hlen := r'.length
  exact len_tuple pl (by simp only [List.size_toArray] <;> lia) ⟨.int ys.length,H,I.tok _,⟨s.toks + 1,by rw [List.size_toArray,hlen]⟩,q⟩
theorem wB : ui X (.type "list") (fun xs H Q => ∃ p ys,xs = [.ref p] ∧ (SqL X.K H p ys ∨ SqT X.K H p ys) ∧ ∀ l,H l = none → Q (.ref l) (upd H l (.lst ys))) := by
 intro pins s σ H xs us Q I r h
 obtain ⟨p,ys,rfl,hq,q⟩ := h
 obtain ⟨u,rfl,rx⟩ := zav r
 cases rx
 have fin : ∀ (its : List Value),Vals ys its → ys.length ≤ sizeLine → ∀ (h' : Heap) (c' : Nat),(∀ b o',s.heap.get? b = some o' → h'.get? b = some o') →
  h'.get? s.heap.objs.size = some { cls := .type "list",dict := none,data := .seq its.toArray c',slots := #[] } → EP X pins σ Q (.ref s.heap.objs.size) { s with heap := h' } := fun its r' hz h' c' kp e =>
  ⟨.ref s.heap.objs.size,_,I.laid (t' := s.toks) kp (Nat.le_refl _) (show vb X.prog X.w _ h' _ (.lst ys) from ⟨hz,its,c',r',e⟩),rfl,q _ (I.hok.fresh (Nat.le_refl _))⟩
 rcases hq with hq | hq
 ·obtain ⟨its,r',pl,hz⟩ := I.list hq
  have hlen := r'.length
  obtain ⟨o,ho,hc,n,hd⟩ := pl.isList
  exact call_list_seq p (.inl rfl) ho hc hd (fun h' c' kp e => fin its r' hz h' c' kp e) (by simp only [List.size_toArray] <;> lia)
 ·obtain ⟨its,r',pl,hz⟩ := I.tuple hq
  have hlen := r'.length
  obtain ⟨o,ho,hc,n,hd⟩ := pl
  exact call_list_seq p (.inr rfl) ho hc hd (fun h' c' kp e => fin its r' hz h' c' kp e) (by simp only [List.size_toArray] <;> lia)
noncomputable def tyV (K : PySem.W.Frag) (T : String) (x : V) (H : Hp) : Prop := match x with
 | .str _ => T = "str"
 | .int _ => T = "int"
 | .ref p => (T = "list" ∧ ∃ xs,SqL K H p xs) ∨ (T = "tuple" ∧ ∃ o,K.lookup p = some o ∧ o.cls = .type "tuple" ∧ o.dict = none) ∨
  (T = "dict" ∧ ((∃ kvs,H p = some (.dK kvs)) ∨ ∃ kvs,H p = some (.dT kvs))) ∨ (T = "set" ∧ ∃ S n,H p = some (.set S n))
 | _ => False
theorem zgM {pins : List (Addr × Obj)} {σ : St} {H : Hp} {s : Shared} {T : String} {x : V} {v : Value} (I : Inv X pins σ H s) (r : RelV x v) (ty : tyV X.K T x H) :
 s.TypeIs v T ∧ ∀ a,v = .ref a → ∃ ob,s.heap.get? a = some ob ∧ ob.dict = none := by
 cases x with
 | str z =>
   obtain ⟨t,rfl⟩ := r
   cases (show T = "str" from ty)
   exact ⟨typeIs_str s z t,fun _ e => nomatch e⟩
 | int i =>
   obtain ⟨t,rfl⟩ := r
   cases (show T = "int" from ty)
   exact ⟨typeIs_int s i t,fun _ e => nomatch e⟩
 | ref p =>
   cases r
   rcases ty with ⟨rfl,xs,hq⟩ | ⟨rfl,o,hk,hc,hd⟩ | ⟨rfl,hk⟩ | ⟨rfl,S,n,hk⟩
   ·obtain ⟨its,_,pl,_⟩ := I.list hq
    refine ⟨pl.isList.typeIs,fun a e => ?_⟩
    cases e
    obtain ⟨o,n,e,c,hd,_⟩ := pl
    exact ⟨o,e,hd⟩
   ·refine ⟨⟨o,I.kIn p o hk,hc⟩,fun a e => ?_⟩
    cases e
    exact ⟨o,I.kIn _ o hk,hd⟩
   ·have z : ∃ o,s.heap.get? p = some o ∧ o.ExactDict := by
     rcases hk with ⟨kvs,hk⟩ | ⟨kvs,hk⟩
     ·obtain ⟨_,_,_,_,o,_,_,e,ex,_⟩ := I.hok p _ hk
      exact ⟨o,e,ex⟩
     ·obtain ⟨_,_,_,_,o,_,_,e,ex,_⟩ := I.hok p _ hk
      exact ⟨o,e,ex⟩
    obtain ⟨o,e,ex⟩ := z
    refine ⟨⟨o,e,ex.1⟩,fun a e2 => ?_⟩
    cases e2
    exact ⟨o,e,ex.2.1⟩
   ·obtain ⟨o,_,_,_,e,ex,_⟩ := I.hok p _ hk
    refine ⟨⟨o,e,ex.1⟩,fun a e2 => ?_⟩
    cases e2
    exact ⟨o,e,ex.2.1⟩
 | _ => exact False.elim ty
noncomputable def tBM0 (K : PySem.W.Frag) (T : String) (r : V → List V → Hp → VK → Prop) (to : TE) : TE := fun σ H Q => to σ H fun x H1 => tyV K T x H1 ∧ r x [] H1 Q
noncomputable def tBM (K : PySem.W.Frag) (T : String) (r : V → List V → Hp → VK → Prop) (to : TE) (t : TA) : TE := fun σ H Q => to σ H fun x H1 => tyV K T x H1 ∧ t σ H1 fun xs H2 => r x xs H2 Q
variable {o e : Expr} {es : List Expr} {to : TE} {t : TA} {name : Str} {apos cpos : Pos} {T id : String} {r : V → List V → Hp → VK → Prop}
theorem zgV (pa : PlainAttrs T) (slot : Slot T name id) (hty : typeOf (.builtin id) = pure (.type "method_descriptor")) (hm : MtR X id r) (ho : PE X o to)
 (hbase : attributeBase o name X.env (eval o X.env) = eval o X.env := by rfl) (hline : (apos.endLine == cpos.line) = true := by rfl) : PE X (.Call (.Attribute o name apos) [] [] cpos) (tBM0 X.K T r to) := by
 intro pins s σ H Q I h
 refine wpAny_Call_method0_late hbase hline (thn (ho pins s σ H _ I h) fun v s1 ⟨x,H1,I1,r1,ty,q1⟩ => ?_)
 obtain ⟨h1,h2⟩ := zgM I1 r1 ty
 exact ⟨T,id,pa,slot,hty,h1,h2,Calls.callWith_builtin rfl (PySem.evalArgs_none (hm pins s1 σ H1 x [] v [] Q I1 r1 .nil q1))⟩
theorem zhH (pa : PlainAttrs T) (slot : Slot T name id) (hty : typeOf (.builtin id) = pure (.type "method_descriptor")) (hm : MtR X id r) (ho : PE X o to) (ha : PA X (e :: es) t)
 (hbase : attributeBase o name X.env (eval o X.env) = eval o X.env := by rfl)
 (hfew : ((backTo cpos (starEach (e :: es) X.env)).all (fun x => !x.1) && (backToKw cpos (keywordEach [] X.env)).all (fun x => x.1.isSome)
  && decide ((e :: es).length + ([] : List Keyword).length + (if ([] : List Keyword).isEmpty then 0 else 1) < 30)) = true := by rfl)
 (hline : (apos.endLine == cpos.line) = true := by rfl) (hs : starEach (e :: es) X.env = (false,eval e X.env) :: starEach es X.env := by rfl) (hplain : (backTo cpos (starEach es X.env)).any (·.1) = false := by rfl) :
 PE X (.Call (.Attribute o name apos) (e :: es) [] cpos) (tBM X.K T r to t) := by
 intro pins s σ H Q I h
 refine wpAny_Call_method_late hbase hfew hline rfl (thn (ho pins s σ H _ I h) fun v s1 ⟨x,H1,I1,r1,ty,q1⟩ => ?_)
 obtain ⟨h1,h2⟩ := zgM I1 r1 ty
 refine ⟨T,id,pa,slot,hty,h1,h2,?_⟩
 have hA := ha cpos pins s1 σ H1 _ I1 q1
 rw [hs] at hA ⊢
 refine Calls.callWith_builtin (by show (false || (backTo cpos (starEach es X.env)).any (·.1)) = false; rw [hplain] <;> rfl) (Calls.evalArgs_plain ?_)
 exact thn hA fun us s2 ⟨vs,H2,I2,r2,q2⟩ => hm pins s2 σ H2 x vs v us Q I2 r1 r2 q2
end
end L2
namespace L2
open PySem PySem.Spec PyProof.Rows
noncomputable def MtM (X : Cx) (id : String) (r : V → List V → Hp → VK → Prop) : Prop :=
 ∀ (pins : List (Addr × Obj)) (s : Shared) (σ : St) (H : Hp) (x : V) (xs : List V) (v : Value) (us : List Value) (Q : VK),Inv X pins σ H s → RelV x v → Vals xs us → r x xs H Q →
   wpAny (model X.prog X.w) X.A (call (.builtin id) (v :: us)) (EP X pins σ Q) X.xe s
theorem Vals.one : ∀ {x : V} {us : List Value},Vals [x] us → ∃ u,us = [u] ∧ RelV x u
 | _,_,.cons r .nil => ⟨_,rfl,r⟩
theorem Vals.zero : ∀ {us : List Value},Vals [] us → us = []
 | _,.nil => rfl
theorem Vals.dropLast {xs : List V} {us : List Value} (h : Vals xs us) : Vals xs.dropLast us.dropLast := by
 induction h with
 | nil => exact .nil
 | cons r t ih =>
   cases t with
   | nil => exact .nil
   | cons q t' => exact .cons r ih
theorem zdO {α : Type} (l : List α) : l.eraseIdx (l.length - 1) = l.dropLast := by
 induction l with
 | nil => rfl
 | cons a r ih =>
   cases r with
   | nil => rfl
   | cons b r =>
     have e : (a :: b :: r).length - 1 = ((b :: r).length - 1) + 1 := by
      have h1 : (a :: b :: r).length = r.length + 2 := rfl
      have h2 : (b :: r).length = r.length + 1 := rfl
      lia
     rw [e,List.eraseIdx_cons_succ,ih]
     all_goals rfl
section
variable {X : Cx} {pins : List (Addr × Obj)} {σ : St} {H : Hp} {s : Shared} {l b : Addr} {xs ys zs : List V}
theorem Inv.lset {its its' : List Value} {n : Nat} {f : Array Value → Array Value} {t' : Nat} (I : Inv X pins σ H s) (hH : H l = some (.lst xs))
 (e : s.heap.get? l = some { cls := .type "list",data := .seq its.toArray n }) (hf : f its.toArray = its'.toArray) (hv : Vals ys its') (hz : ys.length ≤ sizeLine) :
 Inv X pins σ (upd H l (.lst ys)) { s with heap := s.heap.update l (Obj.mapSeq f),toks := t' } := by
 have q := PySem.IsL.update e f
 rw [hf] at q
 refine I.write (x := l) (e := l) (by rw [hH]; exact trivial) (.inl rfl) (fun b' u hb hu => (Heap.get?_update_other s.heap (Obj.mapSeq f) (Ne.symm hb)).trans hu) ⟨_,q⟩ ?_
 exact ⟨hz,its',_,hv,q⟩
theorem Inv.lnew {its : List Value} {t' : Nat} (I : Inv X pins σ H s) (hv : Vals ys its) (hz : ys.length ≤ sizeLine) :
 Inv X pins σ (upd H s.heap.objs.size (.lst ys)) { s with heap := s.heap.push { cls := .type "list",data := .seq its.toArray },toks := t' } :=
 I.laid (fun _ _ q => Heap.get?_push_of_some _ q) (Nat.le_refl _) ⟨hz,its,0,hv,Heap.get?_push_size _ rfl⟩
theorem Inv.fresh (I : Inv X pins σ H s) : H s.heap.objs.size = none := I.hok.fresh (Nat.le_refl _)
theorem Inv.lstM (I : Inv X pins σ H s) (hH : H l = some (.lst xs)) : xs.length ≤ sizeLine ∧ ∃ (its : List Value) (n : Nat),Vals xs its ∧ xs.length = its.length ∧ s.heap.get? l = some { cls := .type "list",data := .seq its.toArray n } := by
 obtain ⟨z,its,n,r,e⟩ := I.hok l _ hH
 exact ⟨z,its,n,r,r.length,e⟩
theorem zaJ {n : Nat} (h : n ≤ sizeLine) : Builtin.List.listTooLong n = false := by
 unfold Builtin.List.listTooLong
 exact decide_eq_false (by lia)
end
section
variable {X : Cx}
noncomputable def zht : V → List V → Hp → VK → Prop := fun x vs H Q => ∃ l xs y,x = .ref l ∧ vs = [y] ∧ H l = some (.lst xs) ∧ xs.length < sizeLine ∧ Q .non (upd H l (.lst (xs ++ [y])))
theorem uR : MtM X "list.append" zht := by
 intro pins s σ H x vs v us Q I rx rv h
 obtain ⟨l,xs,y,rfl,rfl,hH,hz,q⟩ := h
 cases rx
 obtain ⟨u,rfl,ru⟩ := rv.one
 obtain ⟨z,its,n,r,hl,e⟩ := I.lstM hH
 refine call_meets F.slot_list_append ⟨_,e,rfl⟩ F.entry_list_append (F.args_list_append_2 _ _) (PySem.list_append l its.toArray n u (by rw [List.size_toArray]; lia)) ⟨e,?_⟩
 refine ⟨.non,_,I.lset (its' := its ++ [u]) hH e (by simp) (r.append (.cons ru .nil)) ?_,rfl,q⟩
 rw [List.length_append,List.length_singleton]
 lia
noncomputable def zeu : V → List V → Hp → VK → Prop := fun x vs H Q => ∃ l b xs zs,x = .ref l ∧ vs = [.ref b] ∧ H l = some (.lst xs) ∧ H b = some (.lst zs) ∧ xs.length + zs.length ≤ sizeLine ∧ Q .non (upd H l (.lst (xs ++ zs)))
theorem zeL : MtM X "list.extend" zeu := by
 intro pins s σ H x vs v us Q I rx rv h
 obtain ⟨l,b,xs,zs,rfl,rfl,hH,hB,hz,q⟩ := h
 cases rx
 obtain ⟨u,rfl,ru⟩ := rv.one
 cases ru
 obtain ⟨z,its,n,r,hl,e⟩ := I.lstM hH
 obtain ⟨z2,its2,n2,r2,hl2,e2⟩ := I.lstM hB
 have hsz : its.toArray.size + its2.toArray.size ≤ sizeLine := by rw [List.size_toArray,List.size_toArray]; lia
 have hlong : ¬ (!its.toArray.isEmpty && Builtin.List.listTooLong (its.toArray.size + its2.toArray.size)) = true := by
  rw [zaJ hsz,Bool.and_false]
  exact Bool.false_ne_true
 refine call_meets F.slot_list_extend ⟨_,e,rfl⟩ F.entry_list_extend (F.args_list_extend_2 _ _)
  (AutoSeq1.list_extend_list_list_0 l its.toArray n b its2.toArray n2 hlong (by rw [List.size_toArray]; lia) (by lia)) ⟨e,e2,?_⟩
 refine ⟨.non,_,I.lset (its' := its ++ its2) hH e (by simp) (r.append r2) ?_,rfl,q⟩
 rw [List.length_append]
 lia
noncomputable def rPop : V → List V → Hp → VK → Prop := fun x vs H Q => ∃ l xs y,x = .ref l ∧ vs = [] ∧ H l = some (.lst xs) ∧ xs[xs.length - 1]? = some y ∧ Q y (upd H l (.lst xs.dropLast))
theorem zgY : MtM X "list.pop" rPop := by
 intro pins s σ H x vs v us Q I rx rv h
 obtain ⟨l,xs,y,rfl,rfl,hH,hy,q⟩ := h
 cases rx
 have hus := rv.zero
 subst hus
 obtain ⟨z,its,n,r,hl,e⟩ := I.lstM hH
 obtain ⟨u,hu,ru⟩ := r.get hy
 have hy' : its.toArray[its.toArray.size - 1]? = some u := by
  show its.toArray[its.length - 1]? = some u
  rw [← Array.getElem?_toList,← hl]
  exact hu
 refine call_meets F.slot_list_pop ⟨_,e,rfl⟩ F.entry_list_pop (F.args_list_pop_1 _) (MeetsSeq.list_pop_last l its.toArray n u hy' (by rw [List.size_toArray]; lia)) ⟨e,?_⟩
 refine ⟨y,_,I.lset (its' := its.dropLast) hH e ?_ r.dropLast ?_,ru,q⟩
 ·show its.toArray.eraseIdxIfInBounds (its.toArray.size - 1) = its.dropLast.toArray
  rw [List.size_toArray,List.eraseIdxIfInBounds_toArray,zdO]
 ·rw [List.length_dropLast]
  lia
noncomputable def rCat : R2 := fun x y H Q => ∃ l b xs zs,x = .ref l ∧ y = .ref b ∧ H l = some (.lst xs) ∧ H b = some (.lst zs) ∧ xs.length + zs.length ≤ sizeLine ∧ ∀ p,H p = none → Q (.ref p) (upd H p (.lst (xs ++ zs)))
theorem zi1 : OpR X (binaryOp .Add) rCat := by
 intro pins s σ H x y v u Q I rx ry h
 obtain ⟨l,b,xs,zs,rfl,rfl,hH,hB,hz,q⟩ := h
 cases rx
 cases ry
 obtain ⟨z,its,n,r,hl,e⟩ := I.lstM hH
 obtain ⟨z2,its2,n2,r2,hl2,e2⟩ := I.lstM hB
 refine PySem.P.add_list e e2 ?_ (by rw [List.size_toArray,List.size_toArray]; lia)
 have ea : its.toArray ++ its2.toArray = (its ++ its2).toArray := by simp
 rw [ea]
 exact ⟨.ref _,_,I.lnew (t' := s.toks) (r.append r2) (by rw [List.length_append]; lia),rfl,q _ I.fresh⟩
end
section
variable {prog : Program} {w : World} {A : Around} {E : Value → Shared → Prop} {s : Shared}
theorem zdS {a c n : Nat} (hac : a ≤ c) (hc : c ≤ n) : sliceBounds (some (a : Int)) (some (c : Int)) none n = ((a : Int),(c : Int),1) := by
 simp only [sliceBounds,Option.getD_none]
 have h1 : ¬ ((a : Int) < 0) := by lia
 have h2 : ¬ ((c : Int) < 0) := by lia
 simp only [h1,h2,if_false,show (1 : Int) > 0 by decide,if_true]
 congr 1
 ·lia
 ·congr 1; lia
set_option maxRecDepth 100000 in
theorem zfX {l b sl : Addr} {items new : Array Value} {n n2 : Nat} {vl vu : Value} {a c : Nat} {Q : Unit → Shared → Prop}
 (e : s.heap.get? l = some { cls := .type "list",data := .seq items n }) (e2 : s.heap.get? b = some { cls := .type "list",data := .seq new n2 }) (hne : l ≠ b)
 (hs : s.heap.IsSliceOf sl vl vu .none) (pl : IsPart vl (some (a : Int))) (pu : IsPart vu (some (c : Int))) (hac : a ≤ c) (hc : c ≤ items.size)
 (hsz : items.size + new.size ≤ sizeLine) (h : Q () { s with heap := s.heap.update l (Obj.mapSeq fun xs => xs.extract 0 a ++ new ++ xs.extract c xs.size) }) :
 wpAny (model prog w) A (setItem (.ref l) (.ref sl) (.ref b)) Q E s := by
 have hl : s.heap.IsList l items := PySem.IsL.isList e
 have hb : s.heap.IsList b new := PySem.IsL.isList e2
 obtain ⟨os,hos,hcs,hds⟩ := id hs
 have hTs : s.TypeIs (.ref sl) "slice" := ⟨os,hos,hcs⟩
 have hstep : ¬ ((rawPart none == rawInt 0) = true) := Bool.false_ne_true
 have hsame : Builtin.List.listSameRef (.ref l) (.ref b) = false := by
  unfold Builtin.List.listSameRef
  exact beq_eq_false_iff_ne.mpr hne
 have hmax : (max (a : Int) (c : Int)).toNat = c := by lia
 have hz' : ((fun xs : Array Value => xs.extract 0 a ++ new ++ xs.extract c xs.size) items).size ≤ sizeLine + 1 := by
  simp only [Array.size_append,Array.size_extract]
  lia
 unfold setItem
 try with_reducible refine wpAny_holding ?_
 first | refine wpAny_bind (wpAny_pure ?_) | skip
 refine wpAny_bind (wpAny_sequenceKey hl.typeIs (by decide) ?_)
 refine wpAny_bind (wpAny_callSpecial?_slot (name := Str.ofString "__setitem__") hl.typeIs slot_list_setitem
  (wpAny_call_entry slot_list_setitem hl.typeIs entry_list_setitem ?_ (args_list_setitem _ _ _)))
 show wpAny _ _ (Builtin.List.listSubscript? (.ref sl) >>= _) _ _ s
 refine wpAny_bind ?_
 unfold Builtin.List.listSubscript?
 refine wpAny_bind (wpAny_specialOf hTs slice_no_index ?_)
 simp only [Option.isNone_none,if_true]
 refine wpAny_pure ?_
 show wpAny _ _ (typeOf (.ref sl) >>= _) _ _ s
 refine wpAny_bind (wpAny_typeOf hTs ?_)
 first
  | rw [if_neg (by decide)]
  | refine PySem.W.KFB.if_not (by decide) ?_
 rw [listSliceParts_eq]
 refine wpAny_bind (wpAny_bind (wpAny_field hos hds (x := .none) rfl (wpAny_bind (wpAny_listPart .none ?_))))
 rw [if_neg hstep]
 refine wpAny_bind (wpAny_field hos hds (x := vl) rfl (wpAny_bind (wpAny_listPart pl ?_)))
 refine wpAny_bind (wpAny_field hos hds (x := vu) rfl (wpAny_bind (wpAny_listPart pu (wpAny_pure ?_))))
 first
  | simp only [hsame,Bool.false_eq_true,if_false]
  | refine PySem.W.KFB.if_not hsame ?_
  | (dsimp only
     rw [if_neg (by rw [hsame]; exact Bool.false_ne_true)])
 refine wpAny_bind (m := Builtin.List.listAllItems (.ref b) "must assign iterable to extended slice") ?_
 unfold Builtin.List.listAllItems
 refine wpAny_bind (wpAny_typeOf hb.typeIs ?_)
 first
  | refine PySem.W.KFB.if_so (by decide) ?_
  | rw [if_pos (by decide)]
  | simp only [beq_self_eq_true,Bool.true_or,if_true]
 unfold Builtin.List.listItems
 refine wpAny_bind (wpAny_seqItems e2 rfl (wpAny_pure ?_))
 refine wpAny_bind (wpAny_bind (wpAny_seqItems e rfl (wpAny_pure ?_)))
 refine wpAny_bind (wpAny_of_eq ((sliceIndices_raw (some (a : Int)) (some (c : Int)) none items.size (by simp)).trans (congrArg (pure : Int × Int × Int → Sem (Int × Int × Int)) (zdS hac hc))) ?_)
 show wpAny _ _ (if ((1 : Int) == 1) = true then _ else _) _ _ s
 rw [if_pos (by decide)]
 refine wpAny_bind (wpAny_rule ?_)
 first
  | simp only [zaJ hsz,Bool.false_eq_true,if_false]
  | refine PySem.W.KFB.if_not (zaJ hsz) ?_
 first | refine wpAny_bind (wpAny_pure ?_) | skip
 show wpAny _ _ (updateSeq l (fun xs => xs.extract 0 ((a : Int)).toNat ++ new ++ xs.extract (max (a : Int) (c : Int)).toNat xs.size) >>= _) _ _ s
 rw [hmax,Int.toNat_natCast]
 refine wpAny_bind (wpAny_updateSeq (hz := Nat.le_trans (Nat.le_add_right _ _) hsz) (_hz' := hz') e rfl ?_)
 refine wpAny_bind (wpAny_letGo ?_)
 first
  | exact wpAny_bind (wpAny_pure (wpAny_pure ⟨.none,rfl,wpAny_pure h⟩))
  | exact wpAny_pure ⟨.none,rfl,wpAny_pure h⟩
end
section
variable {X : Cx}
end
end L2
namespace Att
open PySem PySem.W PySem.Calls PyProof.Rows
theorem uY {P : Params} {h : Heap} : ∀ (ns : List Int) (vs : List Value),WellAll P h vs (ns.map WData.int) → IntsAre vs ns := by
 intro ns
 induction ns with
 | nil =>
   intro vs w
   rw [List.map_nil] at w
   cases w
   exact .nil
 | cons n ns ih =>
   intro vs w
   rw [List.map_cons] at w
   cases w with
   | cons a b =>
     cases a
     exact .cons _ _ (ih _ b)
theorem zej {l : OpenLaw} {n : Nat} (hn : l.most = some n) {P : Params} {h : Heap} {args : List WData} {vals : List Value}
 (hpre : l.row.toRowW.claim.pre args = true) (hwl : WellAll P h vals args) :
 ∃ a vs ns,vals = [Value.ref a] ∧ args = [WData.list (ns.map WData.int)] ∧ h.get? a = some { cls := .type "list",data := .seq vs.toArray } ∧ IntsAre vs ns ∧ ns.length ≤ n := by
 have hsh : WShape.hasAll [] args [.list .int] = true := (pre_splitW hpre).1
 have hc : l.pre.holds [] { args := args } = true := (pre_splitW hpre).2
 obtain ⟨d,r,rfl,h1,h2⟩ := hasAllW_cons hsh
 obtain rfl := hasAllW_nil h2
 obtain ⟨xs,rfl,h3⟩ := hasW_list h1
 obtain ⟨ns,rfl⟩ := items_int h3
 have hlen : ns.length ≤ n := by
  unfold OpenLaw.pre at hc
  have h4 : (WTm.not (.lt (.lit (.int (n : Int))) (.len (.arg 0)))).holds [] { args := [.list (ns.map .int)] } = true := by
   have h4 := (holds_andW hc).1
   rw [hn] at h4
   exact h4
  have h5 := condW_of h4 (w_not (w_lt w_lit (w_len_list (w_arg rfl))))
  rw [List.length_map] at h5
  refine Nat.le_of_not_lt fun q => ?_
  have q' : (n : Int) < ((ns.length : Nat) : Int) := by lia
  first
   | (rw [decide_eq_true q'] at h5; exact absurd h5 (by decide))
   | (simp at h5; lia)
 cases hwl with
 | cons w1 w2 =>
   cases w2
   cases w1 with
   | list ho hall => exact ⟨_,_,ns,rfl,rfl,ho,uY ns _ hall,hlen⟩
theorem zex (l : OpenLaw) (args : List WData) : l.row.toRowW.claim.post args (.bool true) args = true :=
 postW_of (r := l.row.toRowW) (X := (true == true))
  (show WShape.has [] (.bool true) .bool = true by first | rfl | decide | simp [WShape.has,WShape.arms,WShape.armsAll])
  (show (WTm.eq .res (.lit (.bool true))).value [] { args := args,res := some (.bool true),after := args } = some (.bool (true == true)) from w_eq_bool (w_res rfl) w_lit) rfl
theorem attach_call {l : OpenLaw} {n : Nat} {q : Program} {loose : List Str} {XP : (Str → Option Value) → Heap → Prop} {YP : World → Heap → Prop} {d : DefRec}
 (hn : l.most = some n) (hdf : d.params.defaults = [])
 (call : ∀ (w : World) (s₀ s₁ : Shared) (mg mb : Str → Option Value) (fa : Addr) (o : Obj) (pm cd doc : Value) (a : Addr) (vs : List Value) (ns : List Int),
  Ground q loose [] XP w s₀ mg mb s₁.heap → YP w s₁.heap →
  s₁.heap.get? fa = some o → o.data = .func (docDef d.name d.params d.body d.scope pm cd doc) → s₁.heap.CodeRec cd d.name → mg d.name = some (.ref fa) →
  s₁.heap.get? a = some { cls := .type "list",data := .seq vs.toArray } → IntsAre vs ns → ns.length ≤ n → s₁.gens = #[] →
  codeAny (model l.prog w) callerA (.call (.ref fa) ⟨[.ref a],[]⟩) (fun r s' => r = .ok (.ret (.bool true)) ∧ OldK s₁.heap s'.heap ∧ s'.os = s₁.os ∧ AllBare s'.gens) s₁) :
 WalkO q loose XP YP l.row.toRowW d [] (fun f vs => PySem.call f vs) := by
 intro w s₀ s₁ mg mb G Y fa o pm cd doc dV kV ho hd hcd hD hmg hg args vals as hpre hlay hrd hwl hlo
 obtain rfl : dV = .none := Dflts.none hD hdf
 obtain rfl : kV = .none := Dflts.noKw hD
 obtain ⟨a,vs,ns,rfl,rfl,hobj,hints,hlen⟩ := zej hn hpre hwl
 refine enter_call (codeAny_mono (call w s₀ s₁ mg mb fa o pm cd doc a vs ns G Y ho (fd_plain hd) hcd hmg hobj hints hlen hg) fun r s' hq => ?_)
 obtain ⟨rfl,h2,h3,h4⟩ := hq
 exact ⟨.inl ⟨.bool true,.bool true,[],rfl,fun _ => rfl,.bool true,zex l _,fun _ => ⟨List.Pairwise.nil,fun _ hm => (nomatch hm)⟩⟩,h2,h3,h4⟩
section
variable {prog : Program} {w : World} {A : Around} {E : Value → Shared → Prop} {s : Shared} {K : Frag}
end
end Att
namespace L2
open PySem PySem.Spec PyProof.Rows
theorem vf : ∀ {vs : List Value} {ns : List Int},IntsAre vs ns → Vals (ns.map V.int) vs
 | _,_,.nil => .nil
 | _,_,.cons n t h => .cons ⟨t,rfl⟩ (vf h)
noncomputable def Only (H : Hp) : Prop := ∀ b,H b = none ∨ ∃ o xs,H b = some (.frz o (.lst xs))
theorem zgp {P : Program} {w : World} {K : PySem.W.Frag} {mg mb : Str → Option Value} {CX : CXT} {k : Nat} {fa a : Addr} {fd : FuncData} {x : Str} {sp : Sp} {s₁ : Shared} {vs : List Value} {ns : List Int}
 (KX : K.In s₁.heap) (hns : s₁.heap.Ns mainGlobals mg) (hb : s₁.heap.Ns builtinsNs mb) (hbb : ∀ x : Str,x ≠ "__name__" → mb x = bootBuiltins x) (hlim : s₁.heap.NoLimit) (hg : s₁.gens = #[])
 (ha : s₁.heap.get? a = some { cls := .type "list",data := .seq vs.toArray }) (hi : IntsAre vs ns) (hl : ns.length ≤ sizeLine) (hr : Room k callerA)
 (F : ∀ base : Heap,K.In base → base.Ns mainGlobals mg → FnOk P w K mg base CX k fa fd [x] sp) (hbind : ∀ (s : Shared) (u : Value),BindsTo s fd ⟨[u],[]⟩ [(x,u)])
 (hsp : ∀ H : Hp,Only H → SqL K H a (ns.map V.int) → sp [.ref a] H (fun v _ => v = .bl true) fun _ _ _ => False)
 (hCX : ∀ H e s',CX [] H s₁ (fun _ _ _ => False) e s' → False) :
 codeAny (model P w) callerA (.call (.ref fa) ⟨[.ref a],[]⟩) (fun r s' => r = .ok (.ret (.bool true)) ∧ OldK s₁.heap s'.heap ∧ s'.os = s₁.os ∧ AllBare s'.gens) s₁ := by
 have rv := vf hi
 have lenV := hi.length
 have core : ∀ H : Hp,Only H → SqL K H a (ns.map V.int) → HOk P w H s₁.heap → (∀ b,H b ≠ none → b = a) → (H a ≠ none → K.lookup a = none) →
  codeAny (model P w) callerA (.call (.ref fa) ⟨[.ref a],[]⟩) (fun r s' => r = .ok (.ret (.bool true)) ∧ OldK s₁.heap s'.heap ∧ s'.os = s₁.os ∧ AllBare s'.gens) s₁ := by
  intro H hO hS hok hA hK
  have base_of : ∀ {b : Addr} {o : Obj},s₁.heap.get? b = some o → H b = none → (hidT s₁.heap H).get? b = some o := fun e n => zgt e n
  have noA : ∀ {b : Addr} {o : Obj} {es : Array DictEntry} {ep : Nat},s₁.heap.get? b = some o → o.data = .dict es ep → H b = none := fun {b o es ep} e d => by
   cases q : H b with
   | none => rfl
   | some u =>
     have e' : b = a := hA b (by rw [q]; simp)
     subst e'
     rw [ha] at e; cases e
     have d' : Data.seq vs.toArray _ = Data.dict es ep := d
     cases d'
  have nsK : ∀ {b : Addr} {m : Str → Option Value},s₁.heap.Ns b m → (hidT s₁.heap H).Ns b m := fun {b m} ⟨o,es,ep,e,d,r⟩ => ⟨o,es,ep,base_of e (noA e d),d,r⟩
  have hKb : K.In (hidT s₁.heap H) := fun b o e => base_of (KX b o e) (by
   cases q : H b with
   | none => rfl
   | some u =>
     have e' : b = a := hA b (by rw [q]; simp)
     subst e'
     rw [hK (by rw [q]; simp)] at e; cases e)
  have hM : Mod K mg (hidT s₁.heap H) := ⟨hKb,nsK hns,⟨mb,nsK hb,hbb⟩,let ⟨mc,h1,h2⟩ := hlim; ⟨mc,nsK h1,h2⟩⟩
  have e0 : Env0 P w K mg (hidT s₁.heap H) callerA [] s₁ H := ⟨rfl,hM,fun b o e => zhM e,Nat.le_of_eq (ze1 _ _),trivial,fun b hb => absurd (show b ∈ ([] : List Addr) from hb) (by simp),hok,.of_eq hg⟩
  refine codeAny_mono ((F _ hKb (nsK hns)).run callerA [] s₁ H ⟨[.ref a],[]⟩ [.ref a] [.ref a] _ _ hr e0 (hbind s₁ (.ref a)) (.cons rfl .nil) (hsp H hO hS)) fun r s' h => ?_
  cases r with
  | error e => exact (hCX H e s' h).elim
  | ok fl =>
    cases fl with
    | next => exact False.elim h
    | brk => exact False.elim h
    | cont => exact False.elim h
    | ret u =>
      obtain ⟨v,H',os,bare,un,hok',r',q⟩ := h
      have q' : v = .bl true := q
      subst q'
      obtain rfl : u = Value.bool true := r'
      refine ⟨rfl,OldK.of_keep fun b o e => ?_,os,bare⟩
      cases q : H b with
      | none => exact un.keep b o e q (by intro z; exact absurd (show b ∈ ([] : List Addr) from z) (by simp)) (by simp)
      | some u =>
        rcases hO b with z | ⟨ob,xs,z⟩
        ·rw [q] at z; cases z
        ·have z2 := un.frzs b ob _ z
         obtain ⟨e1,_⟩ := hok b _ z
         obtain ⟨e2,_⟩ := hok' b _ z2
         rw [e] at e1; cases e1
         exact e2
 cases hk : K.lookup a with
 | some o =>
   have e := KX a o hk
   rw [ha] at e
   cases e
   refine core (fun _ => none) (fun _ => .inl rfl) (.inr ⟨_,vs.toArray,_,hk,rfl,rfl,rfl,by rw [List.size_toArray,lenV]; exact hl,by simpa using rv⟩) (fun b u z => by have z' : (none : Option HO) = some u := z; cases z') (fun b z => absurd rfl z) fun z => absurd rfl z
 | none =>
   refine core (fun b => if b = a then some (.frz { cls := .type "list",data := .seq vs.toArray } (.lst (ns.map V.int))) else none) (fun b => ?_) (.inl (.inr ⟨{ cls := .type "list",data := .seq vs.toArray },if_pos rfl⟩)) (fun b u z => ?_) (fun b z => ?_) fun _ => hk
   ·by_cases hb : b = a
    ·exact .inr ⟨_,_,if_pos hb⟩
    ·exact .inl (if_neg hb)
   ·by_cases hb : b = a
    ·have z' := (if_pos hb).symm.trans z
     cases z'
     subst hb
     exact ⟨ha,by rw [List.length_map]; exact hl,vs,_,rv,ha⟩
    ·have z' := (if_neg hb).symm.trans z
     cases z'
   ·by_cases hb : b = a
    ·exact hb
    ·exact absurd (if_neg hb) z
end L2
namespace L2
open PySem PySem.Spec PyProof.Rows
theorem zau {l : PySem.W.OpenLaw} {n k : Nat} {q : Program} {loose : List Str} {XP : (Str → Option Value) → Heap → Prop} {YP : World → Heap → Prop} {d : DefRec} {K : Params → PySem.W.Frag} {CX : World → CXT} {sp : World → Sp} {x : Str}
 (hn : l.most = some n) (hn2 : n ≤ sizeLine) (hdf : d.params.defaults = []) (hr : Room k callerA)
 (hY : ∀ (w : World) (h : Heap),YP w h → (K w.params).In h)
 (F : ∀ (w : World) (mg : Str → Option Value) (fa : Addr) (h : Heap),(K w.params).In h → h.Ns mainGlobals mg → mg d.name = some (.ref fa) →
  ∃ fd : FuncData,(∀ (s : Shared) (u : Value),BindsTo s fd ⟨[u],[]⟩ [(x,u)]) ∧
    ∀ base : Heap,(K w.params).In base → base.Ns mainGlobals mg → FnOk l.prog w (K w.params) mg base (CX w) k fa fd [x] (sp w))
 (hsp : ∀ (w : World) (H : Hp) (a : Addr) (ns : List Int),ns.length ≤ n → Only H → SqL (K w.params) H a (ns.map V.int) → sp w [.ref a] H (fun v _ => v = .bl true) fun _ _ _ => False)
 (hCX : ∀ (w : World) (H : Hp) (s : Shared) (e : Value) (s' : Shared),CX w [] H s (fun _ _ _ => False) e s' → False) :
 PySem.W.WalkO q loose XP YP l.row.toRowW d [] (fun f vs => PySem.call f vs) := by
 refine Att.attach_call hn hdf fun w s₀ s₁ mg mb fa o pm cd doc a vs ns G Y ho hd hcd hmg hobj hints hlen hg => ?_
 have KX := hY w _ Y
 obtain ⟨fd,hb,hF⟩ := F w mg fa _ KX G.T.g hmg
 exact zgp KX G.T.g G.T.b G.T.builtins G.T.nolimit hg hobj hints (Nat.le_trans hlen hn2) hr hF hb (fun H hO hS => hsp w H a ns hlen hO hS) fun H e s' => hCX w H s₁ e s'
theorem zfL {l : PySem.W.OpenLaw} {n k : Nat} {q : Program} {loose : List Str} {XP : (Str → Option Value) → Heap → Prop} {YP : World → Heap → Prop} {d : DefRec} {K : Params → PySem.W.Frag} {CX : CXT} {sp : PySem.W.Frag → Sp} {x : Str}
 (hn : l.most = some n) (hn2 : n ≤ sizeLine) (hdf : d.params.defaults = []) (hr : Room k callerA)
 (hY : ∀ (w : World) (h : Heap),YP w h → (K w.params).In h)
 (F : ∀ (w : World) (mg : Str → Option Value) (fa : Addr) (h : Heap),(K w.params).In h → h.Ns mainGlobals mg → mg d.name = some (.ref fa) →
  ∃ fd : FuncData,(∀ (s : Shared) (u : Value),BindsTo s fd ⟨[u],[]⟩ [(x,u)]) ∧
    ∀ base : Heap,(K w.params).In base → base.Ns mainGlobals mg → FnOk l.prog w (K w.params) mg base CX k fa fd [x] (sp (K w.params)))
 (hsp : ∀ (K : PySem.W.Frag) (H : Hp) (a : Addr) (ns : List Int),ns.length ≤ n → Only H → SqL K H a (ns.map V.int) → sp K [.ref a] H (fun v _ => v = .bl true) fun _ _ _ => False)
 (hCX : ∀ (H : Hp) (s : Shared) (e : Value) (s' : Shared),CX [] H s (fun _ _ _ => False) e s' → False) :
 PySem.W.WalkO q loose XP YP l.row.toRowW d [] (fun f vs => PySem.call f vs) :=
 zau (K := K) (CX := fun _ => CX) (sp := fun w => sp (K w.params)) hn hn2 hdf hr hY F (fun w H a ns h1 h2 h3 => hsp (K w.params) H a ns h1 h2 h3) fun _ H s e s' => hCX H s e s'
end L2
namespace L2
open PySem PySem.Spec PyProof.Rows
noncomputable def defArgs (s : Stmt) : Arguments := match s with
 | .FunctionDef _ a _ _ _ _ _ _ _ _ => a
 | _ => { posonlyargs := [],args := [],vararg := none,kwonlyargs := [],kw_defaults := [],kwarg := none,defaults := [] }
noncomputable def defBody (s : Stmt) : List Stmt := match s with
 | .FunctionDef _ _ b _ _ _ _ _ _ _ => b
 | _ => []
noncomputable def defScope (s : Stmt) : Scope := match s with
 | .FunctionDef _ _ _ _ _ _ sc _ _ _ => sc
 | _ => { kind := .function,names := [],isGenerator := false,isCoroutine := false }
noncomputable abbrev CX0 : CXT := fun _ _ _ _ _ _ => False
noncomputable abbrev E0 : XK := fun _ _ _ => False
theorem pass0 {X : Cx} : zfH CX0 X E0 := fun _ _ _ _ _ _ _ h => h.elim
structure Fun (K : PySem.W.Frag) (x qual : Str) (st : Stmt) (f : Addr) (fd : FuncData) : Prop where
 ex : ∃ (oc : Value) (od : Option Addr) (kV doc pm : Value) (an : Option Addr) (cdv ct : Value) (osl : Array (Option Value)),
  fd = PySem.W.fnOf x qual (defArgs st) (defBody st) (defScope st) .none kV doc pm an cdv ct ∧ K.lookup f = some ⟨oc,od,.func fd,osl⟩ ∧ PySem.W.codeIn K cdv qual = true
 kp : PySem.W.keepIn K (.ref f) = true
section
variable {P : Program} {w : World} {K : PySem.W.Frag} {mg : Str → Option Value} {base : Heap}
theorem Fun.ok {x qual : Str} {st : Stmt} {f : Addr} {fd : FuncData} {N ps : List Str} {k : Nat} {sp : Sp} (F : Fun K x qual st f fd) (S : FnScope N ps (defScope st)) (len : ∀ vs H Q E,sp vs H Q E → vs.length = ps.length)
 (hbody : ∀ (cdv : Value) (A : Around) (outer : List Env) (s : Shared) (H : Hp) (vs : List V) (Q : VK) (E : XK),Room k (A.deeper (envOfC qual (defScope st) s.heap.objs.size f cdv)) → sp vs H Q E →
  ∃ t,PSs (cxOf CX0 P w K mg base N qual (defScope st) f cdv A outer s H E).nox (defBody st) t ∧ t { nx := fun _ H' => Q .non H',rt := Q } (uA N vs) H) : FnOk P w K mg base CX0 (k + 1) f fd ps sp := by
 obtain ⟨oc,od,kV,doc,pm,an,cdv,ct,osl,rfl,lk,hcd⟩ := F.ex
 refine fn_of lk hcd S len fun A outer s H vs Q E hr hsp => ?_
 obtain ⟨t,h,q⟩ := hbody cdv A outer s H vs Q E hr hsp
 exact ⟨t,h.nox,q⟩
theorem Fun.binds {x qual : Str} {st : Stmt} {f : Addr} {fd : FuncData} {ps : List Str} (F : Fun K x qual st f fd)
 (h : ∀ (kV doc pm : Value) (an : Option Addr) (cdv ct : Value) (us : List Value),us.length = ps.length → bindArgs (PySem.W.fnOf x qual (defArgs st) (defBody st) (defScope st) .none kV doc pm an cdv ct) ⟨us,[]⟩ = pure (ps.zip us)) : Binds K fd ps [] := by
 obtain ⟨oc,od,kV,doc,pm,an,cdv,ct,osl,rfl,lk,hcd⟩ := F.ex
 exact .all (h kV doc pm an cdv ct)
theorem yK {x qual : Str} {st : Stmt} {f : Addr} {oc : Value} {od an : Option Addr} {osl : Array (Option Value)} {kV doc pm cdv ct : Value} (l : K.lookup f = some ⟨oc,od,.func (PySem.W.fnOf x qual (defArgs st) (defBody st) (defScope st) .none kV doc pm an cdv ct),osl⟩)
 (c : PySem.W.codeIn K cdv qual = true) (k : PySem.W.keepIn K (.ref f) = true) : Fun K x qual st f (PySem.W.fnOf x qual (defArgs st) (defBody st) (defScope st) .none kV doc pm an cdv ct) := ⟨⟨oc,od,kV,doc,pm,an,cdv,ct,osl,rfl,l,c⟩,k⟩
end
section
variable {X : Cx}
theorem pv (i : Nat) {x : Str} {pos : Pos} (hN : X.N[i]? = some x := by rfl) (hv : Vis X.env.scope x := by first | exact Or.inl rfl | exact Or.inr (Or.inl rfl) | exact Or.inr (Or.inr rfl)) (hd : (x == ("__debug__" : Str)) = false := by decide)
 (hcd : (x == ("__classdict__" : Str)) = false := by decide) : PE X (.Name x pos) (tVar i) := ziN hN hv hd hcd
end
theorem iteF {A B : Prop} (h : B) : if false = true then A else B := by
 rw [if_neg Bool.false_ne_true]
 exact h
theorem iteT {A B : Prop} (h : A) : if true = true then A else B := by
 rw [if_pos rfl]
 exact h
noncomputable def Same (H H' : Hp) : Prop := ∀ b o,H b = some o → H' b = some o
theorem Same.refl (H : Hp) : Same H H := fun _ _ h => h
theorem Same.trans {H H1 H2 : Hp} (a : Same H H1) (b : Same H1 H2) : Same H H2 := fun c o h => b c o (a c o h)
theorem Same.free {H H' : Hp} (e : Same H H') {l : Addr} (h : H' l = Option.none) : H l = Option.none := by
 cases q : H l with
 | none => rfl
 | some o =>
   rw [e l o q] at h
   cases h
theorem Same.seq {K : PySem.W.Frag} {H H' : Hp} {a : Addr} {xs : List V} (e : Same H H') (h : SqL K H a xs) : SqL K H' a xs := by
 rcases h with (h | ⟨o,h⟩) | h
 ·exact .inl (.inl (e _ _ h))
 ·exact .inl (.inr ⟨o,e _ _ h⟩)
 ·exact .inr h
end L2
set_option maxHeartbeats 4000000
namespace DL
open PySem PySem.Spec PyProof.Rows L2
noncomputable abbrev St := L2.St
inductive D where
 | non
 | bl (b : Bool)
 | int (i : Int)
 | tup (ds : List D)
 | lst (ds : List D)
 | scr (ns : List Int)
 | exc (c : Str) (p : Option Int)
inductive Out (α : Type) where
 | bad
 | ok (a : α)
 | exc (c : Str) (p : Option Int)
noncomputable def Out.bind {α β : Type} (x : Out α) (f : α → Out β) : Out β :=
 match x with
 | .bad => .bad
 | .ok a => f a
 | .exc c p => .exc c p
@[simp] theorem zi {α β : Type} (a : α) (f : α → Out β) : (Out.ok a).bind f = f a := rfl
@[simp] theorem bind_bad {α β : Type} (f : α → Out β) : (Out.bad : Out α).bind f = .bad := rfl
@[simp] theorem bind_exc {α β : Type} (c : Str) (p : Option Int) (f : α → Out β) : (Out.exc c p : Out α).bind f = .exc c p := rfl
theorem zn {α β : Type} {x : Out α} {f : α → Out β} {b : β} (h : x.bind f = .ok b) : ∃ a,x = .ok a ∧ f a = .ok b := by
 cases x with
 | bad => cases h
 | ok a => exact ⟨a,rfl,h⟩
 | exc c p => cases h
inductive Val where
 | pers (d : D)
 | fresh (ds : List D)
 | brw (i : Nat) (ds : List D)
@[simp] noncomputable def Val.d : Val → D
  | .pers d => d
  | .fresh ds => .lst ds
  | .brw _ ds => .lst ds
@[simp] noncomputable def Val.hold : Val → Out D
  | .pers d => .ok d
  | .fresh ds => .ok (.lst ds)
  | .brw _ _ => .bad
inductive Slot where
 | un
 | pers (d : D)
 | own (ds : List D)
noncomputable abbrev Ev := List Slot
noncomputable abbrev FE := Ev → Out Val
noncomputable abbrev FT := Ev → Out Bool
inductive Res where
 | next (env : Ev)
 | ret (v : Val)
noncomputable abbrev FS := Ev → Out Res
mutual
noncomputable def Rep (K : PySem.W.Frag) (G : Hp) : D → V → Prop
 | .non,v => v = .non
 | .bl b,v => v = .bl b
 | .int i,v => v = .int i
 | .tup ds,v => ∃ a vs,v = .ref a ∧ G a = some (.tup vs) ∧ RepL K G ds vs
 | .lst ds,v => ∃ a vs,v = .ref a ∧ G a = some (.lst vs) ∧ RepL K G ds vs
 | .scr ns,v => ∃ a,v = .ref a ∧ SqL K G a (ns.map V.int)
 | .exc _ _,_ => False
noncomputable def RepL (K : PySem.W.Frag) (G : Hp) : List D → List V → Prop
 | [],vs => vs = []
 | d :: ds,vs => ∃ v r,vs = v :: r ∧ Rep K G d v ∧ RepL K G ds r
end
section
variable {K : PySem.W.Frag} {G G' : Hp}
mutual
theorem Rep.mono (s : Same G G') : ∀ {d : D} {v : V},Rep K G d v → Rep K G' d v
 | .non,_,h => h
 | .bl _,_,h => h
 | .int _,_,h => h
 | .tup ds,v,h => by
   obtain ⟨a,vs,e,g,r⟩ := h
   exact ⟨a,vs,e,s _ _ g,RepL.mono s r⟩
 | .lst ds,v,h => by
   obtain ⟨a,vs,e,g,r⟩ := h
   exact ⟨a,vs,e,s _ _ g,RepL.mono s r⟩
 | .scr ns,v,h => by
   obtain ⟨a,e,g⟩ := h
   exact ⟨a,e,s.seq g⟩
 | .exc _ _,_,h => h
theorem RepL.mono (s : Same G G') : ∀ {ds : List D} {vs : List V},RepL K G ds vs → RepL K G' ds vs
 | [],_,h => h
 | d :: ds,vs,h => by
   obtain ⟨v,r,e,h1,h2⟩ := h
   exact ⟨v,r,e,Rep.mono s h1,RepL.mono s h2⟩
end
theorem RepL.nil : RepL K G [] [] := rfl
theorem RepL.cons {d : D} {v : V} {ds : List D} {vs : List V} (h : Rep K G d v) (r : RepL K G ds vs) : RepL K G (d :: ds) (v :: vs) := ⟨v,vs,rfl,h,r⟩
theorem RepL.length : ∀ {ds : List D} {vs : List V},RepL K G ds vs → ds.length = vs.length
 | [],_,h => by cases (show _ = [] from h); rfl
 | d :: ds,vs,h => by
   obtain ⟨v,r,rfl,_,h2⟩ := h
   simp [RepL.length h2]
theorem RepL.get : ∀ {ds : List D} {vs : List V} {i : Nat} {d : D},RepL K G ds vs → ds[i]? = some d → ∃ v,vs[i]? = some v ∧ Rep K G d v
 | [],_,i,d,h,e => by simp at e
 | d' :: ds,vs,0,d,h,e => by
   obtain ⟨v,r,rfl,h1,h2⟩ := h
   simp at e
   subst e
   exact ⟨v,rfl,h1⟩
 | d' :: ds,vs,i + 1,d,h,e => by
   obtain ⟨v,r,rfl,h1,h2⟩ := h
   obtain ⟨u,h3,h4⟩ := RepL.get (i := i) h2 (by simpa using e)
   exact ⟨u,by simpa using h3,h4⟩
theorem RepL.get' : ∀ {ds : List D} {vs : List V} {i : Nat} {v : V},RepL K G ds vs → vs[i]? = some v → ∃ d,ds[i]? = some d ∧ Rep K G d v
 | [],_,i,d,h,e => by cases (show _ = [] from h); simp at e
 | d' :: ds,vs,0,d,h,e => by
   obtain ⟨v,r,rfl,h1,h2⟩ := h
   simp at e
   subst e
   exact ⟨d',rfl,h1⟩
 | d' :: ds,vs,i + 1,d,h,e => by
   obtain ⟨v,r,rfl,h1,h2⟩ := h
   obtain ⟨u,h3,h4⟩ := RepL.get' (i := i) h2 (by simpa using e)
   exact ⟨u,by simpa using h3,h4⟩
theorem RepL.append : ∀ {ds es : List D} {vs us : List V},RepL K G ds vs → RepL K G es us → RepL K G (ds ++ es) (vs ++ us)
 | [],es,vs,us,h,h' => by cases (show _ = [] from h); exact h'
 | d :: ds,es,vs,us,h,h' => by
   obtain ⟨v,r,rfl,h1,h2⟩ := h
   exact ⟨v,r ++ us,rfl,h1,RepL.append h2 h'⟩
theorem RepL.take : ∀ {ds : List D} {vs : List V} (n : Nat),RepL K G ds vs → RepL K G (ds.take n) (vs.take n)
 | ds,vs,0,h => by simp only [List.take_zero]; exact rfl
 | [],vs,n + 1,h => by cases (show _ = [] from h); exact rfl
 | d :: ds,vs,n + 1,h => by
   obtain ⟨v,r,rfl,h1,h2⟩ := h
   exact ⟨v,r.take n,rfl,h1,RepL.take n h2⟩
theorem RepL.drop : ∀ {ds : List D} {vs : List V} (n : Nat),RepL K G ds vs → RepL K G (ds.drop n) (vs.drop n)
 | ds,vs,0,h => by simpa using h
 | [],vs,n + 1,h => by cases (show _ = [] from h); exact rfl
 | d :: ds,vs,n + 1,h => by
   obtain ⟨v,r,rfl,h1,h2⟩ := h
   exact RepL.drop n h2
theorem RepL.reverse {ds : List D} : ∀ {vs : List V},RepL K G ds vs → RepL K G ds.reverse vs.reverse := by
 induction ds with
 | nil => intro vs h; cases (show _ = [] from h); exact rfl
 | cons d ds ih =>
   intro vs h
   obtain ⟨v,r,rfl,h1,h2⟩ := h
   rw [List.reverse_cons,List.reverse_cons]
   exact RepL.append (ih h2) (RepL.cons h1 RepL.nil)
theorem RepL.dropLast {ds : List D} {vs : List V} (h : RepL K G ds vs) : RepL K G ds.dropLast vs.dropLast := by
 rw [List.dropLast_eq_take,List.dropLast_eq_take,← h.length]
 exact h.take _
theorem RepL.set {d : D} {v : V} (hd : Rep K G d v) : ∀ {ds : List D} {vs : List V} (i : Nat),RepL K G ds vs → RepL K G (ds.set i d) (vs.set i v)
 | [],vs,i,h => by cases (show _ = [] from h); exact rfl
 | d' :: ds,vs,0,h => by
   obtain ⟨u,r,rfl,h1,h2⟩ := h
   exact ⟨v,r,rfl,hd,h2⟩
 | d' :: ds,vs,i + 1,h => by
   obtain ⟨u,r,rfl,h1,h2⟩ := h
   exact ⟨u,r.set i v,rfl,h1,RepL.set hd i h2⟩
theorem RepL.ints : ∀ (ns : List Int),RepL K G (ns.map D.int) (ns.map V.int)
 | [] => rfl
 | n :: ns => ⟨.int n,ns.map V.int,rfl,rfl,RepL.ints ns⟩
theorem RepL.ints_of : ∀ {ns : List Int} {vs : List V},RepL K G (ns.map D.int) vs → vs = ns.map V.int
 | [],_,h => h
 | n :: ns,vs,h => by
   obtain ⟨v,r,rfl,h1,h2⟩ := h
   rw [RepL.ints_of h2]
   cases (show v = .int n from h1)
   rfl
end
structure Grow (G H G' H' : Hp) : Prop where
 g : Same G G'
 h : Same H H'
 n : ∀ b,H b ≠ none → G b = none → G' b = none
theorem Grow.refl (G H : Hp) : Grow G H G H := ⟨Same.refl _,Same.refl _,fun _ _ h => h⟩
theorem Same.some_of {H H' : Hp} (s : Same H H') {b : Addr} (h : H b ≠ none) : H' b ≠ none := by
 cases q : H b with
 | none => exact absurd q h
 | some o => rw [s b o q]; simp
theorem Grow.trans {G H G1 H1 G2 H2 : Hp} (a : Grow G H G1 H1) (b : Grow G1 H1 G2 H2) : Grow G H G2 H2 :=
 ⟨a.g.trans b.g,a.h.trans b.h,fun c h1 h2 => b.n c (Same.some_of a.h h1) (a.n c h1 h2)⟩
theorem zbq {H H' : Hp} (s : Same H H') {b : Addr} (h : H' b = none) : H b = none := s.free h
structure SlotOwn (K : PySem.W.Frag) (H₀ : Hp) (σ : St) (G H : Hp) (i : Nat) (ds : List D) (a : Addr) (vs : List V) : Prop where
 at_ : σ[i]? = some (some (.ref a))
 hp : H a = some (.lst vs)
 gn : G a = none
 new : H₀ a = none
 rep : RepL K G ds vs
noncomputable def SlotOk (K : PySem.W.Frag) (H₀ : Hp) (σ : St) (G H : Hp) (i : Nat) : Slot → Prop
 | .un => True
 | .pers d => ∃ v,σ[i]? = some (some v) ∧ Rep K G d v
 | .own ds => ∃ a vs,SlotOwn K H₀ σ G H i ds a vs
structure DI (K : PySem.W.Frag) (G₀ H₀ : Hp) (env : Ev) (σ : St) (G H : Hp) : Prop where
 le : Same G H
 gr : Grow G₀ H₀ G H
 len : env.length = σ.length
 slot : ∀ (i : Nat) (s : Slot),env[i]? = some s → SlotOk K H₀ σ G H i s
 apart : ∀ (i j : Nat) (ds es : List D) (a : Addr),i ≠ j → env[i]? = some (.own ds) → env[j]? = some (.own es) → σ[i]? = some (some (.ref a)) → σ[j]? ≠ some (some (.ref a))
section
variable {K : PySem.W.Frag} {G₀ H₀ G H G' H' : Hp} {env : Ev} {σ : St}
theorem DI.grow (I : DI K G₀ H₀ env σ G H) (g : Grow G H G' H') (l : Same G' H') : DI K G₀ H₀ env σ G' H' where
 le := l
 gr := I.gr.trans g
 len := I.len
 slot := fun i s e => by
  have q := I.slot i s e
  cases s with
  | un => trivial
  | pers d => obtain ⟨v,h1,h2⟩ := q; exact ⟨v,h1,h2.mono g.g⟩
  | own ds =>
    obtain ⟨a,vs,o⟩ := q
    exact ⟨a,vs,o.at_,g.h _ _ o.hp,g.n a (by rw [o.hp]; simp) o.gn,o.new,o.rep.mono g.g⟩
 apart := I.apart
theorem DI.own (I : DI K G₀ H₀ env σ G H) {i : Nat} {ds : List D} (e : env[i]? = some (.own ds)) : ∃ a vs,SlotOwn K H₀ σ G H i ds a vs := I.slot i _ e
theorem DI.pers (I : DI K G₀ H₀ env σ G H) {i : Nat} {d : D} (e : env[i]? = some (.pers d)) : ∃ v,σ[i]? = some (some v) ∧ Rep K G d v := I.slot i _ e
end
noncomputable def w9 (K : PySem.W.Frag) (H : Hp) (env : Ev) (σ : St) (G' H' : Hp) (v : V) : Val → Prop
 | .pers d => Rep K G' d v
 | .fresh ds => ∃ a vs,v = .ref a ∧ H a = none ∧ H' a = some (.lst vs) ∧ G' a = none ∧ RepL K G' ds vs
 | .brw i ds => ∃ a,v = .ref a ∧ env[i]? = some (.own ds) ∧ σ[i]? = some (some (.ref a))
theorem w9.base {K : PySem.W.Frag} {H H1 : Hp} {env : Ev} {σ : St} {G' H' : Hp} {v : V} {val : Val} (s : Same H H1) (h : w9 K H1 env σ G' H' v val) : w9 K H env σ G' H' v val := by
 cases val with
 | pers d => exact h
 | fresh ds =>
   obtain ⟨a,vs,e,h1,h2,h3,h4⟩ := h
   exact ⟨a,vs,e,s.free h1,h2,h3,h4⟩
 | brw i ds => exact h
noncomputable def Opd (K : PySem.W.Frag) (env : Ev) (σ : St) (G : Hp) (v : V) (d : D) : Prop :=
 Rep K G d v ∨ ∃ (i : Nat) (ds : List D) (a : Addr),d = .lst ds ∧ v = .ref a ∧ env[i]? = some (.own ds) ∧ σ[i]? = some (some (.ref a))
theorem Opd.mono {K : PySem.W.Frag} {env : Ev} {σ : St} {G G' : Hp} {v : V} {d : D} (h : Opd K env σ G v d) (s : Same G G') : Opd K env σ G' v d :=
 h.elim (fun x => .inl (x.mono s)) .inr
section
variable {K : PySem.W.Frag} {G₀ H₀ G H G' H' : Hp} {env : Ev} {σ : St} {v : V}
theorem Opd.lst {ds : List D} (I : DI K G₀ H₀ env σ G H) (h : Opd K env σ G v (.lst ds)) : ∃ a vs,v = .ref a ∧ H a = some (.lst vs) ∧ RepL K G ds vs := by
 rcases h with h | ⟨i,es,a,e1,e2,e3,e4⟩
 ·obtain ⟨a,vs,e,g,r⟩ := h
  exact ⟨a,vs,e,I.le _ _ g,r⟩
 ·cases e1
  obtain ⟨b,vs,o⟩ := I.own e3
  have q := o.at_
  rw [e4] at q
  cases q
  exact ⟨a,vs,e2,o.hp,o.rep⟩
theorem Opd.tup {ds : List D} (I : DI K G₀ H₀ env σ G H) (h : Opd K env σ G v (.tup ds)) : ∃ a vs,v = .ref a ∧ H a = some (.tup vs) ∧ RepL K G ds vs := by
 rcases h with h | ⟨i,es,a,e1,e2,e3,e4⟩
 ·obtain ⟨a,vs,e,g,r⟩ := h
  exact ⟨a,vs,e,I.le _ _ g,r⟩
 ·cases e1
theorem Opd.int {i : Int} (h : Opd K env σ G v (.int i)) : v = .int i := by
 rcases h with h | ⟨_,_,_,e,_⟩
 ·exact h
 ·cases e
theorem Opd.bl {b : Bool} (h : Opd K env σ G v (.bl b)) : v = .bl b := by
 rcases h with h | ⟨_,_,_,e,_⟩
 ·exact h
 ·cases e
theorem Opd.non (h : Opd K env σ G v .non) : v = .non := by
 rcases h with h | ⟨_,_,_,e,_⟩
 ·exact h
 ·cases e
theorem Opd.scr {ns : List Int} (I : DI K G₀ H₀ env σ G H) (h : Opd K env σ G v (.scr ns)) : ∃ a,v = .ref a ∧ SqL K H a (ns.map V.int) := by
 rcases h with h | ⟨_,_,_,e,_⟩
 ·obtain ⟨a,e,q⟩ := h
  exact ⟨a,e,I.le.seq q⟩
 ·cases e
theorem opd {val : Val} (g : Grow G H G' H') (l : Same G' H') (h : w9 K H env σ G' H' v val) : ∃ G'',Grow G H G'' H' ∧ Same G'' H' ∧ Opd K env σ G'' v val.d := by
 cases val with
 | pers d => exact ⟨G',g,l,.inl h⟩
 | brw i ds =>
   obtain ⟨a,e1,e2,e3⟩ := h
   exact ⟨G',g,l,.inr ⟨i,ds,a,rfl,e1,e2,e3⟩⟩
 | fresh ds =>
   obtain ⟨a,vs,e,h1,h2,h3,h4⟩ := h
   have s' : Same G' (upd G' a (.lst vs)) := fun b o q => by rw [zG (zC q h3)]; exact q
   refine ⟨upd G' a (.lst vs),⟨g.g.trans s',g.h,fun b q1 q2 => ?_⟩,fun b o q => ?_,.inl ⟨a,vs,e,zS,h4.mono s'⟩⟩
   ·have hb : b ≠ a := fun z => q1 (z ▸ h1)
    rw [zG hb]
    exact g.n b q1 q2
   ·by_cases hb : b = a
    ·subst hb; rw [zS] at q; cases q; exact h2
    ·rw [zG hb] at q; exact l b o q
theorem held {val : Val} {d : D} (g : Grow G H G' H') (l : Same G' H') (h : w9 K H env σ G' H' v val) (e : val.hold = .ok d) : ∃ G'',Grow G H G'' H' ∧ Same G'' H' ∧ Rep K G'' d v := by
 obtain ⟨G2,g2,l2,o⟩ := opd g l h
 cases val with
 | pers d' => cases e; exact ⟨G',g,l,h⟩
 | brw i ds => cases e
 | fresh ds =>
   cases e
   rcases o with o | ⟨i,es,a,e1,e2,e3,e4⟩
   ·exact ⟨G2,g2,l2,o⟩
   ·obtain ⟨a',vs,e,h1,h2,h3,h4⟩ := h
    have s' : Same G' (upd G' a' (.lst vs)) := fun b o q => by rw [zG (zC q h3)]; exact q
    refine ⟨upd G' a' (.lst vs),⟨g.g.trans s',g.h,fun b q1 q2 => ?_⟩,fun b o q => ?_,⟨a',vs,e,zS,h4.mono s'⟩⟩
    ·have hb : b ≠ a' := fun z => q1 (z ▸ h1)
     rw [zG hb]
     exact g.n b q1 q2
    ·by_cases hb : b = a'
     ·subst hb; rw [zS] at q; cases q; exact h2
     ·rw [zG hb] at q; exact l b o q
theorem Grow.laidT {p : Addr} {o : HO} (l : Same G H) (hp : H p = none) : Grow G H (upd G p o) (upd H p o) ∧ Same (upd G p o) (upd H p o) := by
 have gp := l.free hp
 refine ⟨⟨fun b u q => by rw [zG (zC q gp)]; exact q,fun b u q => by rw [zG (zC q hp)]; exact q,fun b h1 h2 => ?_⟩,fun b u q => ?_⟩
 ·have hb : b ≠ p := fun z => h1 (z ▸ hp)
  rw [zG hb]; exact h2
 ·by_cases hb : b = p
  ·subst hb; rw [zS] at q ⊢; exact q
  ·rw [zG hb] at q ⊢; exact l b u q
theorem Grow.laidL {p : Addr} {o : HO} (l : Same G H) (hp : H p = none) : Grow G H G (upd H p o) ∧ Same G (upd H p o) :=
 ⟨⟨Same.refl _,fun b u q => by rw [zG (zC q hp)]; exact q,fun _ _ h => h⟩,fun b u q => by rw [zG (zC q (l.free hp))]; exact l b u q⟩
theorem xD {p : Addr} {ds : List D} {vs : List V} {G1 H1 : Hp} (l : Same G1 H1) (hp : H1 p = none) (r : RepL K G1 ds vs) : w9 K H1 env σ G1 (upd H1 p (.lst vs)) (.ref p) (.fresh ds) :=
 ⟨p,vs,rfl,hp,zS,l.free hp,r⟩
theorem zdX {p : Addr} {ds : List D} {vs : List V} {G1 H1 : Hp} (l : Same G1 H1) (hp : H1 p = none) (r : RepL K G1 ds vs) : w9 K H1 env σ (upd G1 p (.tup vs)) (upd H1 p (.tup vs)) (.ref p) (.pers (.tup ds)) := by
 have gp := l.free hp
 exact ⟨p,vs,rfl,zS,r.mono fun b u q => by rw [zG (zC q gp)]; exact q⟩
end
section
variable (K : PySem.W.Frag) (G₀ H₀ : Hp)
noncomputable def tE (f : FE) : TE := fun σ H Q => ∃ env G val,DI K G₀ H₀ env σ G H ∧ f env = .ok val ∧
 ∀ v G' H',Grow G H G' H' → Same G' H' → w9 K H env σ G' H' v val → Q v H'
noncomputable def tT (f : FT) : TT := fun σ H Q => ∃ env G b,DI K G₀ H₀ env σ G H ∧ f env = .ok b ∧ ∀ G' H',Grow G H G' H' → Same G' H' → Q b H'
noncomputable def zcF (env : Ev) (σ : St) (G : Hp) (v : V) : Val → Prop
 | .pers d => Rep K G d v
 | .fresh _ => False
 | .brw i ds => ∃ a,v = .ref a ∧ env[i]? = some (.own ds) ∧ σ[i]? = some (some (.ref a))
noncomputable def tQ (env : Ev) (σ : St) (G : Hp) : List V → List Val → Prop
 | [],vals => vals = []
 | v :: vs,vals => ∃ x r,vals = x :: r ∧ zcF K env σ G v x ∧ tQ env σ G vs r
noncomputable def tA (f : Ev → Out (List Val)) : TA := fun σ H Q => ∃ env G vals,DI K G₀ H₀ env σ G H ∧ f env = .ok vals ∧
 ∀ vs G' H',Grow G H G' H' → Same G' H' → tQ K env σ G' vs vals → Q vs H'
noncomputable def tH (f : Ev → Out (List D)) : TA := fun σ H Q => ∃ env G ds,DI K G₀ H₀ env σ G H ∧ f env = .ok ds ∧
 ∀ vs G' H',Grow G H G' H' → Same G' H' → RepL K G' ds vs → Q vs H'
noncomputable def zdV (G : Hp) (D : Ends) : Res → Prop
 | .next env' => ∀ σ' G' H',Same G G' → DI K G₀ H₀ env' σ' G' H' → D.nx σ' H'
 | .ret val => ∀ v G' H',Grow G₀ H₀ G' H' → Same G' H' → w9 K H₀ [] [] G' H' v val → D.rt v H'
noncomputable def tS (f : FS) : TS := fun D σ H => ∃ env G r,DI K G₀ H₀ env σ G H ∧ f env = .ok r ∧ zdV K G₀ H₀ G D r
end
noncomputable def DE (X : Cx) (G₀ H₀ : Hp) (e : Expr) (f : FE) : Prop := PE X e (tE X.K G₀ H₀ f)
noncomputable def DT (X : Cx) (G₀ H₀ : Hp) (e : Expr) (f : FT) : Prop := PT X e (tT X.K G₀ H₀ f)
noncomputable def DW (X : Cx) (G₀ H₀ : Hp) (e : Expr) (f : FT) : Prop := PW X e (tT X.K G₀ H₀ f)
noncomputable def DA (X : Cx) (G₀ H₀ : Hp) (es : List Expr) (f : Ev → Out (List Val)) : Prop := PA X es (tA X.K G₀ H₀ f)
noncomputable def DH (X : Cx) (G₀ H₀ : Hp) (es : List Expr) (f : Ev → Out (List D)) : Prop := PA X es (tH X.K G₀ H₀ f)
noncomputable def DS (X : Cx) (G₀ H₀ : Hp) (st : Stmt) (f : FS) : Prop := PS X st (tS X.K G₀ H₀ f)
noncomputable def DSs (X : Cx) (G₀ H₀ : Hp) (st : List Stmt) (f : FS) : Prop := PSs X st (tS X.K G₀ H₀ f)
theorem _root_.L2.PE.imp {X : Cx} {e : Expr} {t t' : TE} (h : PE X e t) (i : ∀ σ H Q,t' σ H Q → t σ H Q) : PE X e t' := fun pins s σ H Q I q => h pins s σ H Q I (i σ H Q q)
theorem _root_.L2.PT.imp {X : Cx} {e : Expr} {t t' : TT} (h : PT X e t) (i : ∀ σ H Q,t' σ H Q → t σ H Q) : PT X e t' := fun pins s σ H Q I q => h pins s σ H Q I (i σ H Q q)
theorem _root_.L2.PW.imp {X : Cx} {e : Expr} {t t' : TT} (h : PW X e t) (i : ∀ σ H Q,t' σ H Q → t σ H Q) : PW X e t' := fun wh pins s σ H Q I q => h wh pins s σ H Q I (i σ H Q q)
theorem _root_.L2.PA.imp {X : Cx} {e : List Expr} {t t' : TA} (h : PA X e t) (i : ∀ σ H Q,t' σ H Q → t σ H Q) : PA X e t' := fun pos pins s σ H Q I q => h pos pins s σ H Q I (i σ H Q q)
theorem _root_.L2.PS.imp {X : Cx} {e : Stmt} {t t' : TS} (h : PS X e t) (i : ∀ D σ H,t' D σ H → t D σ H) : PS X e t' := fun pins s σ H D I q => h pins s σ H D I (i D σ H q)
theorem _root_.L2.PSs.imp {X : Cx} {e : List Stmt} {t t' : TS} (h : PSs X e t) (i : ∀ D σ H,t' D σ H → t D σ H) : PSs X e t' := fun pins s σ H D I q => h pins s σ H D I (i D σ H q)
section
variable {K : PySem.W.Frag} {G₀ H₀ G H : Hp} {env : Ev} {σ : St}
theorem xQ {f : FE} {x : Val} {P : V → Hp → Prop} (I : DI K G₀ H₀ env σ G H) (e : f env = .ok x)
 (k : ∀ v G' H',Grow G H G' H' → Same G' H' → DI K G₀ H₀ env σ G' H' → Opd K env σ G' v x.d → P v H') : tE K G₀ H₀ f σ H P :=
 ⟨env,G,x,I,e,fun v G' H' g l h => by
  obtain ⟨G2,g2,l2,o⟩ := opd g l h
  exact k v G2 H' g2 l2 (I.grow g2 l2) o⟩
theorem zgO {f g : FE} {x y : Val} {P : V → V → Hp → Prop} (I : DI K G₀ H₀ env σ G H) (e : f env = .ok x) (e' : g env = .ok y)
 (k : ∀ v u G' H',Grow G H G' H' → Same G' H' → DI K G₀ H₀ env σ G' H' → Opd K env σ G' v x.d → Opd K env σ G' u y.d → P v u H') :
 tE K G₀ H₀ f σ H fun v H1 => tE K G₀ H₀ g σ H1 fun u H2 => P v u H2 :=
 xQ I e fun v G1 H1 g1 l1 I1 o1 => xQ I1 e' fun u G2 H2 g2 l2 I2 o2 => k v u G2 H2 (g1.trans g2) l2 I2 (o1.mono g2.g) o2
end
@[simp] noncomputable def fVar (i : Nat) : FE := fun env => match env[i]? with
  | some (.pers d) => .ok (.pers d)
  | some (.own ds) => .ok (.brw i ds)
  | _ => .bad
@[simp] noncomputable def fC (d : D) : FE := fun _ => .ok (.pers d)
section
variable {X : Cx} {G₀ H₀ : Hp} {pos : Pos}
theorem zf {i : Nat} {x : Str} (h : PE X (.Name x pos) (tVar i)) : DE X G₀ H₀ (.Name x pos) (fVar i) := h.imp fun σ H Q q => by
 obtain ⟨env,G,val,I,e,k⟩ := q
 unfold fVar at e
 cases q : env[i]? with
 | none => rw [q] at e; cases e
 | some s =>
   rw [q] at e
   cases s with
   | un => cases e
   | pers d =>
     cases e
     obtain ⟨v,h1,h2⟩ := I.pers q
     exact ⟨v,h1,k v G H (Grow.refl _ _) I.le h2⟩
   | own ds =>
     cases e
     obtain ⟨a,vs,o⟩ := I.own q
     exact ⟨.ref a,o.at_,k _ G H (Grow.refl _ _) I.le ⟨a,rfl,q,o.at_⟩⟩
theorem de_c {e : Expr} {v : V} {d : D} (h : PE X e (tC v)) (r : ∀ G,Rep X.K G d v) : DE X G₀ H₀ e (fC d) := h.imp fun σ H Q q => by
 obtain ⟨env,G,val,I,e,k⟩ := q
 cases e
 exact k v G H (Grow.refl _ _) I.le (r G)
theorem zj {i j} : DE X G₀ H₀ (.Constant (.int i) j pos) (fC (.int i)) := de_c ziS fun _ => rfl
theorem zjw {b j} : DE X G₀ H₀ (.Constant (.bool b) j pos) (fC (.bl b)) := de_c pe_bl fun _ => rfl
theorem wZ {j} : DE X G₀ H₀ (.Constant .none j pos) (fC .non) := de_c ziQ fun _ => rfl
end
@[simp] noncomputable def f2 (g : D → D → Out Val) (fa fb : FE) : FE := fun env => (fa env).bind fun x => (fb env).bind fun y => g x.d y.d
@[simp] noncomputable def f1 (g : D → Out Val) (fa : FE) : FE := fun env => (fa env).bind fun x => g x.d
noncomputable def OpD (K : PySem.W.Frag) (r : R2) (g : D → D → Out Val) : Prop :=
 ∀ (G₀ H₀ : Hp) (env : Ev) (σ : St) (G H : Hp) (v u : V) (d1 d2 : D) (val : Val) (Q : VK),DI K G₀ H₀ env σ G H → Opd K env σ G v d1 → Opd K env σ G u d2 → g d1 d2 = .ok val →
   (∀ w G' H',Grow G H G' H' → Same G' H' → w9 K H env σ G' H' w val → Q w H') → r v u H Q
noncomputable def UnD (K : PySem.W.Frag) (r : V → Hp → VK → Prop) (g : D → Out Val) : Prop :=
 ∀ (G₀ H₀ : Hp) (env : Ev) (σ : St) (G H : Hp) (v : V) (d1 : D) (val : Val) (Q : VK),DI K G₀ H₀ env σ G H → Opd K env σ G v d1 → g d1 = .ok val →
   (∀ w G' H',Grow G H G' H' → Same G' H' → w9 K H env σ G' H' w val → Q w H') → r v H Q
section
variable {X : Cx} {G₀ H₀ : Hp} {pos : Pos} {a b : Expr} {fa fb : FE}
theorem imp2 {r : R2} {g : D → D → Out Val} (hd : OpD X.K r g) (σ : St) (H : Hp) (Q : VK) (q : tE X.K G₀ H₀ (f2 g fa fb) σ H Q) : tOp r (tE X.K G₀ H₀ fa) (tE X.K G₀ H₀ fb) σ H Q := by
 obtain ⟨env,G,val,I,e,k⟩ := q
 obtain ⟨x,e1,e⟩ := zn e
 obtain ⟨y,e2,e⟩ := zn e
 exact zgO I e1 e2 fun v u G' H' g1 l1 I1 o1 o2 => hd G₀ H₀ env σ G' H' v u _ _ val Q I1 o1 o2 e fun w G2 H2 g2 l2 h2 => k w G2 H2 (g1.trans g2) l2 (h2.base g1.h)
theorem imp1 {r : V → Hp → VK → Prop} {g : D → Out Val} (hd : UnD X.K r g) (σ : St) (H : Hp) (Q : VK) (q : tE X.K G₀ H₀ (f1 g fa) σ H Q) : tUn r (tE X.K G₀ H₀ fa) σ H Q := by
 obtain ⟨env,G,val,I,e,k⟩ := q
 obtain ⟨x,e1,e⟩ := zn e
 exact xQ I e1 fun v G' H' g1 l1 I1 o1 => hd G₀ H₀ env σ G' H' v _ val Q I1 o1 e fun w G2 H2 g2 l2 h2 => k w G2 H2 (g1.trans g2) l2 (h2.base g1.h)
theorem zco {op : Operator} {r : R2} {g : D → D → Out Val} (ho : OpR X (binaryOp op) r) (hd : OpD X.K r g) (ha : DE X G₀ H₀ a fa) (hb : DE X G₀ H₀ b fb) : DE X G₀ H₀ (.BinOp a op b pos) (f2 g fa fb) :=
 (pe_op ho ha hb).imp (imp2 hd)
theorem de_un {op : UnaryOp} {r : V → Hp → VK → Prop} {g : D → Out Val} (ho : UnR X (unaryOp op) r) (hd : UnD X.K r g) (ha : DE X G₀ H₀ a fa) : DE X G₀ H₀ (.UnaryOp op a pos) (f1 g fa) :=
 (pe_un ho ha).imp (imp1 hd)
theorem zdm {op : CmpOp} {r : R2} {g : D → D → Out Val} (ho : OpR X (compareOp op) r) (hd : OpD X.K r g) (ha : DE X G₀ H₀ a fa) (hb : DE X G₀ H₀ b fb) (hm : behindInMarks op b = false) : DE X G₀ H₀ (.Compare a [op] [b] pos) (f2 g fa fb) :=
 (zhF ho ha hb hm).imp (imp2 hd)
theorem de_ix {r : R2} {g : D → D → Out Val} (hr : IxR X r) (hd : OpD X.K r g) (ha : DE X G₀ H₀ a fa) (hb : DE X G₀ H₀ b fb) (hs : zcD b) : DE X G₀ H₀ (.Subscript a b pos) (f2 g fa fb) :=
 (pe_ix hr ha hb hs).imp (imp2 hd)
end
@[simp] noncomputable def gI (C : Int → Int → Bool) (g : Int → Int → Int) : D → D → Out Val
  | .int i,.int j => if C i j then .ok (.pers (.int (g i j))) else .bad
  | _,_ => .bad
@[simp] noncomputable def gIB (g : Int → Int → Bool) : D → D → Out Val
  | .int i,.int j => .ok (.pers (.bl (g i j)))
  | _,_ => .bad
section
variable {K : PySem.W.Frag}
theorem zc3 {C : Int → Int → Bool} {C' : Int → Int → Prop} {g : Int → Int → Int} (hC : ∀ i j,C i j = true → C' i j) : OpD K (rI C' fun i j => .int (g i j)) (gI C g) := by
 intro G₀ H₀ env σ G H v u d1 d2 val Q I o1 o2 e k
 unfold gI at e
 split at e
 ·rename_i i j
  split at e
  ·rename_i hc
   cases e
   exact ⟨i,j,o1.int,o2.int,hC i j hc,k _ G H (Grow.refl _ _) I.le rfl⟩
  ·cases e
 ·cases e
theorem zhN {g : Int → Int → Int} : OpD K (rI0 fun i j => .int (g i j)) (gI (fun _ _ => true) g) := by
 intro G₀ H₀ env σ G H v u d1 d2 val Q I o1 o2 e k
 unfold gI at e
 split at e
 ·rename_i i j
  rw [if_pos rfl] at e
  cases e
  exact ⟨i,j,o1.int,o2.int,k _ G H (Grow.refl _ _) I.le rfl⟩
 ·cases e
theorem vD {g : Int → Int → Bool} : OpD K (rI0 fun i j => .bl (g i j)) (gIB g) := by
 intro G₀ H₀ env σ G H v u d1 d2 val Q I o1 o2 e k
 unfold gIB at e
 split at e
 ·rename_i i j
  cases e
  exact ⟨i,j,o1.int,o2.int,k _ G H (Grow.refl _ _) I.le rfl⟩
 ·cases e
end
noncomputable def uD (i : Int) : Bool := decide (-(2 ^ 64) < i) && decide (i < 2 ^ 64)
noncomputable def cMul (i j : Int) : Bool := uD i || uD j
noncomputable def cPow (i j : Int) : Bool := decide (0 ≤ j) && decide (j ≤ 1000000) && decide (i.natAbs < 2 ^ 64)
@[simp] noncomputable def gSub := gI (fun _ _ => true) (· - ·)
@[simp] noncomputable def gMul := gI cMul (· * ·)
@[simp] noncomputable def gMod := gI (fun _ j => decide (0 < j)) (· % ·)
@[simp] noncomputable def gPow := gI cPow (fun i j => i ^ j.toNat)
@[simp] noncomputable def gLt := gIB fun i j => decide (i < j)
@[simp] noncomputable def gLe := gIB fun i j => decide (i ≤ j)
@[simp] noncomputable def gGt := gIB fun i j => decide (j < i)
@[simp] noncomputable def gNeg : D → Out Val
  | .int i => .ok (.pers (.int (-i)))
  | _ => .bad
section
variable {X : Cx} {G₀ H₀ : Hp} {pos : Pos} {a b : Expr} {fa fb : FE}
theorem ya (ha : DE X G₀ H₀ a fa) (hb : DE X G₀ H₀ b fb) : DE X G₀ H₀ (.BinOp a .Sub b pos) (f2 gSub fa fb) := zco ziU zhN ha hb
theorem xG (ha : DE X G₀ H₀ a fa) (hb : DE X G₀ H₀ b fb) : DE X G₀ H₀ (.BinOp a .Mult b pos) (f2 gMul fa fb) :=
 zco ziX (zc3 fun i j h => by
  simp only [cMul,uD,Bool.or_eq_true,Bool.and_eq_true,decide_eq_true_eq] at h
  exact h) ha hb
theorem yE (ha : DE X G₀ H₀ a fa) (hb : DE X G₀ H₀ b fb) : DE X G₀ H₀ (.BinOp a .Mod b pos) (f2 gMod fa fb) := zco ziY (zc3 fun i j h => of_decide_eq_true h) ha hb
theorem zdk (ha : DE X G₀ H₀ a fa) (hb : DE X G₀ H₀ b fb) : DE X G₀ H₀ (.BinOp a .Pow b pos) (f2 gPow fa fb) :=
 zco ziV (zc3 fun i j h => by
  simp only [cPow,Bool.and_eq_true,decide_eq_true_eq] at h
  exact ⟨h.1.1,h.1.2,h.2⟩) ha hb
theorem de_le (ha : DE X G₀ H₀ a fa) (hb : DE X G₀ H₀ b fb) : DE X G₀ H₀ (.Compare a [.LtE] [b] pos) (f2 gLe fa fb) := zdm op_le vD ha hb (wV _)
theorem de_gt (ha : DE X G₀ H₀ a fa) (hb : DE X G₀ H₀ b fb) : DE X G₀ H₀ (.Compare a [.Gt] [b] pos) (f2 gGt fa fb) := zdm zi0 vD ha hb (wV _)
theorem xW (ha : DE X G₀ H₀ a fa) : DE X G₀ H₀ (.UnaryOp .USub a pos) (f1 gNeg fa) := de_un zik (by
 intro G₀ H₀ env σ G H v d1 val Q I o1 e k
 unfold gNeg at e
 split at e
 ·rename_i i
  cases e
  exact ⟨i,o1.int,k _ G H (Grow.refl _ _) I.le rfl⟩
 ·cases e) ha
end
end DL
namespace DL
open PySem PySem.Spec PyProof.Rows L2
noncomputable def cDiv (_ j : Int) : Bool := decide (0 < j) && decide (j < 2 ^ 250)
theorem zgc {X : Cx} : OpR X (binaryOp .FloorDiv) (rI (fun _ j => 0 < j ∧ j < 2 ^ 250) fun i j => .int (i / j)) := opI fun i j t u s Q E hc q => by
 have hne : j ≠ 0 := by lia
 refine floordiv_int hne ?_ (.inl (PyProof.noPylong_of_log2 ?_))
 ·rw [Int.fdiv_eq_ediv_of_nonneg _ (by lia)]
  exact q
 ·have h1 : j.natAbs < 2 ^ 9000 := Nat.lt_of_lt_of_le (m := 2 ^ 250) (by have := hc.2; lia) (Nat.pow_le_pow_right (by decide) (by decide))
  exact (Nat.log2_lt (by lia)).mpr h1
@[simp] noncomputable def gDiv := gI cDiv (· / ·)
theorem zdl {X : Cx} {G₀ H₀ : Hp} {pos : Pos} {a b : Expr} {fa fb : FE} (ha : DE X G₀ H₀ a fa) (hb : DE X G₀ H₀ b fb) : DE X G₀ H₀ (.BinOp a .FloorDiv b pos) (f2 gDiv fa fb) :=
 zco zgc (zc3 fun i j h => by
  simp only [cDiv,Bool.and_eq_true,decide_eq_true_eq] at h
  exact h) ha hb
mutual
noncomputable def toPy : D → PyData
 | .non => .none
 | .bl b => .bool b
 | .int i => .int i
 | .tup ds => .tuple (xp ds)
 | .lst ds => .list (xp ds)
 | .scr ns => .list (ns.map .int)
 | .exc _ _ => .none
noncomputable def xp : List D → List PyData
 | [] => []
 | d :: ds => toPy d :: xp ds
end
noncomputable def eqD (x y : D) : Bool := PyData.eqv (toPy x) (toPy y)
noncomputable def eqDL (xs ys : List D) : Bool := PyData.eqvAll (xp xs) (xp ys)
noncomputable def shal : Nat → D → Bool
 | 0,.tup _ => false
 | 0,.lst _ => false
 | 0,_ => true
 | n + 1,.tup ds => ds.all (shal n)
 | n + 1,.lst ds => ds.all (shal n)
 | _ + 1,_ => true
theorem zda : ∀ ns : List Int,PyData.canLayAll0 (ns.map .int) = true
 | [] => by simp [PyData.canLayAll0]
 | n :: ns => by simp only [List.map_cons,PyData.canLayAll0,PyData.canLay0,zda ns,Bool.and_self]
mutual
theorem uV : ∀ d : D,(toPy d).canLay0 = true
 | .non => by simp only [toPy,PyData.canLay0]
 | .bl _ => by simp only [toPy,PyData.canLay0]
 | .int _ => by simp only [toPy,PyData.canLay0]
 | .tup ds => by simp only [toPy,PyData.canLay0,uW ds]
 | .lst ds => by simp only [toPy,PyData.canLay0,uW ds]
 | .scr ns => by simp only [toPy,PyData.canLay0,zda ns]
 | .exc _ _ => by simp only [toPy,PyData.canLay0]
theorem uW : ∀ ds : List D,PyData.canLayAll0 (xp ds) = true
 | [] => by simp only [xp,PyData.canLayAll0]
 | d :: ds => by simp only [xp,PyData.canLayAll0,uV d,uW ds,Bool.and_self]
end
theorem zaq : ∀ ns : List Int,PyData.depthAll (ns.map .int) = 0
 | [] => by simp [PyData.depthAll]
 | n :: ns => by simp [PyData.depthAll,PyData.depth,zaq ns]
theorem tu {n : Nat} : ∀ ds : List D,(∀ d ∈ ds,(toPy d).depth ≤ n) → PyData.depthAll (xp ds) ≤ n
 | [],_ => by simp [xp,PyData.depthAll]
 | d :: ds,h => by
   simp only [xp,PyData.depthAll]
   exact Nat.max_le.mpr ⟨h d (by simp),tu ds fun x hx => h x (by simp [hx])⟩
theorem wL : ∀ (n : Nat) (d : D),shal n d = true → (toPy d).depth ≤ n + 1
 | n,.non,_ => by simp [toPy,PyData.depth]
 | n,.bl _,_ => by simp [toPy,PyData.depth]
 | n,.int _,_ => by simp [toPy,PyData.depth]
 | n,.scr ns,_ => by simp [toPy,PyData.depth,zaq ns]
 | n,.exc _ _,_ => by simp [toPy,PyData.depth]
 | 0,.tup ds,h => by simp [shal] at h
 | 0,.lst ds,h => by simp [shal] at h
 | n + 1,.tup ds,h => by
   simp only [toPy,PyData.depth]
   have := tu (n := n + 1) ds fun d hd => wL n d (List.all_eq_true.mp (by simpa [shal] using h) d hd)
   lia
 | n + 1,.lst ds,h => by
   simp only [toPy,PyData.depth]
   have := tu (n := n + 1) ds fun d hd => wL n d (List.all_eq_true.mp (by simpa [shal] using h) d hd)
   lia
section
variable {X : Cx} {pins : List (Addr × Obj)} {σ : St} {G H : Hp} {s : Shared}
theorem zad {h : Heap} : ∀ {ns : List Int} {us : List Value},Vals (ns.map V.int) us → ∃ as,ReadsAll h us (ns.map .int) as
 | [],us,r => by cases r; exact ⟨[],.nil⟩
 | n :: ns,us,r => by
   cases r with
   | cons r1 r2 =>
     obtain ⟨t,rfl⟩ := r1
     obtain ⟨as,q⟩ := zad r2
     exact ⟨_,.cons (.int n t) q⟩
mutual
theorem zcW (I : Inv X pins σ H s) (l : Same G H) : ∀ {d : D} {v : V} {u : Value},Rep X.K G d v → RelV v u → ∃ as,Reads s.heap u (toPy d) as
 | .non,v,u,h,r => by cases (show v = .non from h); cases (show u = .none from r); exact ⟨[],by simp only [toPy]; exact .none⟩
 | .bl b,v,u,h,r => by cases (show v = .bl b from h); cases (show u = .bool b from r); exact ⟨[],by simp only [toPy]; exact .bool b⟩
 | .int i,v,u,h,r => by
   cases (show v = .int i from h)
   obtain ⟨t,rfl⟩ := (show ∃ t,u = .int i t from r)
   exact ⟨[],by simp only [toPy]; exact .int i t⟩
 | .tup ds,v,u,h,r => by
   obtain ⟨a,vs,rfl,g,q⟩ := h
   cases (show u = .ref a from r)
   obtain ⟨_,its,rv,ob,e,c,n,dd⟩ := I.hok a _ (l _ _ g)
   obtain ⟨as,z⟩ := vj I l q rv
   exact ⟨as,by simp only [toPy]; exact .tuple e c dd (by simpa using z)⟩
 | .lst ds,v,u,h,r => by
   obtain ⟨a,vs,rfl,g,q⟩ := h
   cases (show u = .ref a from r)
   obtain ⟨_,its,n,rv,e⟩ := I.hok a _ (l _ _ g)
   obtain ⟨as,z⟩ := vj I l q rv
   exact ⟨a :: as,by simp only [toPy]; exact .list e rfl rfl (by simpa using z)⟩
 | .scr ns,v,u,h,r => by
   obtain ⟨a,rfl,q⟩ := h
   cases (show u = .ref a from r)
   obtain ⟨its,rv,⟨o,n,e,c,_,dd⟩,_⟩ := I.list (l.seq q)
   obtain ⟨as,z⟩ := zad (h := s.heap) rv
   exact ⟨a :: as,by simp only [toPy]; exact .list e c dd (by simpa using z)⟩
 | .exc _ _,_,_,h,_ => h.elim
theorem vj (I : Inv X pins σ H s) (l : Same G H) : ∀ {ds : List D} {vs : List V} {us : List Value},RepL X.K G ds vs → Vals vs us → ∃ as,ReadsAll s.heap us (xp ds) as
 | [],vs,us,h,r => by
   cases (show vs = [] from h)
   cases r
   exact ⟨[],by simp only [xp]; exact .nil⟩
 | d :: ds,vs,us,h,r => by
   obtain ⟨v,vr,rfl,h1,h2⟩ := h
   cases r with
   | cons r1 r2 =>
     obtain ⟨as,q1⟩ := zcW I l h1 r1
     obtain ⟨bs,q2⟩ := vj I l h2 r2
     exact ⟨as ++ bs,by simp only [xp]; exact .cons q1 q2⟩
end
end
noncomputable def RdV (K : PySem.W.Frag) (H : Hp) (v : V) (d : D) : Prop := (∃ G,Same G H ∧ Rep K G d v) ∨ ∃ a vs G ds,d = .lst ds ∧ v = .ref a ∧ H a = some (.lst vs) ∧ Same G H ∧ RepL K G ds vs
theorem Opd.rdv {K : PySem.W.Frag} {G₀ H₀ G H : Hp} {env : Ev} {σ : St} {v : V} {d : D} (I : DI K G₀ H₀ env σ G H) (h : Opd K env σ G v d) : RdV K H v d := by
 rcases h with h | ⟨i,ds,a,e1,e2,e3,e4⟩
 ·exact .inl ⟨G,I.le,h⟩
 ·subst e1
  obtain ⟨a',vs,e,h1,h2⟩ := Opd.lst I (.inr ⟨i,ds,a,rfl,e2,e3,e4⟩)
  exact .inr ⟨a',vs,G,ds,rfl,e,h1,I.le,h2⟩
theorem xc {X : Cx} {pins : List (Addr × Obj)} {σ : St} {H : Hp} {s : Shared} {v : V} {u : Value} {d : D} (I : Inv X pins σ H s) (h : RdV X.K H v d) (r : RelV v u) : ∃ as,Reads s.heap u (toPy d) as := by
 rcases h with ⟨G,l,h⟩ | ⟨a,vs,G,ds,rfl,rfl,g,l,q⟩
 ·exact zcW I l h r
 ·cases (show u = .ref a from r)
  obtain ⟨_,its,n,rv,e⟩ := I.hok a _ g
  obtain ⟨as,z⟩ := vj I l q rv
  exact ⟨a :: as,by simp only [toPy]; exact .list e rfl rfl (by simpa using z)⟩
noncomputable def rEqD (K : PySem.W.Frag) (neg : Bool) : R2 := fun x y H Q => ∃ d1 d2,RdV K H x d1 ∧ RdV K H y d2 ∧ (shal 4 d1 || shal 4 d2) = true ∧ Q (.bl (if neg then !eqD d1 d2 else eqD d1 d2)) H
theorem zeo {u : Nat} {d1 d2 : D} (hu : u + 20 < cLine) (hs : (shal 4 d1 || shal 4 d2) = true) : u + min (toPy d1).depth (toPy d2).depth < cLine := by
 rw [Bool.or_eq_true] at hs
 rcases hs with h | h
 ·have := wL 4 d1 h
  have := Nat.min_le_left (toPy d1).depth (toPy d2).depth
  lia
 ·have := wL 4 d2 h
  have := Nat.min_le_right (toPy d1).depth (toPy d2).depth
  lia
theorem zgW {X : Cx} (hu : X.A.units + 20 < cLine) : OpR X (compareOp .Eq) (rEqD X.K false) := by
 intro pins s σ H x y v u Q I rx ry h
 obtain ⟨d1,d2,h1,h2,hs,q⟩ := h
 obtain ⟨as,ra⟩ := xc I h1 rx
 obtain ⟨bs,rb⟩ := xc I h2 ry
 exact SeqAt.compareEq_reads ra rb (uV d1) (uV d2) (zeo hu hs) ⟨.bl _,H,I,rfl,q⟩
theorem ziW {X : Cx} (hu : X.A.units + 20 < cLine) : OpR X (compareOp .NotEq) (rEqD X.K true) := by
 intro pins s σ H x y v u Q I rx ry h
 obtain ⟨d1,d2,h1,h2,hs,q⟩ := h
 obtain ⟨as,ra⟩ := xc I h1 rx
 obtain ⟨bs,rb⟩ := xc I h2 ry
 exact SeqAt.compareNe_reads ra rb (uV d1) (uV d2) (zeo hu hs) ⟨.bl _,H,I,rfl,q⟩
@[simp] noncomputable def gEq : D → D → Out Val := fun x y => if (shal 4 x || shal 4 y) = true then .ok (.pers (.bl (eqD x y))) else .bad
@[simp] noncomputable def gNe : D → D → Out Val := fun x y => if (shal 4 x || shal 4 y) = true then .ok (.pers (.bl (!eqD x y))) else .bad
theorem zi6 {K : PySem.W.Frag} : OpD K (rEqD K false) gEq := by
 intro G₀ H₀ env σ G H v u d1 d2 val Q I o1 o2 e k
 unfold gEq at e
 split at e
 ·rename_i hs
  cases e
  exact ⟨d1,d2,o1.rdv I,o2.rdv I,hs,k _ G H (Grow.refl _ _) I.le rfl⟩
 ·cases e
theorem od_ne {K : PySem.W.Frag} : OpD K (rEqD K true) gNe := by
 intro G₀ H₀ env σ G H v u d1 d2 val Q I o1 o2 e k
 unfold gNe at e
 split at e
 ·rename_i hs
  cases e
  exact ⟨d1,d2,o1.rdv I,o2.rdv I,hs,k _ G H (Grow.refl _ _) I.le rfl⟩
 ·cases e
noncomputable def rInD (K : PySem.W.Frag) (neg : Bool) : R2 := fun x y H Q => ∃ d ds,RdV K H x d ∧ RdV K H y (.lst ds) ∧ shal 4 d = true ∧ Q (.bl (if neg then !ds.any (fun z => eqD z d) else ds.any (fun z => eqD z d))) H
theorem tJ (d : D) : ∀ ds : List D,(xp ds).any (fun y => PyData.eqv y (toPy d)) = ds.any (fun z => eqD z d)
 | [] => by simp [xp]
 | x :: ds => by simp only [xp,List.any_cons,tJ d ds]; rfl
theorem op_inD {X : Cx} (hu : X.A.units + 20 < cLine) : OpR X (compareOp .In) (rInD X.K false) := by
 intro pins s σ H x y v u Q I rx ry h
 obtain ⟨d,ds,h1,h2,hs,q⟩ := h
 obtain ⟨as,ra⟩ := xc I h1 rx
 obtain ⟨bs,rb⟩ := xc I h2 ry
 simp only [toPy] at rb
 refine SeqAt.in_list_reads rb ra (uW ds) (uV d) ?_ ⟨.bl _,H,I,rfl,?_⟩
 ·have := wL 4 d hs
  have := Nat.min_le_right (PyData.depthAll (xp ds)) (toPy d).depth
  lia
 ·rw [tJ]; exact q
theorem zhI {X : Cx} (hu : X.A.units + 20 < cLine) : OpR X (compareOp .NotIn) (rInD X.K true) := by
 intro pins s σ H x y v u Q I rx ry h
 obtain ⟨d,ds,h1,h2,hs,q⟩ := h
 obtain ⟨as,ra⟩ := xc I h1 rx
 obtain ⟨bs,rb⟩ := xc I h2 ry
 simp only [toPy] at rb
 refine SeqAt.notIn_list_reads rb ra (uW ds) (uV d) ?_ ⟨.bl _,H,I,rfl,?_⟩
 ·have := wL 4 d hs
  have := Nat.min_le_right (PyData.depthAll (xp ds)) (toPy d).depth
  lia
 ·rw [tJ]; exact q
@[simp] noncomputable def gIn : D → D → Out Val
  | x,.lst ds => if shal 4 x = true then .ok (.pers (.bl (ds.any fun z => eqD z x))) else .bad
  | _,_ => .bad
@[simp] noncomputable def gNin : D → D → Out Val
  | x,.lst ds => if shal 4 x = true then .ok (.pers (.bl (!ds.any fun z => eqD z x))) else .bad
  | _,_ => .bad
theorem zi4 {K : PySem.W.Frag} : OpD K (rInD K true) gNin := by
 intro G₀ H₀ env σ G H v u d1 d2 val Q I o1 o2 e k
 unfold gNin at e
 split at e
 ·split at e
  ·rename_i hs
   cases e
   exact ⟨_,_,o1.rdv I,o2.rdv I,hs,k _ G H (Grow.refl _ _) I.le rfl⟩
  ·cases e
 ·cases e
@[simp] noncomputable def gIsN : D → D → Out Val
  | .non,.non => .ok (.pers (.bl true))
  | .int _,.non => .ok (.pers (.bl false))
  | .bl _,.non => .ok (.pers (.bl false))
  | .tup _,.non => .ok (.pers (.bl false))
  | .lst _,.non => .ok (.pers (.bl false))
  | _,_ => .bad
@[simp] noncomputable def wR : D → D → Out Val
  | .non,.non => .ok (.pers (.bl false))
  | .int _,.non => .ok (.pers (.bl true))
  | .bl _,.non => .ok (.pers (.bl true))
  | .tup _,.non => .ok (.pers (.bl true))
  | .lst _,.non => .ok (.pers (.bl true))
  | _,_ => .bad
theorem zi5 {K : PySem.W.Frag} : OpD K (fun x y H Q => y = .non ∧ Q (.bl (decide (x = .non))) H) gIsN := by
 intro G₀ H₀ env σ G H v u d1 d2 val Q I o1 o2 e k
 unfold gIsN at e
 split at e
 ·cases e; refine ⟨o2.non,?_⟩; rw [o1.non]; exact k _ G H (Grow.refl _ _) I.le rfl
 ·cases e; refine ⟨o2.non,?_⟩; rw [o1.int]; exact k _ G H (Grow.refl _ _) I.le rfl
 ·cases e; refine ⟨o2.non,?_⟩; rw [o1.bl]; exact k _ G H (Grow.refl _ _) I.le rfl
 ·cases e; refine ⟨o2.non,?_⟩; obtain ⟨a,_,rfl,_⟩ := Opd.tup I o1; exact k _ G H (Grow.refl _ _) I.le rfl
 ·cases e; refine ⟨o2.non,?_⟩; obtain ⟨a,_,rfl,_⟩ := Opd.lst I o1; exact k _ G H (Grow.refl _ _) I.le rfl
 ·cases e
theorem zeF {K : PySem.W.Frag} : OpD K (fun x y H Q => y = .non ∧ Q (.bl (!decide (x = .non))) H) wR := by
 intro G₀ H₀ env σ G H v u d1 d2 val Q I o1 o2 e k
 unfold wR at e
 split at e
 ·cases e; refine ⟨o2.non,?_⟩; rw [o1.non]; exact k _ G H (Grow.refl _ _) I.le rfl
 ·cases e; refine ⟨o2.non,?_⟩; rw [o1.int]; exact k _ G H (Grow.refl _ _) I.le rfl
 ·cases e; refine ⟨o2.non,?_⟩; rw [o1.bl]; exact k _ G H (Grow.refl _ _) I.le rfl
 ·cases e; refine ⟨o2.non,?_⟩; obtain ⟨a,_,rfl,_⟩ := Opd.tup I o1; exact k _ G H (Grow.refl _ _) I.le rfl
 ·cases e; refine ⟨o2.non,?_⟩; obtain ⟨a,_,rfl,_⟩ := Opd.lst I o1; exact k _ G H (Grow.refl _ _) I.le rfl
 ·cases e
section
variable {X : Cx} {G₀ H₀ : Hp} {pos : Pos} {a b : Expr} {fa fb : FE}
theorem zh5 (hu : X.A.units + 20 < cLine) (ha : DE X G₀ H₀ a fa) (hb : DE X G₀ H₀ b fb) : DE X G₀ H₀ (.Compare a [.Eq] [b] pos) (f2 gEq fa fb) := zdm (zgW hu) zi6 ha hb (wV _)
theorem zfj (ha : DE X G₀ H₀ a fa) (hb : DE X G₀ H₀ b fb) : DE X G₀ H₀ (.Compare a [.IsNot] [b] pos) (f2 wR fa fb) := zdm zeD zeF ha hb (wV _)
end
@[simp] noncomputable def gAdd : D → D → Out Val
  | .int i,.int j => .ok (.pers (.int (i + j)))
  | .lst xs,.lst ys => if xs.length + ys.length ≤ 100000 then .ok (.fresh (xs ++ ys)) else .bad
  | _,_ => .bad
theorem uT {n : Nat} (h : n ≤ 100000) : n ≤ sizeLine := by rw [sizeLine_eq]; lia
theorem zi7 {K : PySem.W.Frag} : OpD K (fun x y H Q => rI0 (fun i j => .int (i + j)) x y H Q ∨ rCat x y H Q) gAdd := by
 intro G₀ H₀ env σ G H v u d1 d2 val Q I o1 o2 e k
 unfold gAdd at e
 split at e
 ·rename_i i j
  cases e
  exact .inl ⟨i,j,o1.int,o2.int,k _ G H (Grow.refl _ _) I.le rfl⟩
 ·rename_i xs ys
  split at e
  ·rename_i hz
   cases e
   obtain ⟨a,vs,e1,h1,r1⟩ := Opd.lst I o1
   obtain ⟨b,us,e2,h2,r2⟩ := Opd.lst I o2
   refine .inr ⟨a,b,vs,us,e1,e2,h1,h2,uT (by rw [← r1.length,← r2.length]; exact hz),fun p hp => ?_⟩
   have g := Grow.laidL (o := .lst (vs ++ us)) I.le hp
   exact k _ G _ g.1 g.2 (xD I.le hp (r1.append r2))
  ·cases e
 ·cases e
theorem yS {X : Cx} {G₀ H₀ : Hp} {pos : Pos} {a b : Expr} {fa fb : FE} (ha : DE X G₀ H₀ a fa) (hb : DE X G₀ H₀ b fb) : DE X G₀ H₀ (.BinOp a .Add b pos) (f2 gAdd fa fb) := zco (zi2.or zi1) zi7 ha hb
@[simp] noncomputable def gIx : D → D → Out Val
  | .tup ds,.int i => match atI ds i with | some d => .ok (.pers d) | none => .bad
  | .lst ds,.int i => match atI ds i with | some d => .ok (.pers d) | none => .bad
  | .scr ns,.int i => match atI ns i with | some n => .ok (.pers (.int n)) | none => .bad
  | _,_ => .bad
theorem zfz {K : PySem.W.Frag} {G : Hp} {ds : List D} {vs : List V} {i : Int} {d : D} (r : RepL K G ds vs) (h : atI ds i = some d) : ∃ v,atI vs i = some v ∧ Rep K G d v := by
 unfold atI at h ⊢
 rw [← r.length]
 cases q : ixN ds.length i with
 | none => rw [q] at h; cases h
 | some j =>
   rw [q] at h
   obtain ⟨v,h1,h2⟩ := r.get (i := j) (d := d) h
   exact ⟨v,h1,h2⟩
theorem zif {α β : Type} (f : α → β) (xs : List α) (i : Int) : atI (xs.map f) i = (atI xs i).map f := by
 unfold atI
 rw [List.length_map]
 cases ixN xs.length i with
 | none => rfl
 | some j => simp
theorem od_ix {K : PySem.W.Frag} : OpD K (fun x y H Q => rIxL K x y H Q ∨ rIxT K x y H Q ∨ rIxS x y H Q) gIx := by
 intro G₀ H₀ env σ G H v u d1 d2 val Q I o1 o2 e k
 unfold gIx at e
 split at e
 ·rename_i ds i
  split at e
  ·rename_i d hd
   cases e
   obtain ⟨a,vs,e1,h1,r1⟩ := Opd.tup I o1
   obtain ⟨w,hw,rw'⟩ := zfz r1 hd
   exact .inr (.inl ⟨a,vs,i,w,e1,o2.int,SqT.of h1,hw,k w G H (Grow.refl _ _) I.le rw'⟩)
  ·cases e
 ·rename_i ds i
  split at e
  ·rename_i d hd
   cases e
   obtain ⟨a,vs,e1,h1,r1⟩ := Opd.lst I o1
   obtain ⟨w,hw,rw'⟩ := zfz r1 hd
   exact .inl ⟨a,vs,i,w,e1,o2.int,SqL.of h1,hw,k w G H (Grow.refl _ _) I.le rw'⟩
  ·cases e
 ·rename_i ns i
  split at e
  ·rename_i n hn
   cases e
   obtain ⟨a,e1,h1⟩ := Opd.scr I o1
   exact .inl ⟨a,ns.map V.int,i,.int n,e1,o2.int,h1,by rw [zif,hn]; rfl,k (.int n) G H (Grow.refl _ _) I.le rfl⟩
  ·cases e
 ·cases e
theorem zD {X : Cx} {G₀ H₀ : Hp} {pos : Pos} {a b : Expr} {fa fb : FE} (ha : DE X G₀ H₀ a fa) (hb : DE X G₀ H₀ b fb) (hs : zcD b := by intro _ _; rfl) : DE X G₀ H₀ (.Subscript a b pos) (f2 gIx fa fb) := de_ix zjl od_ix ha hb hs
noncomputable def cutD (xs : List D) (lo hi : Option Int) : List D := (xs.drop (HT.sIx xs.length 0 lo)).take (HT.sIx xs.length xs.length hi - HT.sIx xs.length 0 lo)
theorem zcp {K : PySem.W.Frag} {G : Hp} {ds : List D} {vs : List V} (lo hi : Option Int) (r : RepL K G ds vs) : RepL K G (cutD ds lo hi) (cutV vs lo hi) := by
 unfold cutD cutV
 rw [r.length]
 exact (r.drop _).take _
noncomputable abbrev FO := Ev → Out (Option Int)
@[simp] noncomputable def fNo : FO := fun _ => .ok none
@[simp] noncomputable def fSo (f : FE) : FO := fun env => (f env).bind fun v => match v.d with
  | .int i => .ok (some i)
  | _ => .bad
noncomputable def tO (K : PySem.W.Frag) (G₀ H₀ : Hp) (f : FO) : TO := fun σ H Q => ∃ env G o,DI K G₀ H₀ env σ G H ∧ f env = .ok o ∧ ∀ G' H',Grow G H G' H' → Same G' H' → Q o H'
noncomputable def DO (X : Cx) (G₀ H₀ : Hp) (e : Option Expr) (f : FO) : Prop := PO X e (tO X.K G₀ H₀ f)
section
variable {X : Cx} {G₀ H₀ : Hp} {pos p2 : Pos} {a e : Expr} {lo hi : Option Expr} {fa f : FE} {fl fh : FO}
theorem vL : DO X G₀ H₀ none fNo := fun pins s σ H Q I q => zhA pins s σ H Q I (by
 obtain ⟨env,G,o,J,h,k⟩ := q
 cases h
 exact k G H (Grow.refl _ _) J.le)
theorem xh (h : DE X G₀ H₀ e f) : DO X G₀ H₀ (some e) (fSo f) := fun pins s σ H Q I q => zhz h pins s σ H Q I (by
 obtain ⟨env,G,o,J,h,k⟩ := q
 obtain ⟨x,e1,h⟩ := zn h
 refine xQ J e1 fun v G' H' g l J' ov => ?_
 split at h
 ·rename_i i hi
  cases h
  rw [hi] at ov
  exact ⟨i,ov.int,k G' H' g l⟩
 ·cases h)
@[simp] noncomputable def gSl : D → Option Int → Option Int → Out Val
  | .lst ds,lo,hi => .ok (.fresh (cutD ds lo hi))
  | .tup ds,lo,hi => if HT.sIx ds.length 0 lo = 0 ∧ HT.sIx ds.length ds.length hi = ds.length then .bad else .ok (.pers (.tup (cutD ds lo hi)))
  | _,_,_ => .bad
@[simp] noncomputable def fSl (fa : FE) (fl fh : FO) : FE := fun env => (fa env).bind fun x => (fl env).bind fun l => (fh env).bind fun h => gSl x.d l h
theorem zcn (ha : DE X G₀ H₀ a fa) (hl : DO X G₀ H₀ lo fl) (hh : DO X G₀ H₀ hi fh) : DE X G₀ H₀ (.Subscript a (.Slice lo hi none p2) pos) (fSl fa fl fh) :=
 (zc0 (zef.or ziv) ha hl hh).imp fun σ H Q q => by
  obtain ⟨env,G,val,I,e,k⟩ := q
  obtain ⟨x,e1,e⟩ := zn e
  obtain ⟨l,e2,e⟩ := zn e
  obtain ⟨h,e3,e⟩ := zn e
  refine xQ I e1 fun v G1 H1 g1 l1 I1 o1 => ⟨env,G1,l,I1,e2,fun G2 H2 g2 l2 => ⟨env,G2,h,I1.grow g2 l2,e3,fun G3 H3 g3 l3 => ?_⟩⟩
  have I3 := (I1.grow g2 l2).grow g3 l3
  have o3 := (o1.mono g2.g).mono g3.g
  have g03 := (g1.trans g2).trans g3
  generalize x.d = dx at e o3
  cases dx with
  | lst ds =>
    cases e
    obtain ⟨a',vs,ev,h1,r1⟩ := Opd.lst I3 o3
    refine .inl ⟨a',vs,ev,SqL.of h1,fun p hp => ?_⟩
    have g := Grow.laidL (o := .lst (cutV vs l h)) l3 hp
    exact k _ G3 _ (g03.trans g.1) g.2 ((xD l3 hp (zcp l h r1)).base g03.h)
  | tup ds =>
    have e' : (if HT.sIx ds.length 0 l = 0 ∧ HT.sIx ds.length ds.length h = ds.length then Out.bad else Out.ok (.pers (.tup (cutD ds l h)))) = Out.ok val := e
    split at e'
    ·cases e'
    ·rename_i hw
     cases e'
     obtain ⟨a',vs,ev,h1,r1⟩ := Opd.tup I3 o3
     refine .inr ⟨a',vs,ev,SqT.of h1,by rw [← r1.length]; exact hw,fun p hp => ?_⟩
     have g := Grow.laidT (o := .tup (cutV vs l h)) l3 hp
     exact k _ _ _ (g03.trans g.1) g.2 ((zdX l3 hp (zcp l h r1)).base g03.h)
  | non => cases e
  | bl b => cases e
  | int i => cases e
  | scr ns => cases e
  | exc c p => cases e
end
@[simp] noncomputable def fNil : Ev → Out (List Val) := fun _ => .ok []
@[simp] noncomputable def frz : Val → Val
  | .fresh ds => .pers (.lst ds)
  | v => v
@[simp] noncomputable def zm (f : FE) (r : Ev → Out (List Val)) : Ev → Out (List Val) := fun env => (f env).bind fun x => (r env).bind fun xs => .ok (frz x :: xs)
@[simp] noncomputable def hNil : Ev → Out (List D) := fun _ => .ok []
@[simp] noncomputable def zw (f : FE) (r : Ev → Out (List D)) : Ev → Out (List D) := fun env => (f env).bind fun x => x.hold.bind fun d => (r env).bind fun xs => .ok (d :: xs)
section
variable {K : PySem.W.Frag} {env : Ev} {σ : St} {G G' : Hp}
theorem zcF.mono {v : V} {x : Val} (h : zcF K env σ G v x) (s : Same G G') : zcF K env σ G' v x := by
 cases x with
 | pers d => exact Rep.mono s h
 | fresh ds => exact h
 | brw i ds => exact h
theorem zgK {val : Val} {v : V} {H H' : Hp} (g : Grow G H G' H') (l : Same G' H') (h : w9 K H env σ G' H' v val) : ∃ G'',Grow G H G'' H' ∧ Same G'' H' ∧ zcF K env σ G'' v (frz val) := by
 cases val with
 | pers d => exact ⟨G',g,l,h⟩
 | brw i ds => exact ⟨G',g,l,h⟩
 | fresh ds => exact held g l h rfl
theorem zcF.opd {v : V} {x : Val} (h : zcF K env σ G v x) : Opd K env σ G v x.d := by
 cases x with
 | pers d => exact .inl h
 | fresh ds => exact h.elim
 | brw i ds => obtain ⟨a,e1,e2,e3⟩ := h; exact .inr ⟨i,ds,a,rfl,e1,e2,e3⟩
end
section
variable {X : Cx} {G₀ H₀ : Hp} {pos : Pos} {e : Expr} {es : List Expr} {f : FE} {r : Ev → Out (List Val)} {rh : Ev → Out (List D)}
theorem zF : DA X G₀ H₀ [] fNil := wU.imp fun σ H Q q => by
 obtain ⟨env,G,vals,I,h,k⟩ := q
 cases h
 exact k [] G H (Grow.refl _ _) I.le rfl
theorem zo (he : DE X G₀ H₀ e f) (hr : DA X G₀ H₀ es r) (hs : starEach (e :: es) X.env = (false,eval e X.env) :: starEach es X.env := by rfl) : DA X G₀ H₀ (e :: es) (zm f r) :=
 (xg he hr hs).imp fun σ H Q q => by
  obtain ⟨env,G,vals,I,h,k⟩ := q
  obtain ⟨x,e1,h⟩ := zn h
  obtain ⟨xs,e2,h⟩ := zn h
  cases h
  refine ⟨env,G,x,I,e1,fun v G1 H1 g1 l1 o1 => ?_⟩
  obtain ⟨G2,g2,l2,a2⟩ := zgK g1 l1 o1
  exact ⟨env,G2,xs,I.grow g2 l2,e2,fun vs G3 H3 g3 l3 a3 => k (v :: vs) G3 H3 (g2.trans g3) l3 ⟨_,_,rfl,a2.mono g3.g,a3⟩⟩
theorem zE : DH X G₀ H₀ [] hNil := wU.imp fun σ H Q q => by
 obtain ⟨env,G,vals,I,h,k⟩ := q
 cases h
 exact k [] G H (Grow.refl _ _) I.le rfl
theorem zu (he : DE X G₀ H₀ e f) (hr : DH X G₀ H₀ es rh) (hs : starEach (e :: es) X.env = (false,eval e X.env) :: starEach es X.env := by rfl) : DH X G₀ H₀ (e :: es) (zw f rh) :=
 (xg he hr hs).imp fun σ H Q q => by
  obtain ⟨env,G,vals,I,h,k⟩ := q
  obtain ⟨x,e1,h⟩ := zn h
  obtain ⟨d,ed,h⟩ := zn h
  obtain ⟨xs,e2,h⟩ := zn h
  cases h
  refine ⟨env,G,x,I,e1,fun v G1 H1 g1 l1 o1 => ?_⟩
  obtain ⟨G2,g2,l2,a2⟩ := held g1 l1 o1 ed
  exact ⟨env,G2,xs,I.grow g2 l2,e2,fun vs G3 H3 g3 l3 a3 => k (v :: vs) G3 H3 (g2.trans g3) l3 (RepL.cons (a2.mono g3.g) a3)⟩
@[simp] noncomputable def fTup (r : Ev → Out (List D)) : FE := fun env => (r env).bind fun ds => if ds.length ≤ 1000 then .ok (.pers (.tup ds)) else .bad
@[simp] noncomputable def fLst (r : Ev → Out (List D)) : FE := fun env => (r env).bind fun ds => if ds.length ≤ 1000 then .ok (.fresh ds) else .bad
theorem zT {x1} (h : DH X G₀ H₀ es rh) : DE X G₀ H₀ (.Tuple es x1 pos) (fTup rh) := (ziO h).imp fun σ H Q q => by
 obtain ⟨env,G,val,I,e,k⟩ := q
 obtain ⟨ds,e1,e⟩ := zn e
 split at e
 ·rename_i hz
  cases e
  refine ⟨env,G,ds,I,e1,fun vs G1 H1 g1 l1 r1 => ⟨uT (by rw [← r1.length]; lia),fun p hp => ?_⟩⟩
  have g := Grow.laidT (o := .tup vs) l1 hp
  exact k _ _ _ (g1.trans g.1) g.2 ((zdX l1 hp r1).base g1.h)
 ·cases e
theorem yL (h : DH X G₀ H₀ es rh) : DE X G₀ H₀ (.List es pos) (fLst rh) := (ziR h).imp fun σ H Q q => by
 obtain ⟨env,G,val,I,e,k⟩ := q
 obtain ⟨ds,e1,e⟩ := zn e
 split at e
 ·rename_i hz
  cases e
  refine ⟨env,G,ds,I,e1,fun vs G1 H1 g1 l1 r1 => ⟨uT (by rw [← r1.length]; lia),fun p hp => ?_⟩⟩
  have g := Grow.laidL (o := .lst vs) l1 hp
  exact k _ _ _ (g1.trans g.1) g.2 ((xD l1 hp r1).base g1.h)
 ·cases e
end
noncomputable def zbd (K : PySem.W.Frag) (r : List V → Hp → VK → Prop) (g : List D → Out Val) : Prop :=
 ∀ (G₀ H₀ : Hp) (env : Ev) (σ : St) (G H : Hp) (vs : List V) (xs : List Val) (val : Val) (Q : VK),DI K G₀ H₀ env σ G H → tQ K env σ G vs xs → g (xs.map Val.d) = .ok val →
   (∀ w G' H',Grow G H G' H' → Same G' H' → w9 K H env σ G' H' w val → Q w H') → r vs H Q
@[simp] noncomputable def fB (g : List D → Out Val) (r : Ev → Out (List Val)) : FE := fun env => (r env).bind fun xs => g (xs.map Val.d)
section
variable {X : Cx} {G₀ H₀ : Hp} {x : Str} {p pos : Pos} {e : Expr} {es : List Expr} {f : Ev → Out (List Val)} {id T : String} {r : List V → Hp → VK → Prop} {g : List D → Out Val}
theorem impB (hd : zbd X.K r g) (σ : St) (H : Hp) (Q : VK) (q : tE X.K G₀ H₀ (fB g f) σ H Q) : tCB r (tA X.K G₀ H₀ f) σ H Q := by
 obtain ⟨env,G,val,I,e,k⟩ := q
 obtain ⟨xs,e1,e⟩ := zn e
 exact ⟨env,G,xs,I,e1,fun vs G1 H1 g1 l1 a1 => hd G₀ H₀ env σ G1 H1 vs xs val Q (I.grow g1 l1) a1 e fun w G2 H2 g2 l2 h2 => k w G2 H2 (g1.trans g2) l2 (h2.base g1.h)⟩
theorem yw (hc : ui X (.builtin id) r) (hd : zbd X.K r g) (hm : X.mg x = none) (hv : bootBuiltins x = some (.builtin id)) (ha : DA X G₀ H₀ (e :: es) f) (hg : Gl X x := by rfl) (hn : x ≠ "__name__" := by decide) (hdb : (x == ("__debug__" : Str)) = false := by decide)
 (he : starEach (e :: es) X.env = (false,eval e X.env) :: starEach es X.env := by rfl) (hpl : (backTo pos (starEach es X.env)).any (·.1) = false := by rfl) : DE X G₀ H₀ (.Call (.Name x p) (e :: es) [] pos) (fB g f) :=
 (zc1 hc hg hm hv ha hn hdb he hpl).imp (impB hd)
theorem ut (hc : ui X (.type T) r) (hd : zbd X.K r g) (hm : X.mg x = none) (hv : bootBuiltins x = some (.type T)) (ha : DA X G₀ H₀ (e :: es) f) (hg : Gl X x := by rfl) (hn : x ≠ "__name__" := by decide) (hdb : (x == ("__debug__" : Str)) = false := by decide)
 (he : starEach (e :: es) X.env = (false,eval e X.env) :: starEach es X.env := by rfl) (hpl : (backTo pos (starEach es X.env)).any (·.1) = false := by rfl) : DE X G₀ H₀ (.Call (.Name x p) (e :: es) [] pos) (fB g f) :=
 (zbn hc hg hm hv ha hn hdb he hpl).imp (impB hd)
end
theorem tX {K : PySem.W.Frag} {env : Ev} {σ : St} {G : Hp} {vs : List V} {xs : List Val} {d : D} (h : tQ K env σ G vs xs) (e : xs.map Val.d = [d]) : ∃ v,vs = [v] ∧ Opd K env σ G v d := by
 cases vs with
 | nil => cases (show xs = [] from h); cases e
 | cons v vs =>
   obtain ⟨x,r,rfl,h1,h2⟩ := h
   simp only [List.map_cons,List.cons.injEq,List.map_eq_nil_iff] at e
   obtain ⟨rfl,rfl⟩ := e
   cases vs with
   | nil => exact ⟨v,rfl,h1.opd⟩
   | cons v' vs => obtain ⟨_,_,e,_⟩ := h2; cases e
theorem zjC {K : PySem.W.Frag} {env : Ev} {σ : St} {G : Hp} {vs : List V} {xs : List Val} {d d' : D} (h : tQ K env σ G vs xs) (e : xs.map Val.d = [d,d']) : ∃ v v',vs = [v,v'] ∧ Opd K env σ G v d ∧ Opd K env σ G v' d' := by
 cases vs with
 | nil => cases (show xs = [] from h); cases e
 | cons v vs =>
   obtain ⟨x,r,rfl,h1,h2⟩ := h
   simp only [List.map_cons,List.cons.injEq] at e
   obtain ⟨rfl,e⟩ := e
   obtain ⟨v',rfl,o⟩ := tX h2 e
   exact ⟨v,v',rfl,h1.opd,o⟩
@[simp] noncomputable def gLen : List D → Out Val
  | [.lst ds] => .ok (.pers (.int ds.length))
  | [.tup ds] => .ok (.pers (.int ds.length))
  | [.scr ns] => .ok (.pers (.int ns.length))
  | _ => .bad
theorem vZ {K : PySem.W.Frag} : zbd K (fun xs H Q => ∃ p ys,xs = [.ref p] ∧ (SqL K H p ys ∨ SqT K H p ys) ∧ Q (.int ys.length) H) gLen := by
 intro G₀ H₀ env σ G H vs xs val Q I a e k
 unfold gLen at e
 split at e
 ·rename_i ds hx
  cases e
  obtain ⟨v,rfl,o⟩ := tX a hx
  obtain ⟨p,us,rfl,h1,r1⟩ := Opd.lst I o
  refine ⟨p,us,rfl,.inl (SqL.of h1),?_⟩
  rw [← r1.length]
  exact k _ G H (Grow.refl _ _) I.le rfl
 ·rename_i ds hx
  cases e
  obtain ⟨v,rfl,o⟩ := tX a hx
  obtain ⟨p,us,rfl,h1,r1⟩ := Opd.tup I o
  refine ⟨p,us,rfl,.inr (SqT.of h1),?_⟩
  rw [← r1.length]
  exact k _ G H (Grow.refl _ _) I.le rfl
 ·rename_i ns hx
  cases e
  obtain ⟨v,rfl,o⟩ := tX a hx
  obtain ⟨p,rfl,h1⟩ := Opd.scr I o
  refine ⟨p,_,rfl,.inl h1,?_⟩
  rw [List.length_map]
  exact k _ G H (Grow.refl _ _) I.le rfl
 ·cases e
@[simp] noncomputable def v8 : List D → Out Val
  | [.int i,.int j] => .ok (.pers (.int (if j < i then j else i)))
  | _ => .bad
@[simp] noncomputable def ze3 : List D → Out Val
  | [.int i,.int j] => .ok (.pers (.int (if j > i then j else i)))
  | _ => .bad
theorem zcq {K : PySem.W.Frag} : zbd K (fun xs H Q => ∃ i j,xs = [.int i,.int j] ∧ Q (.int (if j < i then j else i)) H) v8 := by
 intro G₀ H₀ env σ G H vs xs val Q I a e k
 unfold v8 at e
 split at e
 ·rename_i i j hx
  cases e
  obtain ⟨v,v',rfl,o,o'⟩ := zjC a hx
  exact ⟨i,j,by rw [o.int,o'.int],k _ G H (Grow.refl _ _) I.le rfl⟩
 ·cases e
theorem zia {K : PySem.W.Frag} : zbd K (fun xs H Q => ∃ i j,xs = [.int i,.int j] ∧ Q (.int (if j > i then j else i)) H) ze3 := by
 intro G₀ H₀ env σ G H vs xs val Q I a e k
 unfold ze3 at e
 split at e
 ·rename_i i j hx
  cases e
  obtain ⟨v,v',rfl,o,o'⟩ := zjC a hx
  exact ⟨i,j,by rw [o.int,o'.int],k _ G H (Grow.refl _ _) I.le rfl⟩
 ·cases e
@[simp] noncomputable def gInt : List D → Out Val
  | [.int i] => .ok (.pers (.int i))
  | [.bl b] => .ok (.pers (.int (if b then 1 else 0)))
  | _ => .bad
theorem zjy {K : PySem.W.Frag} : zbd K (fun xs H Q => (∃ i,xs = [.int i] ∧ Q (.int i) H) ∨ ∃ k,xs = [.bl k] ∧ Q (.int (if k then 1 else 0)) H) gInt := by
 intro G₀ H₀ env σ G H vs xs val Q I a e k
 unfold gInt at e
 split at e
 ·rename_i i hx
  cases e
  obtain ⟨v,rfl,o⟩ := tX a hx
  exact .inl ⟨i,by rw [o.int],k _ G H (Grow.refl _ _) I.le rfl⟩
 ·rename_i b hx
  cases e
  obtain ⟨v,rfl,o⟩ := tX a hx
  exact .inr ⟨b,by rw [o.bl],k _ G H (Grow.refl _ _) I.le rfl⟩
 ·cases e
@[simp] noncomputable def zbE : List D → Out Val
  | [.lst ds] => .ok (.fresh ds)
  | [.tup ds] => .ok (.fresh ds)
  | _ => .bad
theorem zcr {K : PySem.W.Frag} : zbd K (fun xs H Q => ∃ p ys,xs = [.ref p] ∧ (SqL K H p ys ∨ SqT K H p ys) ∧ ∀ l,H l = none → Q (.ref l) (upd H l (.lst ys))) zbE := by
 intro G₀ H₀ env σ G H vs xs val Q I a e k
 unfold zbE at e
 split at e
 ·rename_i ds hx
  cases e
  obtain ⟨v,rfl,o⟩ := tX a hx
  obtain ⟨p,us,rfl,h1,r1⟩ := Opd.lst I o
  refine ⟨p,us,rfl,.inl (SqL.of h1),fun l hl => ?_⟩
  have g := Grow.laidL (o := .lst us) I.le hl
  exact k _ G _ g.1 g.2 (xD I.le hl r1)
 ·rename_i ds hx
  cases e
  obtain ⟨v,rfl,o⟩ := tX a hx
  obtain ⟨p,us,rfl,h1,r1⟩ := Opd.tup I o
  refine ⟨p,us,rfl,.inr (SqT.of h1),fun l hl => ?_⟩
  have g := Grow.laidL (o := .lst us) I.le hl
  exact k _ G _ g.1 g.2 (xD I.le hl r1)
 ·cases e
end DL
namespace DL
open PySem PySem.Spec PyProof.Rows L2
@[simp] noncomputable def trD : D → Out Bool
  | .non => .ok false
  | .bl b => .ok b
  | .int i => .ok (i != 0)
  | .lst ds => .ok (!ds.isEmpty)
  | .tup ds => .ok (!ds.isEmpty)
  | _ => .bad
@[simp] noncomputable def fTr (f : FE) : FT := fun env => (f env).bind fun x => trD x.d
@[simp] noncomputable def fTrB (f : FE) : FT := fun env => (f env).bind fun x => match x.d with
  | .bl b => .ok b
  | _ => .bad
@[simp] noncomputable def fAnd (f g : FT) : FT := fun env => (f env).bind fun c => if c = true then g env else .ok false
@[simp] noncomputable def fOr (f g : FT) : FT := fun env => (f env).bind fun c => if c = true then .ok true else g env
@[simp] noncomputable def fNot (f : FT) : FT := fun env => (f env).bind fun c => .ok (!c)
theorem uX {K : PySem.W.Frag} {G : Hp} {ds : List D} {vs : List V} (r : RepL K G ds vs) : ds.isEmpty = vs.isEmpty := by
 have := r.length
 cases ds <;> cases vs <;> simp_all
section
variable {X : Cx} {G₀ H₀ : Hp} {pos : Pos} {a b : Expr} {fa fb : FE} {ft fu : FT} {rest : List Expr}
theorem zap (ha : DE X G₀ H₀ a fa) (he : ∀ whole,isTrue a X.env whole = (do let v ← whole; standAt a.pos; holding [v] (truthy v)) := by intro _; rfl) : DT X G₀ H₀ a (fTr fa) :=
 (zf5 ha he).imp fun σ H Q q => by
  obtain ⟨env,G,c,I,e,k⟩ := q
  obtain ⟨x,e1,e⟩ := zn e
  refine xQ I e1 fun v G' H' g l I' o => ⟨c,?_,k G' H' g l⟩
  unfold trD at e
  split at e
  ·rename_i hd; rw [hd] at o; cases e; rw [o.non]; exact rfl
  ·rename_i b hd; rw [hd] at o; cases e; rw [o.bl]; exact rfl
  ·rename_i i hd; rw [hd] at o; cases e; rw [o.int]; exact rfl
  ·rename_i ds hd; rw [hd] at o; cases e
   obtain ⟨p,vs,rfl,h1,r1⟩ := Opd.lst I' o
   exact .inl ⟨vs,SqL.of h1,by rw [uX r1]⟩
  ·rename_i ds hd; rw [hd] at o; cases e
   obtain ⟨p,vs,rfl,h1,r1⟩ := Opd.tup I' o
   exact .inr (.inl ⟨vs,SqT.of h1,by rw [uX r1]⟩)
  ·cases e
theorem zd8 {f : FE} {K : PySem.W.Frag} {σ : St} {H : Hp} {Q : Bool → Hp → Prop} (q : tT K G₀ H₀ (fTrB f) σ H Q) : tE K G₀ H₀ f σ H fun x H' => ∃ k,x = .bl k ∧ Q k H' := by
 obtain ⟨env,G,c,I,e,k⟩ := q
 obtain ⟨x,e1,e⟩ := zn e
 refine xQ I e1 fun v G' H' g l I' o => ?_
 split at e
 ·rename_i b hd
  cases e
  rw [hd] at o
  exact ⟨c,o.bl,k G' H' g l⟩
 ·cases e
theorem tp {op : CmpOp} {r : R2} {g : D → D → Out Val} (ho : OpR X (compareOp op) r) (hd : OpD X.K r g) (ha : DE X G₀ H₀ a fa) (hb : DE X G₀ H₀ b fb) (hm : behindInMarks op b = false) : DT X G₀ H₀ (.Compare a [op] [b] pos) (fTrB (f2 g fa fb)) :=
 (zhw ho ha hb hm).imp fun σ H Q q => imp2 hd σ H _ (zd8 q)
theorem zh3 (ha : DE X G₀ H₀ a fa) (hb : DE X G₀ H₀ b fb) : DT X G₀ H₀ (.Compare a [.Lt] [b] pos) (fTrB (f2 gLt fa fb)) := tp zhJ vD ha hb (wV _)
theorem zfd (ha : DE X G₀ H₀ a fa) (hb : DE X G₀ H₀ b fb) : DT X G₀ H₀ (.Compare a [.Gt] [b] pos) (fTrB (f2 gGt fa fb)) := tp zi0 vD ha hb (wV _)
theorem zcm (hu : X.A.units + 20 < cLine) (ha : DE X G₀ H₀ a fa) (hb : DE X G₀ H₀ b fb) : DT X G₀ H₀ (.Compare a [.Eq] [b] pos) (fTrB (f2 gEq fa fb)) := tp (zgW hu) zi6 ha hb (wV _)
theorem zcl (hu : X.A.units + 20 < cLine) (ha : DE X G₀ H₀ a fa) (hb : DE X G₀ H₀ b fb) : DT X G₀ H₀ (.Compare a [.NotEq] [b] pos) (fTrB (f2 gNe fa fb)) := tp (ziW hu) od_ne ha hb (wV _)
theorem zjr (hu : X.A.units + 20 < cLine) (ha : DE X G₀ H₀ a fa) (hb : DE X G₀ H₀ b fb) (hm : behindInMarks .NotIn b = false := by with_unfolding_all rfl) : DT X G₀ H₀ (.Compare a [.NotIn] [b] pos) (fTrB (f2 gNin fa fb)) := tp (zhI hu) zi4 ha hb hm
theorem zjs (ha : DE X G₀ H₀ a fa) (hb : DE X G₀ H₀ b fb) : DT X G₀ H₀ (.Compare a [.Is] [b] pos) (fTrB (f2 gIsN fa fb)) := tp ziZ zi5 ha hb (wV _)
theorem zaZ (ha : DE X G₀ H₀ a fa) (hb : DE X G₀ H₀ b fb) : DT X G₀ H₀ (.Compare a [.IsNot] [b] pos) (fTrB (f2 wR fa fb)) := tp zeD zeF ha hb (wV _)
theorem zck (ha : DT X G₀ H₀ a ft) : DW X G₀ H₀ (.BoolOp .And [a] pos) ft := zhu ha
theorem ze9 (ha : DT X G₀ H₀ a ft) : DW X G₀ H₀ (.BoolOp .Or [a] pos) ft := ziB ha
theorem zfa (ha : DT X G₀ H₀ a ft) (hb : DW X G₀ H₀ (.BoolOp .And (b :: rest) pos) fu) : DW X G₀ H₀ (.BoolOp .And (a :: b :: rest) pos) (fAnd ft fu) :=
 (ziC ha hb).imp fun σ H Q q => by
  obtain ⟨env,G,c,I,e,k⟩ := q
  obtain ⟨x,e1,e⟩ := zn e
  refine ⟨env,G,x,I,e1,fun G' H' g l => ?_⟩
  cases x with
  | true => exact ⟨env,G',c,I.grow g l,e,fun G2 H2 g2 l2 => k G2 H2 (g.trans g2) l2⟩
  | false => cases e; exact k G' H' g l
theorem zh2 (ha : DT X G₀ H₀ a ft) (hb : DW X G₀ H₀ (.BoolOp .Or (b :: rest) pos) fu) : DW X G₀ H₀ (.BoolOp .Or (a :: b :: rest) pos) (fOr ft fu) :=
 (pw_or ha hb).imp fun σ H Q q => by
  obtain ⟨env,G,c,I,e,k⟩ := q
  obtain ⟨x,e1,e⟩ := zn e
  refine ⟨env,G,x,I,e1,fun G' H' g l => ?_⟩
  cases x with
  | true => cases e; exact k G' H' g l
  | false => exact ⟨env,G',c,I.grow g l,e,fun G2 H2 g2 l2 => k G2 H2 (g.trans g2) l2⟩
theorem dt_w (h : DW X G₀ H₀ a ft) : DT X G₀ H₀ a ft := PW.pt h
theorem zfc (ha : DT X G₀ H₀ a ft) : DT X G₀ H₀ (.UnaryOp .Not a pos) (fNot ft) := (ziG ha).imp fun σ H Q q => by
 obtain ⟨env,G,c,I,e,k⟩ := q
 obtain ⟨x,e1,e⟩ := zn e
 cases e
 exact ⟨env,G,x,I,e1,fun G' H' g l => k G' H' g l⟩
@[simp] noncomputable def ze6 (f g : FE) : FE := fun env => (f env).bind fun x => match x.d with
  | .bl true => g env
  | .bl false => .ok (.pers (.bl false))
  | _ => .bad
theorem zha {op} (h : DE X G₀ H₀ a fa) : DE X G₀ H₀ (.BoolOp op [a] pos) fa := ziP h
theorem zfk (ha : DE X G₀ H₀ a fa) (hb : DE X G₀ H₀ (.BoolOp .And (b :: rest) pos) fb) : DE X G₀ H₀ (.BoolOp .And (a :: b :: rest) pos) (ze6 fa fb) :=
 (ziT ha hb).imp fun σ H Q q => by
  obtain ⟨env,G,val,I,e,k⟩ := q
  obtain ⟨x,e1,e⟩ := zn e
  refine xQ I e1 fun v G' H' g l I' o => ?_
  split at e
  ·rename_i hd; rw [hd] at o
   exact ⟨true,o.bl,iteT ⟨env,G',val,I',e,fun w G2 H2 g2 l2 h2 => k w G2 H2 (g.trans g2) l2 (h2.base g.h)⟩⟩
  ·rename_i hd; rw [hd] at o; cases e
   exact ⟨false,o.bl,iteF (k _ G' H' g l rfl)⟩
  ·cases e
@[simp] noncomputable def fIf (ft : FT) (fa fb : FE) : FE := fun env => (ft env).bind fun c => if c = true then fa env else fb env
theorem de_if {c : Expr} (hc : DT X G₀ H₀ c ft) (ha : DE X G₀ H₀ a fa) (hb : DE X G₀ H₀ b fb) : DE X G₀ H₀ (.IfExp c a b pos) (fIf ft fa fb) :=
 (zgb hc ha hb).imp fun σ H Q q => by
  obtain ⟨env,G,val,I,e,k⟩ := q
  obtain ⟨x,e1,e⟩ := zn e
  refine ⟨env,G,x,I,e1,fun G' H' g l => ?_⟩
  cases x with
  | true => exact iteT ⟨env,G',val,I.grow g l,e,fun w G2 H2 g2 l2 h2 => k w G2 H2 (g.trans g2) l2 (h2.base g.h)⟩
  | false => exact iteF ⟨env,G',val,I.grow g l,e,fun w G2 H2 g2 l2 h2 => k w G2 H2 (g.trans g2) l2 (h2.base g.h)⟩
@[simp] noncomputable def fCh (g g' : D → D → Out Val) (fa fb fc : FE) : FE := fun env => (fa env).bind fun x => (fb env).bind fun y => (g x.d y.d).bind fun z => match z.d with
  | .bl true => (fc env).bind fun w => g' y.d w.d
  | .bl false => .ok (.pers (.bl false))
  | _ => .bad
theorem zjm {c : Expr} {fc : FE} {r r' : R2} {g g' : D → D → Out Val} (hd : OpD X.K r g) (hd' : OpD X.K r' g') (σ : St) (H : Hp) (Q : VK) (q : tE X.K G₀ H₀ (fCh g g' fa fb fc) σ H Q) :
 zgP r r' (tE X.K G₀ H₀ fa) (tE X.K G₀ H₀ fb) (tE X.K G₀ H₀ fc) σ H Q := by
 obtain ⟨env,G,val,I,e,k⟩ := q
 obtain ⟨x,e1,e⟩ := zn e
 obtain ⟨y,e2,e⟩ := zn e
 obtain ⟨z,e3,e⟩ := zn e
 refine zgO I e1 e2 fun v u G1 H1 g1 l1 I1 o1 o2 => hd G₀ H₀ env σ G1 H1 v u _ _ z _ I1 o1 o2 e3 fun w G2 H2 g2 l2 h2 => ?_
 obtain ⟨G3,g3,l3,o3⟩ := opd g2 l2 h2
 split at e
 ·rename_i hz
  rw [hz] at o3
  obtain ⟨w',e4,e⟩ := zn e
  refine ⟨true,o3.bl,iteT (xQ (I1.grow g3 l3) e4 fun t G4 H4 g4 l4 I4 o4 => hd' G₀ H₀ env σ G4 H4 u t _ _ val Q I4 ((o2.mono g3.g).mono g4.g) o4 e fun s G5 H5 g5 l5 h5 => ?_)⟩
  have g04 := (g1.trans g3).trans g4
  exact k s G5 H5 (g04.trans g5) l5 (h5.base g04.h)
 ·rename_i hz
  rw [hz] at o3
  cases e
  exact ⟨false,o3.bl,iteF (k _ G3 H2 (g1.trans g3) l3 rfl)⟩
 ·cases e
theorem zfe {c : Expr} {fc : FE} (ha : DE X G₀ H₀ a fa) (hb : DE X G₀ H₀ b fb) (hc : DE X G₀ H₀ c fc) (hm : lastMarks [.Lt,.Lt] [b,c] = false := by with_unfolding_all rfl) : DT X G₀ H₀ (.Compare a [.Lt,.Lt] [b,c] pos) (fTrB (fCh gLt gLt fa fb fc)) :=
 (zf6 zhJ zhJ ha hb hc hm).imp fun σ H Q q => zjm (c := c) vD vD σ H _ (zd8 q)
end
theorem yn {α : Type} {l : List α} {i : Nat} {x s : α} (h : (l.set i x)[i]? = some s) : s = x ∧ i < l.length := by
 rw [List.getElem?_set] at h
 simp at h
 exact ⟨h.2.symm,h.1⟩
section
variable {K : PySem.W.Frag} {G₀ H₀ G H : Hp} {env : Ev} {σ : St}
theorem DI.setP (I : DI K G₀ H₀ env σ G H) {d : D} {v : V} (i : Nat) (r : Rep K G d v) : DI K G₀ H₀ (env.set i (.pers d)) (σ.set i (some v)) G H where
 le := I.le
 gr := I.gr
 len := by simp [I.len]
 slot := fun j s e => by
  by_cases hj : i = j
  ·subst hj
   obtain ⟨rfl,hl⟩ := yn e
   exact ⟨v,by rw [List.getElem?_set]; simp [I.len ▸ hl],r⟩
  ·rw [List.getElem?_set_ne hj] at e
   have q := I.slot j s e
   cases s with
   | un => trivial
   | pers d' => obtain ⟨u,h1,h2⟩ := q; exact ⟨u,by rw [List.getElem?_set_ne hj]; exact h1,h2⟩
   | own ds => obtain ⟨a,vs,o⟩ := q; exact ⟨a,vs,by rw [List.getElem?_set_ne hj]; exact o.at_,o.hp,o.gn,o.new,o.rep⟩
 apart := fun j k ds es a hjk e1 e2 s1 s2 => by
  have nj : i ≠ j := fun z => by subst z; cases (yn e1).1
  have nk : i ≠ k := fun z => by subst z; cases (yn e2).1
  rw [List.getElem?_set_ne nj] at e1 s1
  rw [List.getElem?_set_ne nk] at e2 s2
  exact I.apart j k ds es a hjk e1 e2 s1 s2
theorem DI.setO (I : DI K G₀ H₀ env σ G H) {ds : List D} {vs : List V} {a : Addr} (i : Nat) (ha : H a = some (.lst vs)) (hg : G a = none) (h0 : H₀ a = none) (r : RepL K G ds vs)
 (ne : ∀ (j : Nat) (es : List D),env[j]? = some (.own es) → σ[j]? ≠ some (some (.ref a))) : DI K G₀ H₀ (env.set i (.own ds)) (σ.set i (some (.ref a))) G H where
 le := I.le
 gr := I.gr
 len := by simp [I.len]
 slot := fun j s e => by
  by_cases hj : i = j
  ·subst hj
   obtain ⟨rfl,hl⟩ := yn e
   exact ⟨a,vs,by rw [List.getElem?_set]; simp [I.len ▸ hl],ha,hg,h0,r⟩
  ·rw [List.getElem?_set_ne hj] at e
   have q := I.slot j s e
   cases s with
   | un => trivial
   | pers d' => obtain ⟨u,h1,h2⟩ := q; exact ⟨u,by rw [List.getElem?_set_ne hj]; exact h1,h2⟩
   | own ds => obtain ⟨a,vs,o⟩ := q; exact ⟨a,vs,by rw [List.getElem?_set_ne hj]; exact o.at_,o.hp,o.gn,o.new,o.rep⟩
 apart := fun j k ds' es b hjk e1 e2 s1 s2 => by
  by_cases hj : i = j
  ·subst hj
   have hl := (yn e1).2
   rw [List.getElem?_set] at s1
   simp [I.len ▸ hl] at s1
   subst s1
   rw [List.getElem?_set_ne hjk] at e2 s2
   exact ne k es e2 s2
  ·by_cases hk : i = k
   ·subst hk
    have hl := (yn e2).2
    rw [List.getElem?_set] at s2
    simp [I.len ▸ hl] at s2
    subst s2
    rw [List.getElem?_set_ne hj] at e1 s1
    exact ne j ds' e1 s1
   ·rw [List.getElem?_set_ne hj] at e1 s1
    rw [List.getElem?_set_ne hk] at e2 s2
    exact I.apart j k ds' es b hjk e1 e2 s1 s2
theorem DI.mut (I : DI K G₀ H₀ env σ G H) {i : Nat} {ds ds' : List D} {a : Addr} {vs vs' : List V} (e : env[i]? = some (.own ds)) (o : SlotOwn K H₀ σ G H i ds a vs) (r : RepL K G ds' vs') :
 DI K G₀ H₀ (env.set i (.own ds')) σ G (upd H a (.lst vs')) where
 le := fun b u q => by rw [zG (zC q o.gn)]; exact I.le b u q
 gr := ⟨I.gr.g,fun b u q => by rw [zG (zC q o.new)]; exact I.gr.h b u q,I.gr.n⟩
 len := by simp [I.len]
 slot := fun j s e' => by
  by_cases hj : i = j
  ·subst hj
   obtain ⟨rfl,hl⟩ := yn e'
   exact ⟨a,vs',o.at_,zS,o.gn,o.new,r⟩
  ·rw [List.getElem?_set_ne hj] at e'
   have q := I.slot j s e'
   cases s with
   | un => trivial
   | pers d' => exact q
   | own es =>
     obtain ⟨b,us,p⟩ := q
     have hb : b ≠ a := fun z => by subst z; exact I.apart i j ds es b hj e e' o.at_ p.at_
     exact ⟨b,us,p.at_,by rw [zG hb]; exact p.hp,p.gn,p.new,p.rep⟩
 apart := fun j k ds' es b hjk e1 e2 s1 s2 => by
  have h1 : ∃ ds1,env[j]? = some (.own ds1) := by
   by_cases hj : i = j
   ·subst hj; exact ⟨_,e⟩
   ·rw [List.getElem?_set_ne hj] at e1; exact ⟨_,e1⟩
  have h2 : ∃ ds1,env[k]? = some (.own ds1) := by
   by_cases hk : i = k
   ·subst hk; exact ⟨_,e⟩
   ·rw [List.getElem?_set_ne hk] at e2; exact ⟨_,e2⟩
  obtain ⟨x1,h1⟩ := h1
  obtain ⟨x2,h2⟩ := h2
  exact I.apart j k x1 x2 b hjk h1 h2 s1 s2
end
theorem zdV.mono {K : PySem.W.Frag} {G₀ H₀ G G' : Hp} {D : Ends} {r : Res} (h : zdV K G₀ H₀ G D r) (s : Same G G') : zdV K G₀ H₀ G' D r := by
 cases r with
 | next env => exact fun σ' G2 H2 s2 I2 => h σ' G2 H2 (s.trans s2) I2
 | ret v => exact h
@[simp] noncomputable def setS (i : Nat) (fz : Bool) (f : FE) : FS := fun env => (f env).bind fun x => match x with
  | .pers d => .ok (.next (env.set i (.pers d)))
  | .fresh ds => .ok (.next (env.set i (if fz then .pers (.lst ds) else .own ds)))
  | .brw _ _ => .bad
section
variable {K : PySem.W.Frag} {G₀ H₀ : Hp}
theorem zbj {i : Nat} {fz : Bool} {f : FE} {D : Ends} {σ : St} {H : Hp} (q : tS K G₀ H₀ (setS i fz f) D σ H) : tE K G₀ H₀ f σ H fun x H1 => D.nx (σ.set i (some x)) H1 := by
 obtain ⟨env,G,r,I,e,k⟩ := q
 obtain ⟨x,e1,e⟩ := zn e
 refine ⟨env,G,x,I,e1,fun v G' H' g l h => ?_⟩
 have I' := I.grow g l
 cases x with
 | pers d =>
   cases e
   exact k _ G' H' g.g (I'.setP i h)
 | brw j ds => cases e
 | fresh ds =>
   cases e
   cases fz with
   | true =>
     obtain ⟨G2,g2,l2,h2⟩ := held g l h rfl
     exact k _ G2 H' g2.g ((I.grow g2 l2).setP i h2)
   | false =>
     obtain ⟨a,vs,rfl,h1,h2,h3,h4⟩ := h
     refine k _ G' H' g.g (I'.setO i h2 h3 (I.gr.h.free h1) h4 fun j es e2 s2 => ?_)
     obtain ⟨b,us,o⟩ := I.own e2
     have z := o.at_
     rw [s2] at z
     cases z
     have z := o.hp
     rw [h1] at z
     cases z
end
section
variable {X : Cx} {G₀ H₀ : Hp} {pos : Pos}
theorem zz {i : Nat} {x : Str} {e : Expr} {f : FE} {pos' : Pos} (fz : Bool) (hN : X.N.Nodup) (he : DE X G₀ H₀ e f) (hi : X.N[i]? = some x := by rfl) (hx : Loc X.env.scope x := by first | exact Or.inl rfl | exact Or.inr rfl)
 (hs : swapsWith e (some (.Name x pos')) pos.line X.env = pure false := by rfl) (hf : X.fn x = true ∨ X.env.scope.names.lookup x = some .local := by first | exact .inl rfl | exact .inr rfl) :
 DS X G₀ H₀ (.Assign [.Name x pos'] e pos) (setS i fz f) := (ziH hN hi hx he hs hf).imp fun D σ H q => zbj q
end
noncomputable def tG (K : PySem.W.Frag) (G₀ H₀ : Hp) (g : D → Ev → Out Ev) : TG := fun v σ H Q => ∃ env G d env',DI K G₀ H₀ env σ G H ∧ Rep K G d v ∧ g d env = .ok env' ∧ ∀ σ',DI K G₀ H₀ env' σ' G H → Q σ' H
@[simp] noncomputable def setAll : List Nat → List D → Ev → Ev
  | i :: is,d :: ds,env => setAll is ds (env.set i (.pers d))
  | _,_,env => env
noncomputable def tGs (K : PySem.W.Frag) (G₀ H₀ : Hp) (is : List Nat) : TGs := fun vs σ H Q => ∃ env G ds,DI K G₀ H₀ env σ G H ∧ RepL K G ds vs ∧ ds.length = is.length ∧ ∀ σ',DI K G₀ H₀ (setAll is ds env) σ' G H → Q σ' H
noncomputable def DG (X : Cx) (G₀ H₀ : Hp) (tg : Expr) (g : D → Ev → Out Ev) : Prop := PG X tg (tG X.K G₀ H₀ g)
noncomputable def DGs (X : Cx) (G₀ H₀ : Hp) (ts : List Expr) (is : List Nat) : Prop := PGs X ts (tGs X.K G₀ H₀ is)
@[simp] noncomputable def gN (i : Nat) : D → Ev → Out Ev := fun d env => .ok (env.set i (.pers d))
@[simp] noncomputable def gT (is : List Nat) : D → Ev → Out Ev := fun d env => match d with
  | .tup ds => if ds.length = is.length then .ok (setAll is ds env) else .bad
  | _ => .bad
section
variable {X : Cx} {G₀ H₀ : Hp} {pos : Pos}
theorem yI {i : Nat} {x : Str} (hN : X.N.Nodup) (hi : X.N[i]? = some x := by rfl) (hx : Loc X.env.scope x := by first | exact Or.inl rfl | exact Or.inr rfl) (hf : X.fn x = true ∨ X.env.scope.names.lookup x = some .local := by first | exact .inl rfl | exact .inr rfl) :
 DG X G₀ H₀ (.Name x pos) (gN i) := fun pins s σ H v u Q I r q => zeB hN hi hx hf pins s σ H v u Q I r (by
 obtain ⟨env,G,d,env',J,h,e,k⟩ := q
 cases e
 exact k _ (J.setP i h))
theorem xi : DGs X G₀ H₀ [] [] := fun pins s σ H vs us Q I r q => zhD pins s σ H vs us Q I r (by
 obtain ⟨env,G,ds,J,h,e,k⟩ := q
 cases ds with
 | nil => cases (show vs = [] from h); exact ⟨rfl,k σ J⟩
 | cons d ds => cases e)
theorem zA {i : Nat} {x : Str} {es : List Expr} {is : List Nat} (hN : X.N.Nodup) (hr : DGs X G₀ H₀ es is) (hi : X.N[i]? = some x := by rfl) (hx : Loc X.env.scope x := by first | exact Or.inl rfl | exact Or.inr rfl) (hf : X.fn x = true ∨ X.env.scope.names.lookup x = some .local := by first | exact .inl rfl | exact .inr rfl)
 (hs : (assignEach (.Name x pos :: es) X.env).map (·.2) = assign (.Name x pos) X.env :: (assignEach es X.env).map (·.2) := by rfl) :
 DGs X G₀ H₀ (.Name x pos :: es) (i :: is) := fun pins s σ H vs us Q I r q => zga (zeB hN hi hx hf) hr hs pins s σ H vs us Q I r (by
 obtain ⟨env,G,ds,J,h,e,k⟩ := q
 cases ds with
 | nil => cases e
 | cons d ds =>
   obtain ⟨v,vr,rfl,h1,h2⟩ := h
   exact ⟨v,vr,rfl,env.set i (.pers d),G,ds,J.setP i h1,h2,by simpa using e,k⟩)
theorem wj {es : List Expr} {k : Nat} {is : List Nat} (hc : X.calm = true) (h : DGs X G₀ H₀ es is) (hn : (assignEach es X.env).length = is.length := by rfl) (hst : (assignEach es X.env).findIdx? (·.1) = none := by rfl) :
 DG X G₀ H₀ (.Tuple es k pos) (gT is) := fun pins s σ H v u Q I r q => ziL hc h hn hst pins s σ H v u Q I r (by
 obtain ⟨env,G,d,env',J,h,e,k⟩ := q
 unfold gT at e
 split at e
 ·rename_i ds
  split at e
  ·rename_i hl
   cases e
   obtain ⟨a,vs,e1,h1,r1⟩ := h
   exact ⟨a,vs,e1,SqT.of (J.le _ _ h1),by rw [← r1.length]; exact hl,env,G,ds,J,r1,hl,k⟩
  ·cases e
 ·cases e)
@[simp] noncomputable def asgS (g : D → Ev → Out Ev) (f : FE) : FS := fun env => (f env).bind fun x => x.hold.bind fun d => (g d env).bind fun env' => .ok (.next env')
theorem zg8 {tg e : Expr} {f : FE} {g : D → Ev → Out Ev} (he : DE X G₀ H₀ e f) (hg : DG X G₀ H₀ tg g) (hs : swapsWithSole [tg] e pos.line X.env = pure false := by rfl) (hw : swappedStores [tg] e X.env = pure none := by rfl)
 (h1 : (assignEach [tg] X.env).map (·.2) = [assign tg X.env] := by rfl) : DS X G₀ H₀ (.Assign [tg] e pos) (asgS g f) := (zgU he hg hs hw h1).imp fun D σ H q => by
 obtain ⟨env,G,r,I,e,k⟩ := q
 obtain ⟨x,e1,e⟩ := zn e
 obtain ⟨d,e2,e⟩ := zn e
 obtain ⟨env',e3,e⟩ := zn e
 cases e
 refine ⟨env,G,x,I,e1,fun v G' H' g l h => ?_⟩
 obtain ⟨G2,g2,l2,h2⟩ := held g l h e2
 exact ⟨env,G2,d,env',I.grow g2 l2,h2,e3,fun σ' I' => k σ' G2 H' g2.g I'⟩
end
@[simp] noncomputable def retS (f : FE) : FS := fun env => (f env).bind fun x => match x with
  | .brw _ ds => .ok (.ret (.fresh ds))
  | x => .ok (.ret x)
@[simp] noncomputable def nxtS : FS := fun env => .ok (.next env)
@[simp] noncomputable def ifS (ft : FT) (f g : FS) : FS := fun env => (ft env).bind fun c => if c = true then f env else g env
@[simp] noncomputable def seqS (f g : FS) : FS := fun env => (f env).bind fun r => match r with
  | .next env' => g env'
  | .ret v => .ok (.ret v)
section
variable {X : Cx} {G₀ H₀ : Hp} {pos : Pos}
theorem z9 {e : Expr} {f : FE} (he : DE X G₀ H₀ e f) : DS X G₀ H₀ (.Return (some e) pos) (retS f) := (ziI he).imp fun D σ H q => by
 obtain ⟨env,G,r,I,e,k⟩ := q
 obtain ⟨x,e1,e⟩ := zn e
 refine ⟨env,G,x,I,e1,fun v G' H' g l h => ?_⟩
 cases x with
 | pers d => cases e; exact k v G' H' (I.gr.trans g) l h
 | fresh ds =>
   cases e
   obtain ⟨a,vs,rfl,h1,h2⟩ := h
   exact k _ G' H' (I.gr.trans g) l ⟨a,vs,rfl,I.gr.h.free h1,h2⟩
 | brw i ds =>
   cases e
   obtain ⟨a,rfl,e2,e3⟩ := h
   obtain ⟨b,vs,o⟩ := (I.grow g l).own e2
   have z := o.at_
   rw [e3] at z
   cases z
   exact k _ G' H' (I.gr.trans g) l ⟨a,vs,rfl,o.new,o.hp,o.gn,o.rep⟩
theorem xy {c : Expr} {a b : List Stmt} {ft : FT} {f g : FS} (hc : DT X G₀ H₀ c ft) (ha : DSs X G₀ H₀ a f) (hb : DSs X G₀ H₀ b g) : DS X G₀ H₀ (.If c a b pos) (ifS ft f g) := (ps_if hc ha hb).imp fun D σ H q => by
 obtain ⟨env,G,r,I,e,k⟩ := q
 obtain ⟨x,e1,e⟩ := zn e
 refine ⟨env,G,x,I,e1,fun G' H' g l => ?_⟩
 cases x with
 | true => exact iteT ⟨env,G',r,I.grow g l,e,k.mono g.g⟩
 | false => exact iteF ⟨env,G',r,I.grow g l,e,k.mono g.g⟩
theorem zY : DSs X G₀ H₀ [] nxtS := zhy.imp fun D σ H q => by
 obtain ⟨env,G,r,I,e,k⟩ := q
 cases e
 exact k σ G H (Same.refl _) I
theorem zl {st : Stmt} {rest : List Stmt} {f g : FS} (h1 : DS X G₀ H₀ st f) (h2 : DSs X G₀ H₀ rest g) : DSs X G₀ H₀ (st :: rest) (seqS f g) := (zf7 h1 h2).imp fun D σ H q => by
 obtain ⟨env,G,r,I,e,k⟩ := q
 obtain ⟨x,e1,e⟩ := zn e
 refine ⟨env,G,x,I,e1,?_⟩
 cases x with
 | next env' => exact fun σ' G' H' s I' => ⟨env',G',r,I',e,k.mono s⟩
 | ret v => cases e; exact k
theorem zx {st : Stmt} {f : FS} (h1 : DS X G₀ H₀ st f) : DSs X G₀ H₀ [st] f := zhx h1
end
@[simp] noncomputable def appS (i : Nat) (f : FE) : FS := fun env => match env[i]? with
  | some (.own ds) => if ds.length < 100000 then (f env).bind fun x => x.hold.bind fun d => .ok (.next (env.set i (.own (ds ++ [d])))) else .bad
  | _ => .bad
@[simp] noncomputable def popS (i : Nat) : FS := fun env => match env[i]? with
  | some (.own ds) => if ds.length = 0 then .bad else .ok (.next (env.set i (.own ds.dropLast)))
  | _ => .bad
@[simp] noncomputable def extS (i : Nat) (f : FE) : FS := fun env => match env[i]? with
  | some (.own ds) => (f env).bind fun x => match x with
    | .pers (.lst es) => if ds.length + es.length ≤ 100000 then .ok (.next (env.set i (.own (ds ++ es)))) else .bad
    | .fresh es => if ds.length + es.length ≤ 100000 then .ok (.next (env.set i (.own (ds ++ es)))) else .bad
    | _ => .bad
  | _ => .bad
@[simp] noncomputable def putS (i : Nat) (fk f : FE) : FS := fun env => match env[i]? with
  | some (.own ds) => (f env).bind fun x => x.hold.bind fun d => (fk env).bind fun y => match y.d with
    | .int k => match ixN ds.length k with
      | some j => .ok (.next (env.set i (.own (ds.set j d))))
      | none => .bad
    | _ => .bad
  | _ => .bad
section
variable {X : Cx} {G₀ H₀ : Hp} {pos p1 apos cpos : Pos} {i : Nat} {x : Str} {e : Expr} {f : FE}
theorem yr (hv : PE X (.Name x p1) (tVar i)) (he : DE X G₀ H₀ e f) (hfew : ((backTo cpos (starEach [e] X.env)).all (fun x => !x.1) && (backToKw cpos (keywordEach [] X.env)).all (fun x => x.1.isSome)
 && decide ([e].length + ([] : List Keyword).length + (if ([] : List Keyword).isEmpty then 0 else 1) < 30)) = true := by rfl)
 (hline : (apos.endLine == cpos.line) = true := by rfl) (hs : starEach [e] X.env = [(false,eval e X.env)] := by rfl) :
 DS X G₀ H₀ (.Expr (.Call (.Attribute (.Name x p1) "append" apos) [e] [] cpos) pos) (appS i f) :=
 (zaH (zhH PySem.F.plainAttrs_list PySem.F.slot_list_append PySem.F.type_list_append uR hv (xg he wU hs) rfl hfew hline hs rfl) rfl).imp fun D σ H q => by
  obtain ⟨env,G,r,I,e,k⟩ := q
  unfold appS at e
  split at e
  ·rename_i ds hd
   split at e
   ·rename_i hz
    obtain ⟨y,e1,e⟩ := zn e
    obtain ⟨d,e2,e⟩ := zn e
    cases e
    obtain ⟨a,vs,o⟩ := I.own hd
    refine ⟨.ref a,o.at_,.inl ⟨rfl,vs,SqL.of o.hp⟩,env,G,y,I,e1,fun v G' H' g l h => ?_⟩
    obtain ⟨G2,g2,l2,h2⟩ := held g l h e2
    have I2 := I.grow g2 l2
    obtain ⟨b,us,o2⟩ := I2.own hd
    have z := o2.at_
    rw [o.at_] at z
    cases z
    exact ⟨a,us,v,rfl,rfl,o2.hp,by rw [← o2.rep.length,sizeLine_eq]; lia,k σ G2 _ g2.g (I2.mut hd o2 (o2.rep.append (RepL.cons h2 RepL.nil)))⟩
   ·cases e
  ·cases e
theorem zju (hv : PE X (.Name x p1) (tVar i)) (hline : (apos.endLine == cpos.line) = true := by rfl) :
 DS X G₀ H₀ (.Expr (.Call (.Attribute (.Name x p1) "pop" apos) [] [] cpos) pos) (popS i) :=
 (zaH (zgV PySem.F.plainAttrs_list PySem.F.slot_list_pop PySem.F.type_list_pop zgY hv rfl hline) rfl).imp fun D σ H q => by
  obtain ⟨env,G,r,I,e,k⟩ := q
  unfold popS at e
  split at e
  ·rename_i ds hd
   split at e
   ·cases e
   ·rename_i hz
    cases e
    obtain ⟨a,vs,o⟩ := I.own hd
    have hl := o.rep.length
    have hv2 : vs[vs.length - 1]? = some (vs[vs.length - 1]'(by lia)) := List.getElem?_eq_getElem (by lia)
    exact ⟨.ref a,o.at_,.inl ⟨rfl,vs,SqL.of o.hp⟩,a,vs,_,rfl,rfl,o.hp,hv2,k σ G _ (Same.refl _) (I.mut hd o o.rep.dropLast)⟩
  ·cases e
theorem zbM (hv : PE X (.Name x p1) (tVar i)) (he : DE X G₀ H₀ e f) (hfew : ((backTo cpos (starEach [e] X.env)).all (fun x => !x.1) && (backToKw cpos (keywordEach [] X.env)).all (fun x => x.1.isSome)
 && decide ([e].length + ([] : List Keyword).length + (if ([] : List Keyword).isEmpty then 0 else 1) < 30)) = true := by rfl)
 (hline : (apos.endLine == cpos.line) = true := by rfl) (hs : starEach [e] X.env = [(false,eval e X.env)] := by rfl) :
 DS X G₀ H₀ (.Expr (.Call (.Attribute (.Name x p1) "extend" apos) [e] [] cpos) pos) (extS i f) :=
 (zaH (zhH PySem.F.plainAttrs_list PySem.F.slot_list_extend PySem.F.type_list_extend zeL hv (xg he wU hs) rfl hfew hline hs rfl) rfl).imp fun D σ H q => by
  obtain ⟨env,G,r,I,e,k⟩ := q
  have main : ∀ ds es y,env[i]? = some (.own ds) → f env = .ok y → y.hold = .ok (.lst es) → ds.length + es.length ≤ 100000 → r = .next (env.set i (.own (ds ++ es))) →
   ziq (tBM X.K "list" zeu (tVar i) (zir (tE X.K G₀ H₀ f) tNil)) D σ H := by
   intro ds es y hd e1 e2 hz hr
   subst hr
   obtain ⟨a,vs,o⟩ := I.own hd
   refine ⟨.ref a,o.at_,.inl ⟨rfl,vs,SqL.of o.hp⟩,env,G,y,I,e1,fun v G' H' g l h => ?_⟩
   obtain ⟨G2,g2,l2,h2⟩ := held g l h e2
   have I2 := I.grow g2 l2
   obtain ⟨b,us,o2⟩ := I2.own hd
   have z := o2.at_
   rw [o.at_] at z
   cases z
   obtain ⟨c,ws,rfl,h3,r3⟩ := h2
   exact ⟨a,c,us,ws,rfl,rfl,o2.hp,l2 _ _ h3,by rw [← o2.rep.length,← r3.length]; exact uT hz,k σ G2 _ g2.g (I2.mut hd o2 (o2.rep.append r3))⟩
  unfold extS at e
  split at e
  ·rename_i ds hd
   obtain ⟨y,e1,e⟩ := zn e
   split at e
   ·rename_i es
    split at e
    ·rename_i hz
     exact main ds es _ hd e1 rfl hz (by cases e; rfl)
    ·cases e
   ·rename_i es
    split at e
    ·rename_i hz
     exact main ds es _ hd e1 rfl hz (by cases e; rfl)
    ·cases e
   ·cases e
  ·cases e
theorem zjt {tpos : Pos} {ek : Expr} {fk : FE} (hv : PE X (.Name x p1) (tVar i)) (hk : DE X G₀ H₀ ek fk) (he : DE X G₀ H₀ e f)
 (ha : ∀ v,assign (.Subscript (.Name x p1) ek tpos) X.env v = (do
  let ov ← holding [v] (eval (.Name x p1) X.env)
  let iv ← holding [v,ov] (eval ek X.env)
  standAt tpos
  holding [v,ov,iv] (setItem ov iv v)
  release [v,ov,iv] []) := by intro _; rfl)
 (hs : swapsWithSole [.Subscript (.Name x p1) ek tpos] e pos.line X.env = pure false := by rfl) (hw : swappedStores [.Subscript (.Name x p1) ek tpos] e X.env = pure none := by rfl)
 (h1 : (assignEach [.Subscript (.Name x p1) ek tpos] X.env).map (·.2) = [assign (.Subscript (.Name x p1) ek tpos) X.env] := by rfl) :
 DS X G₀ H₀ (.Assign [.Subscript (.Name x p1) ek tpos] e pos) (putS i fk f) :=
 (zgU he (ziM hv hk zfV ha) hs hw h1).imp fun D σ H q => by
  obtain ⟨env,G,r,I,e,k⟩ := q
  unfold putS at e
  split at e
  ·rename_i ds hd
   obtain ⟨y,e1,e⟩ := zn e
   obtain ⟨d,e2,e⟩ := zn e
   obtain ⟨z,e3,e⟩ := zn e
   split at e
   ·rename_i kk hkk
    split at e
    ·rename_i j hj
     cases e
     refine ⟨env,G,y,I,e1,fun v G' H' g l h => ?_⟩
     obtain ⟨G2,g2,l2,h2⟩ := held g l h e2
     have I2 := I.grow g2 l2
     obtain ⟨b,us,o2⟩ := I2.own hd
     refine ⟨.ref b,o2.at_,xQ I2 e3 fun w G3 H3 g3 l3 I3 o3 => ?_⟩
     rw [hkk] at o3
     obtain ⟨c,ws,o4⟩ := I3.own hd
     have z := o4.at_
     rw [o2.at_] at z
     cases z
     exact ⟨b,ws,kk,j,rfl,o3.int,o4.hp,by rw [← o4.rep.length]; exact hj,k σ G3 _ (g2.g.trans g3.g) (I3.mut hd o4 (o4.rep.set (h2.mono g3.g) j))⟩
    ·cases e
   ·cases e
  ·cases e
end
structure JOk (K : PySem.W.Frag) (J : It) (G : Hp) (ds : List D) : Prop where
 go : ∀ i G' H',Same G G' → Same G' H' → i < ds.length → J.go i H'
 stop : ∀ i G' H',Same G G' → Same G' H' → ds.length ≤ i → J.stop i H'
 yld : ∀ i G' H' x H1,Same G G' → Same G' H' → i < ds.length → J.yld i H' x H1 → ∃ d G1,ds[i]? = some d ∧ Grow G' H' G1 H1 ∧ Same G1 H1 ∧ Rep K G1 d x
noncomputable abbrev FI := Ev → Out (List D)
noncomputable def tI (K : PySem.W.Frag) (G₀ H₀ : Hp) (f : FI) : TI := fun σ H R => ∃ env G ds,DI K G₀ H₀ env σ G H ∧ f env = .ok ds ∧ ∀ J G' H',Grow G H G' H' → Same G' H' → JOk K J G' ds → R J H'
noncomputable def DIt (X : Cx) (G₀ H₀ : Hp) (tg iter : Expr) (f : FI) : Prop := PI X tg iter (tI X.K G₀ H₀ f)
theorem _root_.L2.PI.imp {X : Cx} {tg e : Expr} {t t' : TI} (h : PI X tg e t) (i : ∀ σ H Q,t' σ H Q → t σ H Q) : PI X tg e t' := fun pins s σ H Q I q => h pins s σ H Q I (i σ H Q q)
@[simp] noncomputable def fItL (f : FE) : FI := fun env => (f env).bind fun x => x.hold.bind fun d => match d with
  | .lst ds => .ok ds
  | .scr ns => .ok (ns.map .int)
  | _ => .bad
noncomputable def rngD (lo : Int) (n : Nat) : List D := (List.range n).map fun (i : Nat) => .int (lo + i)
@[simp] noncomputable def zaV (f : Ev → Out (List Val)) : FI := fun env => (f env).bind fun xs => match xs.map Val.d with
  | [.int j] => if -1000000 ≤ j ∧ j ≤ 1000000 then .ok (rngD 0 j.toNat) else .bad
  | _ => .bad
theorem zdb {K : PySem.W.Frag} {G : Hp} {a : Addr} {ds : List D} {vs : List V} (h : SqL K G a vs) (r : RepL K G ds vs) : JOk K (Itl K a) G ds where
 go := fun i G' H' s l hi => ⟨vs,vs[i]'(by rw [← r.length]; exact hi),l.seq (s.seq h),List.getElem?_eq_getElem _⟩
 stop := fun i G' H' s l hi => ⟨vs,l.seq (s.seq h),by rw [← r.length]; exact hi⟩
 yld := fun i G' H' x H1 s l hi y => by
  obtain ⟨e,y⟩ := y
  subst e
  have hx := y vs (l.seq (s.seq h))
  obtain ⟨d,h1,h2⟩ := r.get' hx
  exact ⟨d,G',h1,Grow.refl _ _,l,h2.mono s⟩
theorem zeW {K : PySem.W.Frag} {G : Hp} (lo : Int) (n : Nat) : JOk K (Itr lo n) G (rngD lo n) where
 go := fun i G' H' s l hi => by have h : i < n := by simpa [rngD] using hi
                                exact h
 stop := fun i G' H' s l hi => by have h : n ≤ i := by simpa [rngD] using hi
                                  exact h
 yld := fun i G' H' x H1 s l hi y => by
  obtain ⟨e,y⟩ := y
  subst e
  have hi' : i < n := by simpa [rngD] using hi
  exact ⟨.int (lo + i),G',by simp [rngD,hi'],Grow.refl _ _,l,y⟩
section
variable {X : Cx} {G₀ H₀ : Hp} {tg : Expr}
theorem yx {l : Expr} {f : FE} (h : DE X G₀ H₀ l f) : DIt X G₀ H₀ tg l (fItL f) := (zhC h).imp fun σ H R q => by
 obtain ⟨env,G,ds,I,e,k⟩ := q
 obtain ⟨x,e1,e⟩ := zn e
 obtain ⟨d,e2,e⟩ := zn e
 refine ⟨env,G,x,I,e1,fun v G' H' g l h => ?_⟩
 obtain ⟨G2,g2,l2,h2⟩ := held g l h e2
 split at e
 ·cases e
  obtain ⟨a,vs,rfl,h3,r3⟩ := h2
  exact ⟨a,rfl,⟨vs,SqL.of (l2 _ _ h3)⟩,k _ G2 H' g2 l2 (zdb (SqL.of h3) r3)⟩
 ·rename_i ns
  cases e
  obtain ⟨a,rfl,h3⟩ := h2
  exact ⟨a,rfl,⟨_,l2.seq h3⟩,k _ G2 H' g2 l2 (zdb h3 (RepL.ints ns))⟩
 ·cases e
theorem vy {a : Expr} {f : Ev → Out (List Val)} {p pos : Pos} (hm : X.mg "range" = none) (ha : DA X G₀ H₀ [a] f) (hg : Gl X "range" := by rfl) (hs : starEach [a] X.env = [(false,eval a X.env)] := by rfl) :
 DIt X G₀ H₀ tg (.Call (.Name "range" p) [a] [] pos) (zaV f) := (zeA hg hm ha hs).imp fun σ H R q => by
 obtain ⟨env,G,ds,I,e,k⟩ := q
 obtain ⟨xs,e1,e⟩ := zn e
 refine ⟨env,G,xs,I,e1,fun vs G' H' g l h => ?_⟩
 split at e
 ·rename_i j hj
  split at e
  ·rename_i hb
   cases e
   obtain ⟨v,rfl,o⟩ := tX h hj
   exact ⟨j,by rw [o.int],by lia,by lia,k _ G' H' g l (zeW 0 _)⟩
  ·cases e
 ·cases e
end
noncomputable def forD (g : D → Ev → Out Ev) (fb : FS) : List D → Ev → Out Res
 | [],env => .ok (.next env)
 | d :: ds,env => (g d env).bind fun env1 => (fb env1).bind fun r => match r with
   | .next env2 => forD g fb ds env2
   | .ret v => .ok (.ret v)
@[simp] noncomputable def forS (fi : FI) (g : D → Ev → Out Ev) (fb : FS) : FS := fun env => (fi env).bind fun ds => forD g fb ds env
noncomputable def whlD (ft : FT) (fb : FS) : Nat → Ev → Out Res
 | 0,_ => .bad
 | n + 1,env => (ft env).bind fun c => if c = true then (fb env).bind fun r => match r with
   | .next env2 => whlD ft fb n env2
   | .ret v => .ok (.ret v)
   else .ok (.next env)
section
variable {X : Cx} {G₀ H₀ : Hp} {tg : Expr} {pos : Pos}
theorem vx {iter : Expr} {body : List Stmt} {fi : FI} {g : D → Ev → Out Ev} {fb : FS} (hp : PassesOwn (model X.prog X.w) X.A X.env X.xe) (hi : DIt X G₀ H₀ tg iter fi) (hg : DG X G₀ H₀ tg g) (hb : DSs X G₀ H₀ body fb) (hc : X.calm = true := by rfl)
 (hs : ∀ x,foldedSetIterable iter X.env x = pure x := by intro _; rfl) : DS X G₀ H₀ (.For tg iter body [] pos) (forS fi g fb) := (ziJ hp hc hi hg hb hs).imp fun D σ H q => by
 obtain ⟨env,G,r,I,e,k⟩ := q
 obtain ⟨ds,e1,e⟩ := zn e
 refine ⟨env,G,ds,I,e1,fun J G1 H1 g1 l1 jok => ?_⟩
 refine ⟨fun i m σ H => m = ds.length - i ∧ i ≤ ds.length ∧ ∃ env' G',Same G1 G' ∧ DI X.K G₀ H₀ env' σ G' H ∧ forD g fb (ds.drop i) env' = .ok r,⟨ds.length,by simp,Nat.zero_le _,env,G1,Same.refl _,I.grow g1 l1,by simpa using e⟩,?_⟩
 rintro i m σ' H' ⟨rfl,hi',env',G',s',I',e'⟩
 by_cases hlt : i < ds.length
 ·have hd : ds.drop i = ds[i] :: ds.drop (i + 1) := List.drop_eq_getElem_cons hlt
  rw [hd] at e'
  obtain ⟨env1,e2,e'⟩ := zn e'
  obtain ⟨r1,e3,e'⟩ := zn e'
  refine .inr ⟨jok.go i G' H' s' I'.le hlt,fun σ2 H2 => ∃ env2 G2,Same G1 G2 ∧ DI X.K G₀ H₀ env2 σ2 G2 H2 ∧ forD g fb (ds.drop (i + 1)) env2 = .ok r,fun σ2 H2 ⟨env2,G2,s2,I2,e2⟩ => ⟨ds.length - (i + 1),by lia,rfl,hlt,env2,G2,s2,I2,e2⟩,fun x H2 y => ?_⟩
  obtain ⟨d,G2,hd2,g2,l2,r2⟩ := jok.yld i G' H' x H2 s' I'.le hlt y
  have hde : d = ds[i] := by rw [List.getElem?_eq_getElem hlt] at hd2; exact (Option.some.inj hd2).symm
  subst hde
  refine ⟨env',G2,_,env1,I'.grow g2 l2,r2,e2,fun σ2 I2 => ⟨env1,G2,r1,I2,e3,?_⟩⟩
  cases r1 with
  | next env2 => exact fun σ3 G3 H3 s3 I3 => ⟨env2,G3,(s'.trans g2.g).trans s3,I3,e'⟩
  | ret v => cases e'; exact k
 ·have hi2 : i = ds.length := by lia
  subst hi2
  rw [List.drop_length] at e'
  cases e'
  exact .inl ⟨jok.stop _ G' H' s' I'.le (Nat.le_refl _),k σ' G' H' (g1.g.trans s') I'⟩
theorem zgy {c : Expr} {body : List Stmt} {ft : FT} {fb : FS} (n : Nat) (hp : PassesOwn (model X.prog X.w) X.A X.env X.xe) (hc : DT X G₀ H₀ c ft) (hb : DSs X G₀ H₀ body fb) : DS X G₀ H₀ (.While c body [] pos) (whlD ft fb n) :=
 (zf8 hp hc hb).imp fun D σ H q => by
  obtain ⟨env,G,r,I,e,k⟩ := q
  refine ⟨fun m σ H => ∃ env' G',Same G G' ∧ DI X.K G₀ H₀ env' σ G' H ∧ whlD ft fb m env' = .ok r,⟨n,env,G,Same.refl _,I,e⟩,?_⟩
  rintro m σ' H' ⟨env',G',s',I',e'⟩
  cases m with
  | zero => cases e'
  | succ m =>
    obtain ⟨c',e1,e'⟩ := zn e'
    refine ⟨env',G',c',I',e1,fun G2 H2 g2 l2 => ?_⟩
    cases c' with
    | true =>
      rw [if_pos rfl] at e' ⊢
      obtain ⟨r1,e2,e'⟩ := zn e'
      refine ⟨fun σ2 H2 => ∃ env' G',Same G G' ∧ DI X.K G₀ H₀ env' σ2 G' H2 ∧ whlD ft fb m env' = .ok r,fun σ3 H3 h3 => ⟨m,Nat.lt_succ_self _,h3⟩,env',G2,r1,I'.grow g2 l2,e2,?_⟩
      cases r1 with
      | next env2 => exact fun σ3 G3 H3 s3 I3 => ⟨env2,G3,(s'.trans g2.g).trans s3,I3,e'⟩
      | ret v => cases e'; exact k
    | false =>
      rw [if_neg Bool.false_ne_true] at e' ⊢
      cases e'
      exact k σ' G2 H2 (s'.trans g2.g) (I'.grow g2 l2)
end
noncomputable def spD (K : PySem.W.Frag) (m : List D → Out Val) (n : Nat) : Sp := fun vs H Q _ => ∃ G ds val,ds.length = n ∧ Same G H ∧ RepL K G ds vs ∧ m ds = .ok val ∧
 ∀ v G' H',Grow G H G' H' → Same G' H' → w9 K H [] [] G' H' v val → Q v H'
@[simp] noncomputable def runD (n : Nat) (f : FS) (ds : List D) : Out Val := (f (ds.map Slot.pers ++ List.replicate (n - ds.length) .un)).bind fun r => match r with
  | .ret v => .ok v
  | .next _ => .ok (.pers .non)
theorem zfP {K : PySem.W.Frag} {G H : Hp} {ds : List D} {vs : List V} {N : List Str} (l : Same G H) (r : RepL K G ds vs) (hl : ds.length ≤ N.length) :
 DI K G H (ds.map Slot.pers ++ List.replicate (N.length - ds.length) .un) (L2.uA N vs) G H where
 le := l
 gr := Grow.refl _ _
 len := by unfold L2.uA; simp [r.length]
 slot := fun i s e => by
  by_cases hi : i < ds.length
  ·rw [List.getElem?_append_left (by simpa using hi),List.getElem?_map,List.getElem?_eq_getElem hi] at e
   cases e
   obtain ⟨v,h1,h2⟩ := r.get (List.getElem?_eq_getElem hi)
   refine ⟨v,?_,h2⟩
   unfold L2.uA
   rw [List.getElem?_append_left (by simp [← r.length,hi]),List.getElem?_map,h1]
   rfl
  ·rw [List.getElem?_append_right (by simpa using hi),List.getElem?_replicate] at e
   split at e
   ·cases e; trivial
   ·cases e
 apart := fun i j es fs a _ e _ _ _ => by
  by_cases hi : i < ds.length
  ·rw [List.getElem?_append_left (by simpa using hi),List.getElem?_map,List.getElem?_eq_getElem hi] at e
   cases e
  ·rw [List.getElem?_append_right (by simpa using hi),List.getElem?_replicate] at e
   split at e <;> cases e
theorem xU {P : Program} {w : World} {K : PySem.W.Frag} {mg : Str → Option Value} {base : Heap} {x qual : Str} {st : Stmt} {f : Addr} {fd : FuncData} {N ps : List Str} {k : Nat} {fb : FS} (F : Fun K x qual st f fd) (S : FnScope N ps (defScope st))
 (hb : ∀ (cdv : Value) (A : Around) (outer : List Env) (s : Shared) (G H : Hp) (E : XK),Room k (A.deeper (envOfC qual (defScope st) s.heap.objs.size f cdv)) →
  DSs (cxOf CX0 P w K mg base N qual (defScope st) f cdv A outer s H E).nox G H (defBody st) fb) : FnOk P w K mg base CX0 (k + 1) f fd ps (spD K (runD N.length fb) ps.length) := by
 have hpl : ps.length ≤ N.length := by have := congrArg List.length S.pre; rw [List.length_take] at this; lia
 refine F.ok S (fun vs H Q E h => ?_) fun cdv A outer s H vs Q E hr h => ?_
 ·obtain ⟨G,ds,val,hl,_,r,_⟩ := h
  rw [← r.length]; exact hl
 ·obtain ⟨G,ds,val,hl,l,r,hm,k'⟩ := h
  refine ⟨_,hb cdv A outer s G H E hr,?_⟩
  obtain ⟨r',e1,e2⟩ := zn hm
  refine ⟨_,G,r',zfP l r (by lia),e1,?_⟩
  cases r' with
  | next env => cases e2; exact fun σ' G' H' s' I' => k' _ G' H' I'.gr I'.le rfl
  | ret v => cases e2; exact fun v' G' H' g' l' h' => k' v' G' H' g' l' h'
mutual
noncomputable def zb6 : D → Bool
 | .tup ds => uP ds
 | .lst _ => false
 | .scr _ => false
 | .exc _ _ => false
 | _ => true
noncomputable def uP : List D → Bool
 | [] => true
 | d :: ds => zb6 d && uP ds
end
@[simp] noncomputable def Val.calm : Val → Bool
  | .pers d => zb6 d
  | .fresh ds => uP ds
  | .brw _ _ => false
@[simp] noncomputable def Val.isPers : Val → Bool
  | .pers _ => true
  | _ => false
@[simp] noncomputable def callG (m : List D → Out Val) (xs : List Val) : Out Val := (m (xs.map Val.d)).bind fun v => if (xs.all Val.isPers || v.calm) = true then .ok v else .bad
@[simp] noncomputable def zI (m : List D → Out Val) (r : Ev → Out (List Val)) : FE := fun env => (r env).bind fun xs => callG m xs
theorem zfD {K : PySem.W.Frag} {env : Ev} {σ : St} {G : Hp} : ∀ {vs : List V} {xs : List Val},tQ K env σ G vs xs → xs.all Val.isPers = true → RepL K G (xs.map Val.d) vs
 | [],xs,h,_ => by cases (show xs = [] from h); rfl
 | v :: vs,xs,h,hp => by
   obtain ⟨x,r,rfl,h1,h2⟩ := h
   rw [List.all_cons,Bool.and_eq_true] at hp
   cases x with
   | pers d => exact RepL.cons h1 (zfD h2 hp.2)
   | fresh ds => cases hp.1
   | brw i ds => cases hp.1
noncomputable def wX (env : Ev) (σ : St) (b : Addr) : Prop := ∃ (i : Nat) (ds : List D),env[i]? = some (.own ds) ∧ σ[i]? = some (some (.ref b))
open Classical in
noncomputable def lend (env : Ev) (σ : St) (G H : Hp) : Hp := fun b => if wX env σ b then H b else G b
open Classical in
noncomputable def wS (env : Ev) (σ : St) (G : Hp) : Hp := fun b => if wX env σ b then none else G b
section
variable {K : PySem.W.Frag} {G₀ H₀ G H : Hp} {env : Ev} {σ : St}
theorem DI.lent (I : DI K G₀ H₀ env σ G H) {b : Addr} (h : wX env σ b) : G b = none ∧ ∃ vs,H b = some (.lst vs) := by
 obtain ⟨i,ds,e1,e2⟩ := h
 obtain ⟨a,vs,o⟩ := I.own e1
 have z := o.at_
 rw [e2] at z
 cases z
 exact ⟨o.gn,vs,o.hp⟩
theorem zb8 (I : DI K G₀ H₀ env σ G H) : Same G (lend env σ G H) := fun b o q => by
 unfold lend
 by_cases h : wX env σ b
 ·rw [(I.lent h).1] at q; cases q
 ·rw [if_neg h]; exact q
theorem zhR (I : DI K G₀ H₀ env σ G H) : Same (lend env σ G H) H := fun b o q => by
 unfold lend at q
 by_cases h : wX env σ b
 ·rw [if_pos h] at q; exact q
 ·rw [if_neg h] at q; exact I.le b o q
theorem zbw (I : DI K G₀ H₀ env σ G H) : ∀ {vs : List V} {xs : List Val},tQ K env σ G vs xs → RepL K (lend env σ G H) (xs.map Val.d) vs
 | [],xs,h => by cases (show xs = [] from h); rfl
 | v :: vs,xs,h => by
   obtain ⟨x,r,rfl,h1,h2⟩ := h
   refine RepL.cons ?_ (zbw I h2)
   cases x with
   | pers d => exact Rep.mono (zb8 I) h1
   | fresh ds => exact h1.elim
   | brw i ds =>
     obtain ⟨a,rfl,e1,e2⟩ := h1
     obtain ⟨b,us,o⟩ := I.own e1
     have z := o.at_
     rw [e2] at z
     cases z
     exact ⟨a,us,rfl,by unfold lend; rw [if_pos ⟨i,ds,e1,e2⟩]; exact o.hp,o.rep.mono (zb8 I)⟩
mutual
theorem tY (I : DI K G₀ H₀ env σ G H) {G' : Hp} (s : Same (lend env σ G H) G') : ∀ {d : D} {v : V},zb6 d = true → Rep K G' d v → Rep K (wS env σ G') d v
 | .non,_,_,h => h
 | .bl _,_,_,h => h
 | .int _,_,_,h => h
 | .tup ds,v,n,h => by
   obtain ⟨a,vs,e,g,r⟩ := h
   refine ⟨a,vs,e,?_,w6 I s (by simpa [zb6] using n) r⟩
   unfold wS
   by_cases hl : wX env σ a
   ·obtain ⟨_,us,q⟩ := I.lent hl
    have z : lend env σ G H a = some (.lst us) := by unfold lend; rw [if_pos hl]; exact q
    rw [s _ _ z] at g
    cases g
   ·rw [if_neg hl]; exact g
 | .lst _,_,n,_ => by simp [zb6] at n
 | .scr _,_,n,_ => by simp [zb6] at n
 | .exc _ _,_,n,_ => by simp [zb6] at n
theorem w6 (I : DI K G₀ H₀ env σ G H) {G' : Hp} (s : Same (lend env σ G H) G') : ∀ {ds : List D} {vs : List V},uP ds = true → RepL K G' ds vs → RepL K (wS env σ G') ds vs
 | [],_,_,h => h
 | d :: ds,vs,n,h => by
   obtain ⟨v,r,e,h1,h2⟩ := h
   simp only [uP,Bool.and_eq_true] at n
   exact ⟨v,r,e,tY I s n.1 h1,w6 I s n.2 h2⟩
end
end
section
variable {X : Cx} {G₀ H₀ : Hp} {k : Nat} {f : Addr} {fd : FuncData} {ps : List Str} {x : Str} {p pos : Pos} {e : Expr} {es : List Expr} {r : Ev → Out (List Val)} {m : List D → Out Val}
theorem zh6 (F : FnOk X.prog X.w X.K X.mg X.base CX0 k f fd ps (spD X.K m ps.length)) (hr : Room k X.A) (hm : X.mg x = some (.ref f)) (hk : PySem.W.keepIn X.K (.ref f) = true) (hb : Binds X.K fd ps []) (ha : DA X G₀ H₀ (e :: es) r)
 (hlen : ∀ env xs,r env = .ok xs → xs.length = ps.length) (hg : Gl X x := by rfl) (hdb : (x == ("__debug__" : Str)) = false := by decide) (he : starEach (e :: es) X.env = (false,eval e X.env) :: starEach es X.env := by rfl) (hpl : (backTo pos (starEach es X.env)).any (·.1) = false := by rfl) :
 DE X G₀ H₀ (.Call (.Name x p) (e :: es) [] pos) (zI m r) := (zhG F hr hg hm hk hb .nil pass0 ha hdb he hpl).imp fun σ H Q q => by
 obtain ⟨env,G,val,I,e,k'⟩ := q
 obtain ⟨xs,e1,e⟩ := zn e
 obtain ⟨v,e2,e⟩ := zn e
 split at e
 ·rename_i hc
  have ev : v = val := by cases e; rfl
  subst ev
  refine ⟨env,G,xs,I,e1,fun vs G1 H1 g1 l1 a1 => ?_⟩
  show spD X.K m ps.length (vs ++ []) H1 Q E0
  rw [List.append_nil]
  have I1 := I.grow g1 l1
  have hl : (xs.map Val.d).length = ps.length := by rw [List.length_map]; exact hlen env xs e1
  by_cases hp : xs.all Val.isPers = true
  ·refine ⟨G1,_,v,hl,l1,zfD a1 hp,e2,fun w G2 H2 g2 l2 h2 => k' w G2 H2 (g1.trans g2) l2 ?_⟩
   cases v with
   | pers d => exact h2
   | fresh ds =>
     obtain ⟨a,us,rfl,h3,h4⟩ := h2
     exact ⟨a,us,rfl,g1.h.free h3,h4⟩
   | brw i ds => obtain ⟨a,rfl,h3,_⟩ := h2; simp at h3
  ·have hcv : v.calm = true := by simpa [hp] using hc
   refine ⟨lend env σ G1 H1,_,v,hl,zhR I1,zbw I1 a1,e2,fun w G2 H2 g2 l2 h2 => ?_⟩
   have gu : Grow G1 H1 (wS env σ G2) H2 := by
    refine ⟨fun b o q => ?_,g2.h,fun b q1 q2 => ?_⟩
    ·unfold wS
     by_cases hl : wX env σ b
     ·rw [(I1.lent hl).1] at q; cases q
     ·rw [if_neg hl]; exact g2.g b o (zb8 I1 b o q)
    ·unfold wS
     by_cases hl : wX env σ b
     ·rw [if_pos hl]
     ·rw [if_neg hl]
      refine g2.n b q1 ?_
      unfold lend
      rw [if_neg hl]; exact q2
   have lu : Same (wS env σ G2) H2 := fun b o q => by
    unfold wS at q
    by_cases hl : wX env σ b
    ·rw [if_pos hl] at q; cases q
    ·rw [if_neg hl] at q; exact l2 b o q
   refine k' w (wS env σ G2) H2 (g1.trans gu) lu ?_
   cases v with
   | pers d => exact tY I1 g2.g hcv h2
   | fresh ds =>
     obtain ⟨a,us,rfl,h3,h4,h5,h6⟩ := h2
     refine ⟨a,us,rfl,g1.h.free h3,h4,?_,w6 I1 g2.g hcv h6⟩
     unfold wS
     by_cases hl : wX env σ a
     ·rw [if_pos hl]
     ·rw [if_neg hl]; exact h5
   | brw i ds => cases hcv
 ·cases e
end
end DL
namespace DL
open PySem PySem.Spec PyProof.Rows L2
theorem yf : ∀ (names : List (Str × NameKind)) (n : Nat) (acc : List (Str × Addr)),cellsFrom n names acc = cellsFrom n names [] ++ acc
 | [],n,acc => rfl
 | (x,k) :: r,n,acc => by
   unfold cellsFrom
   split
   ·rw [yf r (n + 1) ((x,n) :: acc),yf r (n + 1) [(x,n)]]
    simp
   ·exact yf r n acc
theorem x8 : ∀ (names : List (Str × NameKind)) (n : Nat) (x : Str),(x,NameKind.cell) ∉ names → (cellsFrom n names []).lookup x = none
 | [],n,x,_ => rfl
 | (y,k) :: r,n,x,h => by
   have hr : (x,NameKind.cell) ∉ r := fun z => h (List.mem_cons_of_mem _ z)
   unfold cellsFrom
   split
   ·rename_i hk
    rw [yf,List.lookup_append,x8 r (n + 1) x hr]
    have hxy : (x == y) = false := by
     rw [beq_eq_false_iff_ne]
     rintro rfl
     have : k = .cell := by simpa using hk
     subst this
     exact h List.mem_cons_self
    simp [List.lookup_cons,hxy]
   ·exact x8 r n x hr
noncomputable def yU (cells : List (Str × Addr)) : List (Str × NameKind) → List (Str × Addr) → List (Str × Addr)
 | [],acc => acc
 | (n,k) :: r,acc => if (k == .free) = true then yU cells r ((n,(cells.lookup n).getD 0) :: acc) else yU cells r acc
theorem zas {env : Env} : ∀ (names : List (Str × NameKind)) (acc : List (Str × Addr)),(∀ n,(n,NameKind.free) ∈ names → ∃ c,env.cells.lookup n = some c) →
 (forIn names acc fun x r => if (x.2 == NameKind.free) = true then do let a ← cellOf env x.1; pure (ForInStep.yield ((x.1,a) :: r)) else pure (ForInStep.yield r) : Sem (List (Str × Addr))) = pure (yU env.cells names acc)
 | [],acc,_ => rfl
 | (n,k) :: r,acc,h => by
   have ih := fun acc => zas (env := env) r acc fun m hm => h m (List.mem_cons_of_mem _ hm)
   rw [List.forIn_cons]
   unfold yU
   by_cases hk : (k == NameKind.free) = true
   ·have : k = .free := by simpa using hk
    subst this
    obtain ⟨c,hc⟩ := h n List.mem_cons_self
    rw [if_pos hk,if_pos hk]
    unfold cellOf
    rw [hc]
    simp only [pure_bind,Option.getD_some]
    exact ih _
   ·rw [if_neg hk,if_neg hk]
    simp only [pure_bind]
    exact ih _
theorem vz {scope : Scope} {env : Env} (h : ∀ n,(n,NameKind.free) ∈ scope.names → ∃ c,env.cells.lookup n = some c) : closureFor scope env = pure (yU env.cells scope.names []) := by
 have := zas (env := env) scope.names [] h
 unfold closureFor
 simp only [bind_pure]
 exact this
theorem xo {cells : List (Str × Addr)} : ∀ (names : List (Str × NameKind)) (acc : List (Str × Addr)) (x : Str) (c : Addr),(∀ n,(n,NameKind.free) ∈ names → ∃ c,cells.lookup n = some c) →
 (yU cells names acc).lookup x = some c → cells.lookup x = some c ∨ acc.lookup x = some c
 | [],acc,x,c,_,h => .inr h
 | (n,k) :: r,acc,x,c,hn,h => by
   have hr : ∀ m,(m,NameKind.free) ∈ r → ∃ c,cells.lookup m = some c := fun m hm => hn m (List.mem_cons_of_mem _ hm)
   unfold yU at h
   split at h
   ·rename_i hk
    have : k = .free := by simpa using hk
    subst this
    rcases xo r _ x c hr h with q | q
    ·exact .inl q
    ·rw [List.lookup_cons] at q
     cases hx : x == n with
     | true =>
       rw [hx] at q
       obtain ⟨c',hc⟩ := hn n List.mem_cons_self
       rw [hc] at q
       cases q
       rw [beq_iff_eq.mp hx]
       exact .inl hc
     | false => rw [hx] at q; exact .inr q
   ·exact xo r _ x c hr h
theorem wN {cells : List (Str × Addr)} : ∀ (names : List (Str × NameKind)) (acc : List (Str × Addr)) (x : Str),((x,NameKind.free) ∈ names ∨ (acc.lookup x).isSome = true) → ((yU cells names acc).lookup x).isSome = true
 | [],acc,x,h => by
   rcases h with h | h
   ·simp at h
   ·exact h
 | (n,k) :: r,acc,x,h => by
   unfold yU
   split
   ·refine wN r _ x ?_
    rcases h with h | h
    ·rcases List.mem_cons.mp h with e | e
     ·cases e
      exact .inr (by simp [List.lookup_cons])
     ·exact .inl e
    ·refine .inr ?_
     rw [List.lookup_cons]
     cases x == n with
     | true => rfl
     | false => exact h
   ·rename_i hk
    refine wN r _ x ?_
    rcases h with h | h
    ·rcases List.mem_cons.mp h with e | e
     ·cases e
      exact absurd rfl hk
     ·exact .inl e
    ·exact .inr h
theorem xJ {env : Env} : ∀ (names : List (Str × NameKind)) (x : Str) (k : NameKind),
 (names.map fun (n,k) => if (k == NameKind.free && env.scope.kind == .function && env.kindOf n == some .cell) then (n,NameKind.cell) else (n,k)).lookup x = some k →
  names.lookup x = some k ∨ (k = .cell ∧ names.lookup x = some .free)
 | [],x,k,h => by simp at h
 | (n,j) :: r,x,k,h => by
   have ih := xJ (env := env) r x k
   rw [List.map_cons] at h
   by_cases hc : (j == NameKind.free && env.scope.kind == .function && env.kindOf n == some .cell) = true
   ·simp only [hc,if_true] at h
    rw [List.lookup_cons] at h ⊢
    cases hx : x == n with
    | true =>
      rw [hx] at h
      cases h
      have : j = .free := by simp at hc; exact hc.1.1
      exact .inr ⟨rfl,by rw [this]⟩
    | false => rw [hx] at h; exact ih h
   ·simp only [hc,Bool.false_eq_true,if_false] at h
    rw [List.lookup_cons] at h ⊢
    cases hx : x == n with
    | true => rw [hx] at h; exact .inl h
    | false => rw [hx] at h; exact ih h
theorem vV {env : Env} : ∀ (names : List (Str × NameKind)) (x : Str),names.lookup x = some .free →
 ((names.map fun (n,k) => if (k == NameKind.free && env.scope.kind == .function && env.kindOf n == some .cell) then (n,NameKind.cell) else (n,k)).lookup x = some .cell ∨
  (names.map fun (n,k) => if (k == NameKind.free && env.scope.kind == .function && env.kindOf n == some .cell) then (n,NameKind.cell) else (n,k)).lookup x = some .free)
 | [],x,h => by simp at h
 | (n,j) :: r,x,h => by
   have ih := vV (env := env) r x
   rw [List.map_cons]
   rw [List.lookup_cons] at h
   by_cases hc : (j == NameKind.free && env.scope.kind == .function && env.kindOf n == some .cell) = true
   ·simp only [hc,if_true]
    rw [List.lookup_cons]
    cases hx : x == n with
    | true => exact .inl rfl
    | false => rw [hx] at h; exact ih h
   ·simp only [hc,Bool.false_eq_true,if_false]
    rw [List.lookup_cons]
    cases hx : x == n with
    | true => rw [hx] at h; exact .inr h
    | false => rw [hx] at h; exact ih h
theorem zdu {M : Model} {A : Around} {E : Value → Shared → Prop} {s : Shared} {scope : Scope} {env : Env} {cl : List (Str × Addr)} {Q : Env → Shared → Prop}
 (h : Q { scope := scope,locals := s.heap.objs.size,globals := env.globals,cells := cellsFrom (s.heap.objs.size + 1) scope.names cl,qual := env.qual,func := none,code := env.code,frame := env.frame,builtins := env.builtins }
  { s with heap := pushCells (s.heap.push { cls := .type "dict",data := .dict #[] }) scope.names }) :
 wpAny M A (newFunctionEnv scope env.globals cl [] env.qual none .none (some env)) Q E s := by
 simp only [newFunctionEnv,Option.isSome_some,if_true]
 refine wpAny_bind (wpAny_alloc ?_)
 refine wpAny_bind (wpAny_layCells _ (fun name kind cells => by cases hkc : kind == NameKind.cell <;> simp [hkc]) _ _ _ _ ?_)
 rw [show ({ s with heap := s.heap.push { cls := .type "dict",data := .dict #[] } } : Shared).heap.objs.size = s.heap.objs.size + 1 from Heap.size_push ..]
 exact wpAny_bind (wpAny_pure (wpAny_pure h))
noncomputable def yT (X : Cx) (N' : List Str) (scope : Scope) (ex : List Addr) (s : Shared) (H : Hp) : Cx :=
 { X with
   N := N'
   s₀ := s
   H₀ := H
   env := compEnvC scope (cellsFrom (s.heap.objs.size + 1) scope.names (yU X.env.cells scope.names [])) s.heap.objs.size X.env
   outer := X.stack
   stack := X.stack
   ex := ex
   fn := fun x => scope.names.lookup x == some .cell
   pn := []
   xe := fun _ _ => False }
structure CompOk (X : Cx) (scope : Scope) (cap : List Nat) (own : List Str) : Prop where
 kind : scope.kind = .function
 locals : ∀ x ∈ scope.names,x.2 = .local → scope.names.lookup x.1 = some .local
 nd : (scope.names.map (·.1)).Nodup
 frees : (scope.names.all fun x => x.2 != .free || (X.env.scope.names.lookup x.1 == some .cell || X.env.scope.names.lookup x.1 == some .free)) = true
 caps : (cap.all fun i => match X.N[i]? with | some x => scope.names.lookup x == some .free | none => false) = true
noncomputable def capN (X : Cx) (cap : List Nat) (own : List Str) : List Str := cap.map (fun i => X.N.getD i "") ++ own
noncomputable def capS (cap : List Nat) (n : Nat) (σ : St) : St := cap.map (fun i => σ.getD i none) ++ List.replicate n none
@[simp] noncomputable def capE (cap : List Nat) (n : Nat) (env : Ev) : Ev := cap.map (fun i => match env[i]? with | some (.pers d) => .pers d | _ => .un) ++ List.replicate n .un
noncomputable def NoOwn (env : Ev) : Prop := ∀ (i : Nat) (ds : List D),env[i]? ≠ some (.own ds)
theorem uO (cap : List Nat) (n : Nat) (env : Ev) : NoOwn (capE cap n env) := by
 intro i ds h
 unfold capE at h
 by_cases hi : i < cap.length
 ·rw [List.getElem?_append_left (by simpa using hi),List.getElem?_map,List.getElem?_eq_getElem hi] at h
  simp only [Option.map_some] at h
  split at h <;> cases h
 ·rw [List.getElem?_append_right (by simpa using hi),List.getElem?_replicate] at h
  split at h <;> cases h
theorem zjz {K : PySem.W.Frag} {G₀ H₀ G H : Hp} {env : Ev} {σ : St} (I : DI K G₀ H₀ env σ G H) (cap : List Nat) (n : Nat) : DI K G₀ H₀ (capE cap n env) (capS cap n σ) G H where
 le := I.le
 gr := I.gr
 len := by simp [capE,capS]
 slot := fun i s e => by
  cases s with
  | un => trivial
  | own ds => exact absurd e (uO cap n env i ds)
  | pers d =>
    unfold capE at e
    by_cases hi : i < cap.length
    ·rw [List.getElem?_append_left (by simpa using hi),List.getElem?_map,List.getElem?_eq_getElem hi] at e
     simp only [Option.map_some] at e
     split at e
     ·rename_i d' hd
      cases e
      obtain ⟨v,h1,h2⟩ := I.pers hd
      refine ⟨v,?_,h2⟩
      unfold capS
      rw [List.getElem?_append_left (by simpa using hi),List.getElem?_map,List.getElem?_eq_getElem hi]
      simp [List.getD_eq_getElem?_getD,h1]
     ·cases e
    ·rw [List.getElem?_append_right (by simpa using hi),List.getElem?_replicate] at e
     split at e <;> cases e
 apart := fun i j ds es a _ e _ _ _ => uO cap n env i ds e
section
variable {X : Cx} {pins : List (Addr × Obj)} {σ : St} {H : Hp} {s : Shared} {scope : Scope} {cap : List Nat} {own : List Str}
theorem CompOk.free (C : CompOk X scope cap own) {n : Str} (h : (n,NameKind.free) ∈ scope.names) : X.env.kindOf n = some .cell ∨ X.env.kindOf n = some .free := by
 have q := List.all_eq_true.mp C.frees _ h
 simp at q
 exact q
theorem CompOk.cells (C : CompOk X scope cap own) (I : Inv X pins σ H s) : ∀ n,(n,NameKind.free) ∈ scope.names → ∃ c,X.env.cells.lookup n = some c := fun n h => I.ok.has n (C.free h)
theorem zgB {fp : List Addr} (C : CompOk X scope cap own) (I : Inv X pins σ H s) (hf : ∀ b ∈ fp,FpOk X pins H b) (hex : ∀ b ∈ fp,b < s.heap.objs.size) :
 Inv (yT X (capN X cap own) scope fp s H) [] (capS cap own.length σ) H { s with heap := pushCells (s.heap.push { cls := .type "dict",data := .dict #[] }) scope.names } := by
 have hcl := C.cells I
 have keep : ∀ b o,s.heap.get? b = some o → (pushCells (s.heap.push { cls := .type "dict",data := .dict #[] }) scope.names).get? b = some o := fun b o e => pushCells_keeps _ _ b o (Heap.get?_push_of_some _ e)
 have ok := cellsFrom_ok scope.names (s.heap.push { cls := .type "dict",data := .dict #[] }) (s.heap.objs.size + 1) [] ⟨fun _ _ hm => (nomatch hm),List.Pairwise.nil⟩ (by rw [Heap.size_push]; exact Nat.le_refl _)
 rw [Heap.size_push] at ok
 have cases_cell : ∀ x c,(cellsFrom (s.heap.objs.size + 1) scope.names (yU X.env.cells scope.names [])).lookup x = some c →
  ((cellsFrom (s.heap.objs.size + 1) scope.names []).lookup x = some c) ∨ ((cellsFrom (s.heap.objs.size + 1) scope.names []).lookup x = none ∧ X.env.cells.lookup x = some c) := fun x c h => by
  rw [yf,List.lookup_append] at h
  cases q : (cellsFrom (s.heap.objs.size + 1) scope.names []).lookup x with
  | some c' => rw [q] at h; exact .inl h
  | none =>
    rw [q] at h
    simp at h
    rcases xo scope.names [] x c hcl h with z | z
    ·exact .inr ⟨rfl,z⟩
    ·simp at z
 have ownC : ∀ x c,(cellsFrom (s.heap.objs.size + 1) scope.names []).lookup x = some c → (pushCells (s.heap.push { cls := .type "dict",data := .dict #[] }) scope.names).IsCell c none ∧ s.heap.objs.size + 1 ≤ c := fun x c h => ok.empty x c (PySem.mem_of_lookup h)
 have oldC : ∀ x c,X.env.cells.lookup x = some c → c < s.heap.objs.size := fun x c h => let ⟨_,z⟩ := I.cell x c h; z.lt
 have kindX : ∀ x,(compEnvC scope (cellsFrom (s.heap.objs.size + 1) scope.names (yU X.env.cells scope.names [])) s.heap.objs.size X.env).kindOf x = (relabel scope X.env).names.lookup x := fun _ => rfl
 refine ⟨⟨I.ok.mod,C.kind,I.ok.glob,I.ok.blt,Nat.le_refl _,fun x y c h1 h2 => ?_,fun x hx => ?_,fun x c hx h => ?_,I.ok.hd,I.ok.frames,.inl rfl,fun b hb => ?_,I.bs,Nat.le_trans I.ok.bsz I.sz,fun b o e hb => ?_,fun b hb hs => ?_,I.stack,I.stkFree⟩,
  rfl,I.bare,Un.kept keep,⟨_,(Heap.Ns.new s.heap (.type "dict")).keeps (pushCells_keeps _ _),fun i x v e1 e2 e3 => ?_⟩,fun x c h => ?_,I.hok.fresh (Nat.le_refl _),fun x c h => ?_,fun p hp => absurd (show p ∈ ([] : List (Addr × Obj)) from hp) (by simp),I.hok.kept keep,?_⟩
 ·rcases cases_cell x c h1 with z1 | ⟨_,z1⟩
  ·rcases cases_cell y c h2 with z2 | ⟨_,z2⟩
   ·exact name_of_addr ok.apart (PySem.mem_of_lookup z1) (PySem.mem_of_lookup z2)
   ·exact absurd (Nat.lt_of_lt_of_le (Nat.lt_succ_of_lt (oldC y c z2)) (ownC x c z1).2) (Nat.lt_irrefl _)
  ·rcases cases_cell y c h2 with z2 | ⟨_,z2⟩
   ·exact absurd (Nat.lt_of_lt_of_le (Nat.lt_succ_of_lt (oldC x c z1)) (ownC y c z2).2) (Nat.lt_irrefl _)
   ·exact I.ok.inj x y c z1 z2
 ·show ∃ c,(cellsFrom (s.heap.objs.size + 1) scope.names (yU X.env.cells scope.names [])).lookup x = some c
  rw [yf,List.lookup_append]
  cases q : (cellsFrom (s.heap.objs.size + 1) scope.names []).lookup x with
  | some c' => exact ⟨c',rfl⟩
  | none =>
    have fr : scope.names.lookup x = some .free → ∃ c,(none.or ((yU X.env.cells scope.names []).lookup x)) = some c := fun z => by
     have := wN (cells := X.env.cells) scope.names [] x (.inl (PySem.mem_of_lookup z))
     exact Option.isSome_iff_exists.mp (by simpa using this)
    have hx' : (relabel scope X.env).names.lookup x = some .cell ∨ (relabel scope X.env).names.lookup x = some .free := hx
    rcases hx' with z | z
    ·rcases xJ scope.names x .cell z with z | ⟨_,z⟩
     ·obtain ⟨c,z2⟩ := uu (n := s.heap.objs.size + 1) (sc := scope) z
      rw [z2] at q; cases q
     ·exact fr z
    ·rcases xJ scope.names x .free z with z | ⟨z,_⟩
     ·exact fr z
     ·cases z
 ·have hx' : scope.names.lookup x = some .cell := by simpa using (show (scope.names.lookup x == some .cell) = true from hx)
  rcases cases_cell x c h with z | ⟨z,_⟩
  ·exact Nat.le_of_lt (ownC x c z).2
  ·obtain ⟨c',z2⟩ := uu (n := s.heap.objs.size + 1) (sc := scope) hx'
   rw [z2] at z; cases z
 ·refine ⟨Nat.ne_of_lt (hex b hb),fun x c h z => ?_⟩
  rcases cases_cell x c h with q | ⟨_,q⟩
  ·exact absurd (Nat.lt_of_lt_of_le (Nat.lt_succ_of_lt (hex b hb)) (z ▸ (ownC x c q).2)) (Nat.lt_irrefl _)
  ·exact (hf b hb).2.2.2.2.1 x c q z
 ·rcases (hf b hb).2.2.2.1 with z | z
  ·exact I.ok.noex b o e z
  ·exact absurd (Nat.lt_of_lt_of_le (Heap.lt_size e) (Nat.le_trans I.ok.bsz z)) (Nat.lt_irrefl _)
 ·rcases List.mem_cons.mp (I.stkSub b hs) with z | z
  ·exact (hf b hb).2.1 z
  ·exact (hf b hb).2.2.1 z
 ·
  have e1' : (capN X cap own)[i]? = some x := e1
  unfold capN at e1'
  unfold capS at e2
  by_cases hi : i < cap.length
  ·rw [List.getElem?_append_left (by simpa using hi),List.getElem?_map,List.getElem?_eq_getElem hi] at e1' e2
   simp only [Option.map_some,Option.some.injEq] at e1' e2
   have hcap := List.all_eq_true.mp C.caps cap[i] (List.getElem_mem hi)
   cases q : X.N[cap[i]]? with
   | none => rw [q] at hcap; cases hcap
   | some y =>
     rw [q] at hcap
     have hy : scope.names.lookup y = some .free := by simpa using hcap
     have hxy : x = y := by rw [← e1',List.getD_eq_getElem?_getD,q]; rfl
     subst hxy
     have hs : σ[cap[i]]? = some (some v) := by
      rw [List.getD_eq_getElem?_getD] at e2
      cases z : σ[cap[i]]? with
      | none => rw [z] at e2; cases e2
      | some w => rw [z] at e2; simp at e2; rw [e2]
     have hk := C.free (PySem.mem_of_lookup hy)
     obtain ⟨m,hn,hl⟩ := I.loc
     obtain ⟨u,ru,lk⟩ := hl cap[i] x v q hs (hk.elim (fun z => .inr (.inl z)) fun z => .inr (.inr z))
     refine ⟨u,ru,.inr ⟨?_,?_⟩⟩
     ·exact vV scope.names x hy
     ·rcases lk with ⟨z,_⟩ | ⟨_,c,hc,hcell⟩
      ·rcases hk with z' | z' <;> (rw [z] at z'; cases z')
      ·refine ⟨c,?_,hcell.keeps keep⟩
       show (cellsFrom (s.heap.objs.size + 1) scope.names (yU X.env.cells scope.names [])).lookup x = some c
       rw [yf,List.lookup_append]
       have hno : (cellsFrom (s.heap.objs.size + 1) scope.names []).lookup x = none := x8 _ _ _ fun hm => by
        have m1 := PySem.mem_of_lookup hy
        have := C.nd
        rw [List.nodup_iff_pairwise_ne,List.pairwise_map] at this
        have := List.Pairwise.forall_of_forall_of_flip (R := fun a b : Str × NameKind => a.1 ≠ b.1 ∨ a = b) (l := scope.names) (fun _ _ => .inr rfl) (this.imp fun h => .inl h) (this.imp fun h => .inl h.symm)
        rcases this m1 hm with z | z
        ·exact z rfl
        ·cases z
       rw [hno]
       have hsome := wN (cells := X.env.cells) scope.names [] x (.inl (PySem.mem_of_lookup hy))
       obtain ⟨c',hc'⟩ := Option.isSome_iff_exists.mp hsome
       rcases xo scope.names [] x c' hcl hc' with z | z
       ·rw [hc] at z; cases z; simpa using hc'
       ·simp at z
  ·rw [List.getElem?_append_right (by simpa using hi),List.getElem?_replicate] at e2
   split at e2 <;> cases e2
 ·rcases cases_cell x c h with z | ⟨_,z⟩
  ·exact ⟨_,(ownC x c z).1⟩
  ·obtain ⟨v,q⟩ := I.cell x c z
   exact ⟨v,q.keeps keep⟩
 ·rcases cases_cell x c h with z | ⟨_,z⟩
  ·exact I.hok.fresh (Nat.le_of_lt (ownC x c z).2)
  ·exact I.freeC x c z
 ·show (capS cap own.length σ).length = (capN X cap own).length
  simp [capS,capN]
end
end DL
namespace DL
open PySem PySem.Spec PyProof.Rows L2
theorem zbO {prog : Program} {w : World} {A : Around} {R : Result → Shared → Prop} {s : Shared} {elt target iter : Expr} {ifs : List Expr} {scope : Scope} {pos : Pos} {it acc : Value} {env : Env} (I : Nat → Shared → Prop)
 (turn : ∀ n s,I n s → wpAny (model prog w) A (pyNext it) (fun r s₁ => match r with
  | none => R (.ok .next) s₁
  | some v => wpAny (model prog w) A (letOwnedTupleGo target it v) (fun _ s₁' => wpAny (model prog w) A (assign target env v) (fun _ s₂ =>
   wpAny (model prog w) A (forIn ifs true fun c r => if r = true then do let ok ← isTrue c env (eval c env); pure (ForInStep.yield ok) else pure (ForInStep.yield r)) (fun ok s₃ =>
    if ok = true then wpAny (model prog w) A (eval elt env) (fun x s₄ =>
     wpAny (model prog w) A (call (.builtin "list.append") [acc,x]) (fun _ s₅ => ∃ m,m < n ∧ I m s₅) (fun _ _ => False) s₄) (fun _ _ => False) s₃
    else ∃ m,m < n ∧ I m s₃) (fun _ _ => False) s₂) (fun _ _ => False) s₁') (fun _ _ => False) s₁) (fun _ _ => False) s)
 (n : Nat) (h : I n s) :
 codeAny (model prog w) A (.compLoop (.ListComp elt [⟨target,iter,ifs,0⟩] scope pos) 0 it acc env) R s := by
 refine codeAny_loop rfl I (fun n s hI => ?_) n h
 show wpAny _ A ((compTurn (.ListComp elt [⟨target,iter,ifs,0⟩] scope pos) 0 it acc env).onRaise (fun x => do noteFrame x env; theTreesLotGoes x)) _ _ s
 refine wpAny_noted ?_
 rw [compTurn_list]
 refine wpAny_bind (wpAny_standAt (wpAny_bind (wpAny_mono (turn n s hI) (fun r s₁ h₁ => ?_) fun _ _ h' => h'.elim)))
 cases r with
 | none => exact wpAny_pure h₁
 | some v =>
   refine wpAny_bind (wpAny_mono h₁ (fun _ s₁' h₁' => ?_) fun _ _ h' => h'.elim)
   refine wpAny_bind (wpAny_mono h₁' (fun _ s₂ h₂ => wpAny_bind (wpAny_mono h₂ (fun ok s₃ h₃ => ?_) fun _ _ h' => h'.elim)) fun _ _ h' => h'.elim)
   cases ok with
   | false => exact wpAny_pure ⟨rfl,h₃⟩
   | true =>
     exact wpAny_bind (wpAny_bind (wpAny_mono h₃ (fun x s₄ h₄ => wpAny_bind (wpAny_mono h₄ (fun _ s₅ h₅ => wpAny_pure (wpAny_pure ⟨rfl,h₅⟩)) fun _ _ h' => h'.elim)) fun _ _ h' => h'.elim))
noncomputable def compD (g : D → Ev → Out Ev) (ft : FT) (fe : FE) : List D → Ev → Out (List D)
 | [],_ => .ok []
 | d :: ds,env => (g d env).bind fun env1 => (ft env1).bind fun c => if c = true then (fe env1).bind fun x => x.hold.bind fun y => (compD g ft fe ds env1).bind fun r => .ok (y :: r) else compD g ft fe ds env1
@[simp] noncomputable def yq (cap : List Nat) (n : Nat) (fi : FI) (g : D → Ev → Out Ev) (ft : FT) (fe : FE) : FE := fun env => (fi env).bind fun ds => if ds.length ≤ 100000 then (compD g ft fe ds (capE cap n env)).bind fun out => .ok (.fresh out) else .bad
noncomputable def DTs (X : Cx) (G₀ H₀ : Hp) (ifs : List Expr) (ft : FT) : Prop := ∀ (pins : List (Addr × Obj)) (s : Shared) (σ : St) (H : Hp) (Q : Bool → Hp → Prop),Inv X pins σ H s → tT X.K G₀ H₀ ft σ H Q →
 wpAny (model X.prog X.w) X.A (forIn ifs true fun c r => if r = true then do let ok ← isTrue c X.env (eval c X.env); pure (ForInStep.yield ok) else pure (ForInStep.yield r)) (TP X pins σ Q) X.xe s
@[simp] noncomputable def fYes : FT := fun _ => .ok true
theorem xx {X : Cx} {G₀ H₀ : Hp} : DTs X G₀ H₀ [] fYes := fun pins s σ H Q I q => wpAny_tests_nil (by
 obtain ⟨env,G,b,J,e,k⟩ := q
 cases e
 exact ⟨H,I,k G H (Grow.refl _ _) J.le⟩)
theorem tm {X : Cx} {G₀ H₀ : Hp} {c : Expr} {ft : FT} (h : DT X G₀ H₀ c ft) : DTs X G₀ H₀ [c] ft := fun pins s σ H Q I q => wpAny_tests_one (h pins s σ H Q I q)
noncomputable def Calm (g : D → Ev → Out Ev) : Prop := ∀ d env env',g d env = .ok env' → NoOwn env → NoOwn env'
theorem NoOwn.set {env : Ev} (h : NoOwn env) (i : Nat) (d : D) : NoOwn (env.set i (.pers d)) := fun j ds e => by
 by_cases hj : i = j
 ·subst hj; cases (yn e).1
 ·rw [List.getElem?_set_ne hj] at e; exact h j ds e
theorem xf (i : Nat) : Calm (gN i) := fun d env env' e h => by cases e; exact h.set i d
theorem NoOwn.setAll : ∀ (is : List Nat) (ds : List D) {env : Ev},NoOwn env → NoOwn (setAll is ds env)
 | [],_,_,h => h
 | _ :: _,[],_,h => h
 | i :: is,d :: ds,env,h => NoOwn.setAll is ds (h.set i d)
theorem xH (is : List Nat) : Calm (gT is) := fun d env env' e h => by
 unfold gT at e
 split at e
 ·split at e
  ·cases e; exact NoOwn.setAll is _ h
  ·cases e
 ·cases e
theorem DI.other {K : PySem.W.Frag} {G₀ H₀ G H : Hp} {env : Ev} {σ : St} (I : DI K G₀ H₀ env σ G H) (h : NoOwn env) {p : Addr} {o : HO} (hg : G p = none) (h0 : H₀ p = none) : DI K G₀ H₀ env σ G (upd H p o) where
 le := fun b u q => by rw [zG (zC q hg)]; exact I.le b u q
 gr := ⟨I.gr.g,fun b u q => by rw [zG (zC q h0)]; exact I.gr.h b u q,I.gr.n⟩
 len := I.len
 slot := fun i s e => by
  cases s with
  | un => trivial
  | pers d => exact I.slot i _ e
  | own ds => exact absurd e (h i ds)
 apart := I.apart
section
variable {X : Cx} {G₀ H₀ : Hp} {elt iter tg : Expr} {ifs : List Expr} {scope : Scope} {pos : Pos} {fi : FI} {g : D → Ev → Out Ev} {ft : FT} {fe : FE} {cap : List Nat} {own : List Str}
structure CLoop (Iv : St → Hp → Shared → Prop) (K : PySem.W.Frag) (G₀ H₀ G2 H2 : Hp) (g : D → Ev → Out Ev) (ft : FT) (fe : FE) (ds out : List D) (fp : List Addr) (a : Addr) (tn : Nat → Heap → Prop) (k : Nat) (s' : Shared) (i : Nat) (σ' : St) (H' G' : Hp) (env' : Ev) (accD : List D) (accV : List V) (rest : List D) : Prop where
 hk : k = ds.length + 1 - i
 hi : i ≤ ds.length
 iv : Iv σ' H' s'
 st : tn i s'.heap
 fr : ∀ b ∈ fp,H' b = none
 di : DI K G₀ H₀ env' σ' G' H'
 no : NoOwn env'
 gr : Grow G2 H2 G' H'
 ha : H' a = some (.lst accV)
 ga : G' a = none
 ra : RepL K G' accD accV
 la : accD.length ≤ i
 ec : compD g ft fe (ds.drop i) env' = .ok rest
 eo : out = accD ++ rest
theorem zar (C : CompOk X scope cap own) (hc : X.calm = true)
 (hg : ∀ ex s H,DG (yT X (capN X cap own) scope ex s H) G₀ H₀ tg g) (hgc : Calm g) (ht : ∀ ex s H,DTs (yT X (capN X cap own) scope ex s H) G₀ H₀ ifs ft) (he : ∀ ex s H,DE (yT X (capN X cap own) scope ex s H) G₀ H₀ elt fe)
 {pins : List (Addr × Obj)} {σ : St} {H2 G2 : Hp} {s2 : Shared} {env : Ev} {it : Addr} {fp : List Addr} {tn : Nat → Heap → Prop} {J : It} {ds out : List D}
 (I2 : Inv X pins σ H2 s2) (D2 : DI X.K G₀ H₀ env σ G2 H2) (T : Turn X.prog X.w X.K tg J fp it tn) (st2 : tn 0 s2.heap) (f2 : ∀ b ∈ fp,FpOk X pins H2 b) (jok : JOk X.K J G2 ds) (hz : ds.length ≤ 100000)
 (e : compD g ft fe ds (capE cap own.length env) = .ok out) {RR : Value → Addr → Result → Shared → Prop} {E : Value → Shared → Prop}
 (fin : ∀ (D C : Addr) (vs : List V) (G' H' : Hp) (s' : Shared),s2.heap.objs.size ≤ C ∧ H' C = none → H2 D = none → H' D = some (.lst vs) → G' D = none → RepL X.K G' out vs → Grow G2 H2 G' H' → Same G' H' →
  (∃ m,s'.heap.Ns C m) → (∀ h',Heap.SameBut C s'.heap h' → Inv X pins σ H' { s' with heap := h' }) → RR (.ref D) C (.ok .next) s') :
 wpAny (model X.prog X.w) X.A (newList []) (fun acc s₃ => wpAny (model X.prog X.w) X.A (newFunctionEnv scope X.env.globals (yU X.env.cells scope.names []) [] X.env.qual none .none (some X.env)) (fun cenv s₄ =>
  codeAny (model X.prog X.w) X.A (.compStart (.ListComp elt [⟨tg,iter,ifs,0⟩] scope pos) 0 (.ref it) acc { cenv with scope := relabel scope X.env }) (RR acc cenv.locals) s₄) E s₃) E s2 := by
 have hlt : ∀ b ∈ fp,b < s2.heap.objs.size := fun b hb => let ⟨o,eo,_⟩ := T.obj _ _ st2 b hb; Heap.lt_size eo
 refine wpAny_newObj_type (zdu ?_)
 dsimp only
 generalize hD : s2.heap.objs.size = D
 have fD : H2 D = none := by rw [← hD]; exact I2.fresh
 have I3 : Inv X pins σ (upd H2 D (.lst [])) { s2 with heap := s2.heap.push { cls := .type "list",data := .seq ([] : List Value).toArray } } := by
  have := I2.lnew (t' := s2.toks) (ys := []) (its := []) .nil (Nat.zero_le _)
  rw [hD] at this
  exact this
 generalize hs3 : ({ s2 with heap := s2.heap.push { cls := .type "list",data := .seq ([] : List Value).toArray } } : Shared) = s3 at I3
 have hs3' : s3.heap = s2.heap.push { cls := .type "list",data := .seq ([] : List Value).toArray } := by rw [← hs3]
 have f3 : ∀ b ∈ fp,FpOk X pins (upd H2 D (.lst [])) b := fun b hb => ⟨by rw [zG (by rw [← hD]; exact Nat.ne_of_lt (hlt b hb))]; exact (f2 b hb).1,(f2 b hb).2⟩
 have hlt3 : ∀ b ∈ fp,b < s3.heap.objs.size := fun b hb => by rw [hs3',Heap.size_push]; exact Nat.lt_succ_of_lt (hlt b hb)
 have I4 := zgB C I3 f3 hlt3
 have st4 : tn 0 (pushCells (s3.heap.push { cls := .type "dict",data := .dict #[] }) scope.names) := T.keep _ _ _ st2 fun b hb o eo => pushCells_keeps _ _ b o (Heap.get?_push_of_some _ (by rw [hs3']; exact Heap.get?_push_of_some _ eo))
 have g3 : Grow G2 H2 G2 (upd H2 D (.lst [])) ∧ Same G2 (upd H2 D (.lst [])) := Grow.laidL D2.le fD
 have D4 : DI X.K G₀ H₀ (capE cap own.length env) (capS cap own.length σ) G2 (upd H2 D (.lst [])) := zjz (D2.grow g3.1 g3.2) cap own.length
 have stat : ∀ {H' : Hp},(∀ b ∈ fp,H' b = none) → ∀ b ∈ fp,FpOk (yT X (capN X cap own) scope fp s3 (upd H2 D (.lst []))) [] H' b := fun {H'} hn b hb =>
  ⟨hn b hb,(I4.ok.exf b hb).1,I4.ok.exfs b hb,.inl hb,(I4.ok.exf b hb).2,fun p hp => absurd (show p ∈ ([] : List (Addr × Obj)) from hp) (by simp)⟩
 have hG2D : G2 D = none := D2.le.free fD
 have h0D : H₀ D = none := D2.gr.h.free fD
 have loop : ∀ s4 : Shared,s4 = { s3 with heap := pushCells (s3.heap.push { cls := .type "dict",data := .dict #[] }) scope.names } →
  codeAny (model X.prog X.w) X.A (.compLoop (.ListComp elt [⟨tg,iter,ifs,0⟩] scope pos) 0 (.ref it) (.ref D) (yT X (capN X cap own) scope fp s3 (upd H2 D (.lst []))).env) (RR (.ref D) s3.heap.objs.size) s4 := by
  rintro s4 rfl
  refine zbO (fun k s' => ∃ i σ' H' G' env' accD accV rest,CLoop (fun σ H s => Inv (yT X (capN X cap own) scope fp s3 (upd H2 D (.lst []))) [] σ H s) X.K G₀ H₀ G2 H2 g ft fe ds out fp D tn k s' i σ' H' G' env' accD accV rest) ?_ (ds.length + 1)
   ⟨0,_,_,G2,_,[],[],out,rfl,Nat.zero_le _,I4,st4,fun b hb => (f3 b hb).1,D4,uO _ _ _,g3.1,zS,hG2D,RepL.nil,Nat.zero_le _,by simpa using e,rfl⟩
  rintro k s5 ⟨i,σ5,H5,G5,env5,accD,accV,rest,rfl,hi,I5,st5,fr5,D5,no5,gr5,hD5,gD5,ra5,la5,e5,eo⟩
  by_cases hlt5 : i < ds.length
  ·have hd : ds.drop i = ds[i] :: ds.drop (i + 1) := List.drop_eq_getElem_cons hlt5
   rw [hd] at e5
   obtain ⟨env6,e6,e5⟩ := zn e5
   obtain ⟨c,e7,e5⟩ := zn e5
   refine thn (T.item (yT X (capN X cap own) scope fp s3 (upd H2 D (.lst []))) rfl rfl rfl hc i [] s5 σ5 H5 (fun _ _ => False) I5 (stat fr5) st5 (jok.go i G5 H5 gr5.g D5.le hlt5)) fun r s6 ⟨u,hr,h6⟩ => ?_
   subst hr
   refine thn h6 fun _ s7 ⟨x,H7,I7,r7,y7,st7,fr7⟩ => ?_
   obtain ⟨d,G7,hd7,g7,l7,rx7⟩ := jok.yld i G5 H5 x H7 gr5.g D5.le hlt5 y7
   have hde : d = ds[i] := by rw [List.getElem?_eq_getElem hlt5] at hd7; exact (Option.some.inj hd7).symm
   subst hde
   have D7 := D5.grow g7 l7
   have I7' := I7.pinned (stat fr7) (T.obj _ _ st7)
   refine thn (hg fp s3 (upd H2 D (.lst [])) _ s7 σ5 H7 x u (fun σ8 H8 => H8 = H7 ∧ DI X.K G₀ H₀ env6 σ8 G7 H7) I7' r7 ⟨env5,G7,_,env6,D7,rx7,e6,fun σ8 D8 => ⟨rfl,D8⟩⟩) fun _ s8 ⟨σ8,H8,I8,hH8,D8⟩ => ?_
   subst hH8
   have no8 : NoOwn env6 := hgc _ _ _ e6 no5
   have hD7 : H8 D = some (.lst accV) := g7.h _ _ hD5
   have gD7 : G7 D = none := g7.n D (by rw [hD5]; simp) gD5
   refine thn (ht fp s3 (upd H2 D (.lst [])) _ s8 σ8 H8 (fun b H9 => b = c ∧ ∃ G9,Grow G7 H8 G9 H9 ∧ Same G9 H9) I8 ⟨env6,G7,c,D8,e7,fun G9 H9 g9 l9 => ⟨rfl,G9,g9,l9⟩⟩) fun ok s9 ⟨H9,I9,hok,G9,g9,l9⟩ => ?_
   subst hok
   have D9 := D8.grow g9 l9
   have back : ∀ {s10 : Shared} {σ10 : St} {H10 : Hp},Inv (yT X (capN X cap own) scope fp s3 (upd H2 D (.lst []))) ([] ++ zbm fp s7.heap) σ10 H10 s10 →
    Inv (yT X (capN X cap own) scope fp s3 (upd H2 D (.lst []))) [] σ10 H10 s10 ∧ tn (i + 1) s10.heap ∧ (∀ b ∈ fp,H10 b = none) := fun {s10 σ10 H10} I10 => by
    refine ⟨I10.unpinned,T.keep _ _ _ st7 fun b hb o eb => (I10.pin (b,o) (List.mem_append_right _ (List.mem_append_right _ (wI hb eb)))).1,fun b hb => ?_⟩
    obtain ⟨o,eb,d⟩ := T.obj _ _ st7 b hb
    exact (I10.pin (b,o) (List.mem_append_right _ (List.mem_append_right _ (wI hb eb)))).2.1
   have gr9 : Grow G2 H2 G9 H9 := (gr5.trans g7).trans g9
   cases ok with
   | false =>
     rw [if_neg Bool.false_ne_true] at e5 ⊢
     obtain ⟨I10,st10,fr10⟩ := back I9
     exact ⟨ds.length + 1 - (i + 1),by lia,i + 1,σ8,H9,G9,env6,accD,accV,rest,rfl,hlt5,I10,st10,fr10,D9,no8,gr9,g9.h _ _ hD7,g9.n D (by rw [hD7]; simp) gD7,(ra5.mono g7.g).mono g9.g,by lia,e5,eo⟩
   | true =>
     rw [if_pos rfl] at e5 ⊢
     obtain ⟨xv,e8,e5⟩ := zn e5
     obtain ⟨y,e9,e5⟩ := zn e5
     obtain ⟨rest',e10,e5⟩ := zn e5
     cases e5
     refine thn (he fp s3 (upd H2 D (.lst [])) _ s9 σ8 H9 (fun v H10 => ∃ G10,Grow G9 H9 G10 H10 ∧ Same G10 H10 ∧ Rep X.K G10 y v) I9 ⟨env6,G9,xv,D9,e8,fun v G10 H10 g10 l10 h10 => held g10 l10 h10 e9⟩) fun u10 s10 ⟨v10,H10,I10,r10,G10,g10,l10,rep10⟩ => ?_
     have D10 := D9.grow g10 l10
     have hD10 : H10 D = some (.lst accV) := g10.h _ _ (g9.h _ _ hD7)
     have gD10 : G10 D = none := g10.n D (by rw [g9.h _ _ hD7]; simp) (g9.n D (by rw [hD7]; simp) gD7)
     have ra10 := ((ra5.mono g7.g).mono g9.g).mono g10.g
     refine thn (uR (X := yT X (capN X cap own) scope fp s3 (upd H2 D (.lst []))) _ s10 σ8 H10 (.ref D) [v10] (.ref D) [u10] (fun _ H11 => H11 = upd H10 D (.lst (accV ++ [v10]))) I10 rfl (.cons r10 .nil)
      ⟨D,accV,v10,rfl,rfl,hD10,by rw [← ra10.length,sizeLine_eq]; lia,rfl⟩) fun _ s11 ⟨_,H11,I11,_,hH11⟩ => ?_
     subst hH11
     obtain ⟨I12,st12,fr12⟩ := back I11
     have gr10 : Grow G2 H2 G10 (upd H10 D (.lst (accV ++ [v10]))) := by
      have q := gr9.trans g10
      exact ⟨q.g,fun b o z => by rw [zG (zC z fD)]; exact q.h b o z,q.n⟩
     exact ⟨ds.length + 1 - (i + 1),by lia,i + 1,σ8,_,G10,env6,accD ++ [y],accV ++ [v10],rest',rfl,hlt5,I12,st12,fr12,D10.other no8 gD10 h0D,no8,gr10,zS,gD10,ra10.append (RepL.cons rep10 RepL.nil),by simp; lia,e10,by rw [eo]; simp⟩
  ·have hi5 : i = ds.length := by lia
   subst hi5
   refine thn (T.done (yT X (capN X cap own) scope fp s3 (upd H2 D (.lst []))) rfl rfl rfl hc _ [] s5 σ5 H5 (fun _ _ => False) I5 (stat fr5) st5 (jok.stop _ G5 H5 gr5.g D5.le (Nat.le_refl _))) fun r s6 ⟨hr,I6⟩ => ?_
   subst hr
   rw [List.drop_length] at e5
   cases e5
   have eo' : out = accD := by rw [eo]; simp
   refine fin D s3.heap.objs.size accV G5 H5 s6 ?_ fD hD5 gD5 (by rw [eo']; exact ra5) gr5 D5.le ?_ fun h' sb => ?_
   ·exact ⟨by rw [hs3',Heap.size_push]; exact Nat.le_succ _,I6.free⟩
   ·obtain ⟨m,hm,_⟩ := I6.loc
    exact ⟨m,hm⟩
   ·have ne : ∀ b o,s3.heap.get? b = some o → b ≠ s3.heap.objs.size := fun b o eb => Nat.ne_of_lt (Heap.lt_size eb)
    have frC : H5 s3.heap.objs.size = none := I6.free
    have up : ∀ b o,b ≠ s3.heap.objs.size → s6.heap.get? b = some o → h'.get? b = some o := fun b o hb eb => sb.extBut b o hb eb
    have ub := I6.base
    have U : Un (frs X.stack) fp (upd H2 D (.lst [])) H5 s3.heap h' :=
     ⟨fun b o eb n hb hx => up b o (ne b o eb) (ub.keep b o eb n hb hx),fun b o eb n hb hx => let ⟨sl,q⟩ := ub.slot b o eb n hb hx; ⟨sl,up b _ (ne b o eb) q⟩,ub.free,fun b o eb hx => let ⟨o',q⟩ := ub.there b o eb hx; ⟨o',up b _ (ne b o eb) q⟩,ub.tups,ub.frzs,ub.tbls⟩
    have hok : HOk X.prog X.w H5 h' := fun b u eb => (I6.hok b u eb).stay (fun c v hc' q => up c v (by
     rcases hc' with rfl | hc'
     ·intro z; rw [z,frC] at eb; cases eb
     ·intro z; rw [z,frC] at hc'; cases hc') q) (fun _ q => q) fun _ _ q => q
    exact I3.call' (s' := { s6 with heap := h' }) I6.os U hok I6.bare fun b hb => let ⟨a0,a1,a2,a3,a4,a5⟩ := f3 b hb; ⟨a3,a1,a4,a5⟩
 subst hs3
 exact codeAny_compStart_list (loop _ rfl) (T.self _ 0 _ _ _ st4 (loop _ rfl))
theorem xz (C : CompOk X scope cap own) (hi : DIt X G₀ H₀ tg iter fi)
 (hg : ∀ ex s H,DG (yT X (capN X cap own) scope ex s H) G₀ H₀ tg g) (hgc : Calm g) (ht : ∀ ex s H,DTs (yT X (capN X cap own) scope ex s H) G₀ H₀ ifs ft) (he : ∀ ex s H,DE (yT X (capN X cap own) scope ex s H) G₀ H₀ elt fe)
 (hc : X.calm = true := by rfl) (hs : ∀ x,foldedSetIterable iter X.env x = pure x := by intro _; rfl) : DE X G₀ H₀ (.ListComp elt [⟨tg,iter,ifs,0⟩] scope pos) (yq cap own.length fi g ft fe) := by
 intro pins s σ H Q I q
 obtain ⟨env,G,val,D0,e,k⟩ := q
 obtain ⟨ds,e1,e⟩ := zn e
 split at e
 ·rename_i hz
  obtain ⟨out,e2,e⟩ := zn e
  cases e
  rw [eval_ListComp]
  refine wpAny_comprehension_free (use := none) (cl := yU X.env.cells scope.names []) rfl hs (vz (C.cells I)) C.kind C.locals ?_
  refine thn (hi pins s σ H (fun J H2 => ∃ G2,Grow G H G2 H2 ∧ Same G2 H2 ∧ JOk X.K J G2 ds) I ⟨env,G,ds,D0,e1,fun J G2 H2 g2 l2 jok => ⟨G2,g2,l2,jok⟩⟩) fun v s1 h1 => thn h1 fun itv s2 h2 => ?_
  obtain ⟨it,fp,tn,J,H2,rfl,I2,T,st2,f2,G2,g2,l2,jok⟩ := h2
  refine zar (RR := fun acc C => compPost (model X.prog X.w) X.A X.xe none (EP X pins σ Q) acc C) C hc hg hgc ht he I2 (D0.grow g2 l2) T st2 f2 jok hz e2 fun D C' vs G' H' s' hC fD hD gD r gr l hm hI => ?_
  obtain ⟨m,hm⟩ := hm
  exact ⟨m,hm,fun h' sb => ⟨.ref D,H',hI h' sb,rfl,k _ G' H' (g2.trans gr) l ⟨D,vs,rfl,g2.h.free fD,hD,gD,r⟩⟩⟩
 ·cases e
end
end DL
namespace DL
open PySem PySem.Spec PyProof.Rows L2
structure IsiT (T : String) : Prop where
 mem : T = "int" ∨ T = "bool" ∨ T = "list" ∨ T = "tuple"
noncomputable def ins (n : Int) : List Int → List Int
 | [] => [n]
 | m :: r => if n ≤ m then n :: m :: r else m :: ins n r
noncomputable def ym : List Int → List Int
 | [] => []
 | n :: r => ins n (ym r)
theorem zaP (n : Int) : ∀ l : List Int,(ins n l).Perm (n :: l)
 | [] => List.Perm.refl _
 | m :: r => by
   unfold ins
   split
   ·exact List.Perm.refl _
   ·exact ((zaP n r).cons m).trans (List.Perm.swap n m r)
theorem zU : ∀ l : List Int,(ym l).Perm l
 | [] => List.Perm.refl _
 | n :: r => (zaP n (ym r)).trans ((zU r).cons n)
theorem zal (n : Int) : ∀ l : List Int,l.Pairwise (· ≤ ·) → (ins n l).Pairwise (· ≤ ·)
 | [],_ => by simp [ins]
 | m :: r,h => by
   unfold ins
   have h' := List.pairwise_cons.mp h
   split
   ·rename_i hn
    refine List.pairwise_cons.mpr ⟨fun x hx => ?_,h⟩
    rcases List.mem_cons.mp hx with rfl | hx
    ·exact hn
    ·exact Int.le_trans hn (h'.1 x hx)
   ·rename_i hn
    refine List.pairwise_cons.mpr ⟨fun x hx => ?_,zal n r h'.2⟩
    rcases List.mem_cons.mp ((zaP n r).mem_iff.mp hx) with rfl | hx
    ·lia
    ·exact h'.1 x hx
theorem yl : ∀ l : List Int,(ym l).Pairwise (· ≤ ·)
 | [] => List.Pairwise.nil
 | n :: r => zal n _ (yl r)
theorem xl : ∀ {a b : List Int},a.Perm b → a.Pairwise (· ≤ ·) → b.Pairwise (· ≤ ·) → a = b
 | [],b,p,_,_ => by rw [List.Perm.nil_eq p]
 | x :: a,[],p,_,_ => by have := p.length_eq; simp at this
 | x :: a,y :: b,p,ha,hb => by
   have ha' := List.pairwise_cons.mp ha
   have hb' := List.pairwise_cons.mp hb
   have e : x = y := by
    have h1 : x ∈ y :: b := p.mem_iff.mp List.mem_cons_self
    have h2 : y ∈ x :: a := p.mem_iff.mpr List.mem_cons_self
    rcases List.mem_cons.mp h1 with h1 | h1
    ·exact h1
    ·rcases List.mem_cons.mp h2 with h2 | h2
     ·exact h2.symm
     ·exact Int.le_antisymm (ha'.1 y h2) (hb'.1 x h1)
   subst e
   rw [xl ((List.perm_cons x).mp p) ha'.2 hb'.2]
noncomputable def w4 : List D → Option (List Int)
 | [] => some []
 | .int i :: ds => (w4 ds).map (i :: ·)
 | _ :: _ => none
theorem tD : ∀ {ds : List D} {ns : List Int},w4 ds = some ns → ds = ns.map .int
 | [],ns,h => by cases h; rfl
 | .int i :: ds,ns,h => by
   simp only [w4] at h
   cases q : w4 ds with
   | none => rw [q] at h; cases h
   | some ms => rw [q] at h; cases h; rw [tD q]; rfl
 | .non :: ds,ns,h => by cases h
 | .bl _ :: ds,ns,h => by cases h
 | .tup _ :: ds,ns,h => by cases h
 | .lst _ :: ds,ns,h => by cases h
 | .scr _ :: ds,ns,h => by cases h
 | .exc _ _ :: ds,ns,h => by cases h
theorem vQ : ∀ ns : List Int,w4 (ns.map .int) = some ns
 | [] => rfl
 | n :: ns => by simp [w4,vQ ns]
@[simp] noncomputable def vJ : List D → Out Val
  | [.lst ds] => match w4 ds with
    | some ns => if ns.length < 64 then .ok (.fresh ((ym ns).map .int)) else .bad
    | none => .bad
  | _ => .bad
theorem zcs {X : Cx} : ui X (.builtin "sorted") (fun xs H Q => ∃ p ns,xs = [.ref p] ∧ H p = some (.lst (ns.map V.int)) ∧ ns.length < 64 ∧ ∀ l,H l = none → Q (.ref l) (upd H l (.lst ((ym ns).map V.int)))) := by
 intro pins s σ H xs us Q I r h
 obtain ⟨p,ns,rfl,hp,hl,q⟩ := h
 obtain ⟨u,rfl,r1⟩ := zav r
 cases (show u = .ref p from r1)
 obtain ⟨z,its,n,rv,hlen,e⟩ := I.lstM hp
 have hi : IntsAre its ns := zak rv
 have hn : its.length = ns.length := by rw [← hlen,List.length_map]
 refine sorted_ints (l := p) (vs := its) ⟨_,e,rfl,_,rfl⟩ hi (by lia) fun out ns' a1 a2 a3 => ?_
 have en : ns' = ym ns := xl (a2.trans (zU ns).symm) a3 (yl ns)
 subst en
 obtain ⟨c,he⟩ := sortedAll_at s.heap its out
 have hz : ((ym ns).map V.int).length ≤ sizeLine := by rw [List.length_map,(zU ns).length_eq,sizeLine_eq]; lia
 refine ⟨.ref (s.heap.objs.size + 1),_,I.laid (t' := s.toks) (o := .lst ((ym ns).map V.int)) (fun b o eb => sortedAll_old eb) (Nat.le_succ _) ?_,rfl,q _ (I.hok.fresh (Nat.le_succ _))⟩
 exact ⟨hz,out.toList,c,vf a1,by simpa [seqObj] using he⟩
theorem zfo {K : PySem.W.Frag} : zbd K (fun xs H Q => ∃ p ns,xs = [.ref p] ∧ H p = some (.lst (ns.map V.int)) ∧ ns.length < 64 ∧ ∀ l,H l = none → Q (.ref l) (upd H l (.lst ((ym ns).map V.int)))) vJ := by
 intro G₀ H₀ env σ G H vs xs val Q I a e k
 unfold vJ at e
 split at e
 ·rename_i ds hx
  split at e
  ·rename_i ns hn
   split at e
   ·rename_i hl
    cases e
    obtain ⟨v,rfl,o⟩ := tX a hx
    obtain ⟨p,us,rfl,h1,r1⟩ := Opd.lst I o
    rw [tD hn] at r1
    rw [r1.ints_of] at h1
    refine ⟨p,ns,rfl,h1,hl,fun l hl => ?_⟩
    have g := Grow.laidL (o := .lst ((ym ns).map V.int)) I.le hl
    exact k _ G _ g.1 g.2 (xD I.le hl (RepL.ints _))
   ·cases e
  ·cases e
 ·cases e
structure Cal (P : Program) (w : World) (K : PySem.W.Frag) (mg : Str → Option Value) (base : Heap) (k : Nat) (x : Str) (ps : List Str) (m : List D → Out Val) : Prop where
 ex : ∃ (f : Addr) (fd : FuncData),FnOk P w K mg base CX0 k f fd ps (spD K m ps.length) ∧ mg x = some (.ref f) ∧ PySem.W.keepIn K (.ref f) = true ∧ Binds K fd ps []
theorem Cal.mono {P : Program} {w : World} {K : PySem.W.Frag} {mg : Str → Option Value} {base : Heap} {j k : Nat} {x : Str} {ps : List Str} {m : List D → Out Val} (c : Cal P w K mg base j x ps m) (h : j ≤ k) : Cal P w K mg base k x ps m := by
 obtain ⟨f,fd,F,r⟩ := c.ex
 exact ⟨f,fd,F.mono h,r⟩
theorem Cal.imp {P : Program} {w : World} {K : PySem.W.Frag} {mg : Str → Option Value} {base : Heap} {k : Nat} {x : Str} {ps : List Str} {m m' : List D → Out Val} (c : Cal P w K mg base k x ps m) (h : ∀ ds v,ds.length = ps.length → m' ds = .ok v → m ds = .ok v) : Cal P w K mg base k x ps m' := by
 obtain ⟨f,fd,F,r⟩ := c.ex
 refine ⟨f,fd,F.imp fun vs H Q E q => ?_,r⟩
 obtain ⟨G,ds,val,h1,h2,h3,h4,h5⟩ := q
 exact ⟨G,ds,val,h1,h2,h3,h ds val h1 h4,h5⟩
section
variable {X : Cx} {G₀ H₀ : Hp} {k : Nat} {ps : List Str} {x : Str} {p pos : Pos} {e : Expr} {es : List Expr} {r : Ev → Out (List Val)} {m : List D → Out Val}
theorem zZ (C : Cal X.prog X.w X.K X.mg X.base k x ps m) (hr : Room k X.A) (ha : DA X G₀ H₀ (e :: es) r)
 (hlen : ∀ env xs,r env = .ok xs → xs.length = ps.length) (hg : Gl X x := by rfl) (hdb : (x == ("__debug__" : Str)) = false := by decide) (he : starEach (e :: es) X.env = (false,eval e X.env) :: starEach es X.env := by rfl) (hpl : (backTo pos (starEach es X.env)).any (·.1) = false := by rfl) :
 DE X G₀ H₀ (.Call (.Name x p) (e :: es) [] pos) (zI m r) := by
 obtain ⟨f,fd,F,hm,hk,hb⟩ := C.ex
 exact zh6 F hr hm hk hb ha hlen hg hdb he hpl
end
theorem zM : ∀ env xs,fNil env = .ok xs → xs.length = 0 := fun env xs h => by cases h; rfl
theorem zq {f : FE} {r : Ev → Out (List Val)} {n : Nat} (h : ∀ env xs,r env = .ok xs → xs.length = n) : ∀ env xs,zm f r env = .ok xs → xs.length = n + 1 := fun env xs e => by
 obtain ⟨x,_,e⟩ := zn e
 obtain ⟨ys,e2,e⟩ := zn e
 cases e
 simp [h env ys e2]
theorem hu20 {A : Around} {k : Nat} (hr : Room k A) : A.units + 20 < cLine := by have := hr.units; lia
@[simp] noncomputable def wJ : D → Out Val
  | .lst ds => match w4 ds with
    | some ns => if ns.length < 18 then .ok (.fresh ((ym ns.eraseDups).map .int)) else .bad
    | none => .bad
  | _ => .bad
end DL
namespace DL
open PySem PySem.Spec PyProof.Rows L2
theorem vo : ∀ (l m : List Nat),l.Nodup → (∀ x ∈ l,x ∈ m) → l.length ≤ m.length
 | [],m,_,_ => Nat.zero_le _
 | x :: l,m,hn,hs => by
   have hx : x ∈ m := hs x (.head _)
   have h2 := List.nodup_cons.mp hn
   have := vo l (m.erase x) h2.2 fun y hy => (List.mem_erase_of_ne (fun z : y = x => h2.1 (by rw [← z]; exact hy))).mpr (hs y (.tail _ hy))
   rw [List.length_erase_of_mem hx] at this
   have hp : 0 < m.length := List.length_pos_of_mem hx
   simp only [List.length_cons]
   lia
theorem zci (xs : List Nat) (n : Nat) (h : xs.length < n) : ∃ e,e < n ∧ e ∉ xs := by
 refine Classical.byContradiction fun hc => ?_
 have : ∀ x ∈ List.range n,x ∈ xs := fun x hx => Classical.byContradiction fun hh => hc ⟨x,List.mem_range.mp hx,hh⟩
 have h2 := vo (List.range n) xs List.nodup_range this
 rw [List.length_range] at h2
 lia
noncomputable def lp (mask : Nat) : Nat → Nat × Nat → Nat × Nat
 | 0,x => x
 | n + 1,x => lp mask n (SetTable.leap mask x.1 x.2)
theorem zaN (mask : Nat) : ∀ (n : Nat) (x : Nat × Nat),lp mask (n + 1) x = SetTable.leap mask (lp mask n x).1 (lp mask n x).2
 | 0,x => rfl
 | n + 1,x => zaN mask n _
theorem zg1 (mask : Nat) : ∀ (m n : Nat) (x : Nat × Nat),lp mask (m + n) x = lp mask n (lp mask m x)
 | 0,n,x => by rw [Nat.zero_add]; rfl
 | m + 1,n,x => by
   rw [Nat.add_right_comm]
   exact zg1 mask m n _
theorem zg0 (mask : Nat) : ∀ (n : Nat) (x : Nat × Nat),(lp mask n x).2 = x.2 / 32 ^ n
 | 0,x => by simp [lp]
 | n + 1,x => by
   rw [lp,zg0 mask n]
   simp only [SetTable.leap]
   rw [Nat.div_div_eq_div_mul,Nat.pow_succ,Nat.mul_comm]
theorem lp_lt (mask n : Nat) (x : Nat × Nat) (h : x.1 ≤ mask) : (lp mask n x).1 ≤ mask := by
 cases n with
 | zero => exact h
 | succ n =>
   rw [zaN]
   simp only [SetTable.leap]
   have := Nat.mod_lt ((lp mask n x).1 * 5 + 1 + (lp mask n x).2 / 32) (show 0 < mask + 1 by lia)
   lia
noncomputable def lc (mask : Nat) : Nat → Nat → Nat
 | 0,i => i
 | n + 1,i => lc mask n ((i * 5 + 1) % (mask + 1))
theorem zeP (mask : Nat) : ∀ (n i : Nat),lp mask n (i,0) = (lc mask n i,0)
 | 0,i => rfl
 | n + 1,i => by
   show lp mask n (SetTable.leap mask i 0) = _
   simp only [SetTable.leap,Nat.zero_div,Nat.add_zero]
   exact zeP mask n _
noncomputable def lcAll (mask : Nat) : Bool := (List.range (mask + 1)).all fun i => (List.range (mask + 1)).all fun e => (List.range (mask + 1)).any fun m => lc mask m i == e
theorem zhU : lcAll 7 = true := by decide +kernel
theorem zc9 : lcAll 31 = true := by decide +kernel
theorem zhT {mask i e : Nat} (h : lcAll mask = true) (hi : i ≤ mask) (he : e ≤ mask) : ∃ m,m ≤ mask ∧ lc mask m i = e := by
 unfold lcAll at h
 rw [List.all_eq_true] at h
 have h1 := h i (List.mem_range.mpr (by lia))
 rw [List.all_eq_true] at h1
 have h2 := h1 e (List.mem_range.mpr (by lia))
 rw [List.any_eq_true] at h2
 obtain ⟨m,hm,q⟩ := h2
 exact ⟨m,by have := List.mem_range.mp hm; lia,by simpa using q⟩
theorem zie (h : Int) : SetTable.bits h < 2 ^ 64 := by
 unfold SetTable.bits
 have h1 := Int.emod_nonneg h (show (2 ^ 64 : Int) ≠ 0 by decide)
 have h2 := Int.emod_lt_of_pos h (show (0 : Int) < 2 ^ 64 by decide)
 lia
theorem zeQ {mask e : Nat} {h : Int} {i : Nat} (ha : lcAll mask = true) (hi : i ≤ mask) (he : e ≤ mask) : ∃ n,n ≤ 13 + mask ∧ (lp mask n (i,SetTable.bits h)).1 = e := by
 have hz : (lp mask 13 (i,SetTable.bits h)).2 = 0 := by
  rw [zg0]
  exact Nat.div_eq_of_lt (Nat.lt_of_lt_of_le (zie h) (by decide))
 obtain ⟨m,hm,q⟩ := zhT ha (lp_lt mask 13 (i,SetTable.bits h) hi) he
 refine ⟨13 + m,by lia,?_⟩
 rw [zg1]
 have : lp mask 13 (i,SetTable.bits h) = ((lp mask 13 (i,SetTable.bits h)).1,0) := by rw [← hz]
 rw [this,zeP]
 exact q
noncomputable def advN (t : SetTable) : Nat → SetTable.Probe → SetTable.Probe
 | 0,p => p
 | n + 1,p => advN t n (t.advance p)
theorem zdt (t : SetTable) : ∀ (m n : Nat) (p : SetTable.Probe),advN t (m + n) p = advN t n (advN t m p)
 | 0,n,p => by rw [Nat.zero_add]; rfl
 | m + 1,n,p => by rw [Nat.add_right_comm]; exact zdt t m n _
noncomputable def runP (t : SetTable) (x : Nat × Nat) : SetTable.Probe := { j := x.1,more := SetTable.runEnd t.mask x.1 - x.1,i := x.1,perturb := x.2,dummy := none }
theorem zfE (t : SetTable) : ∀ (k : Nat) (p : SetTable.Probe),p.more = k → p.dummy = none → advN t (k + 1) p = runP t (SetTable.leap t.mask p.i p.perturb)
 | 0,p,h,hd => by
   show t.advance p = _
   unfold SetTable.advance
   rw [if_neg (by lia)]
   simp [runP,hd]
 | k + 1,p,h,hd => by
   have e : t.advance p = { p with j := p.j + 1,more := p.more - 1 } := by
    unfold SetTable.advance
    rw [if_pos (by lia)]
   show advN t (k + 1) (t.advance p) = _
   rw [e]
   exact zfE t k { p with j := p.j + 1,more := p.more - 1 } (by show p.more - 1 = k; lia) hd
theorem zen (mask i : Nat) : SetTable.runEnd mask i - i ≤ 9 := by
 unfold SetTable.runEnd
 split <;> lia
theorem zbX (t : SetTable) (x : Nat × Nat) : ∀ n : Nat,∃ k,k ≤ 10 * n ∧ advN t k (runP t x) = runP t (lp t.mask n x)
 | 0 => ⟨0,Nat.zero_le _,rfl⟩
 | n + 1 => by
   obtain ⟨k,hk,e⟩ := zbX t x n
   have h9 := zen t.mask (lp t.mask n x).1
   refine ⟨k + ((runP t (lp t.mask n x)).more + 1),?_,?_⟩
   ·show k + (SetTable.runEnd t.mask (lp t.mask n x).1 - (lp t.mask n x).1 + 1) ≤ _
    lia
   ·rw [zdt,e,zfE t _ _ rfl rfl,zaN]
    rfl
theorem zbc (t : SetTable) (p : SetTable.Probe) : (t.advance p).dummy = p.dummy := by
 unfold SetTable.advance
 split <;> rfl
theorem tZ {t : SetTable} (hd : t.dummies = #[]) (j : Nat) : t.slot j = .empty ∨ ∃ i,t.slot j = .live i := by
 unfold SetTable.slot
 dsimp only
 split
 ·exact .inr ⟨_,rfl⟩
 ·rw [hd,if_neg (by simp [SetTable.has])]
  exact .inl rfl
theorem zde {t : SetTable} {h : Int} (hd : t.dummies = #[]) : ∀ (k fuel : Nat) (p : SetTable.Probe),k < fuel → p.dummy = none → t.slot (advN t k p).j = .empty →
 ∃ j,SetTable.probe.go t (fun _ => h + 1) h fuel p = some (.empty j none) ∧ t.slot j = .empty
 | k,0,p,hk,_,_ => absurd hk (Nat.not_lt_zero _)
 | k,fuel + 1,p,hk,hp,hs => by
   unfold SetTable.probe.go
   rcases tZ hd p.j with e | ⟨i,e⟩
   ·rw [e]
    exact ⟨p.j,by simp [hp],e⟩
   ·rw [e]
    dsimp only
    have hne : (h + 1 == h) = false := by simp; lia
    rw [hne]
    cases k with
    | zero => rw [show (advN t 0 p).j = p.j from rfl,e] at hs; cases hs
    | succ k => exact zde hd k fuel (t.advance p) (by lia) (by rw [zbc]; exact hp) hs
theorem uE {t : SetTable} (hd : t.dummies = #[]) {j : Nat} (h : j ∉ t.place.toList) : t.slot j = .empty := by
 rcases tZ hd j with e | ⟨i,e⟩
 ·exact e
 ·unfold SetTable.slot at e
  dsimp only at e
  split at e
  ·rename_i hb
   have hb' : t.place[SetTable.below t.place j]? = some j := by simpa using hb
   rw [← Array.getElem?_toList] at hb'
   exact absurd (List.mem_of_getElem? hb') h
  ·rw [hd,if_neg (by simp [SetTable.has])] at e
   cases e
structure TabOk (t : SetTable) (n : Nat) : Prop where
 plain : t.plain = true
 dummies : t.dummies = #[]
 size : t.place.size = n
 rise : t.place.toList.Pairwise (· < ·)
 mask : (t.mask = 7 ∧ n < 5) ∨ (t.mask = 31 ∧ n < 19)
theorem TabOk.lcAll {t : SetTable} {n : Nat} (h : TabOk t n) : lcAll t.mask = true := by
 rcases h.mask with ⟨e,_⟩ | ⟨e,_⟩ <;> rw [e]
 ·exact zhU
 ·exact zc9
theorem zcg {t : SetTable} {n : Nat} (T : TabOk t n) (h : Int) : ∃ j,t.freeSlot h = some (j,false) ∧ t.slot j = .empty := by
 obtain ⟨e,he,hm⟩ := zci t.place.toList (t.mask + 1) (by rw [Array.length_toList,T.size]; rcases T.mask with ⟨q,_⟩ | ⟨q,_⟩ <;> lia)
 have hi : SetTable.bits h % (t.mask + 1) ≤ t.mask := by
  have := Nat.mod_lt (SetTable.bits h) (show 0 < t.mask + 1 by lia)
  lia
 obtain ⟨m,hm1,hm2⟩ := zeQ (h := h) T.lcAll hi (show e ≤ t.mask by lia)
 obtain ⟨k,hk1,hk2⟩ := zbX t (SetTable.bits h % (t.mask + 1),SetTable.bits h) m
 obtain ⟨j,hj,hs⟩ := zde (h := h) T.dummies k (10 * SetTable.turns t.mask) (t.probeStart h) (by unfold SetTable.turns; lia) rfl (by
  show t.slot (advN t k (runP t (SetTable.bits h % (t.mask + 1),SetTable.bits h))).j = .empty
  rw [hk2]
  show t.slot (lp t.mask m _).1 = .empty
  rw [hm2]
  exact uE T.dummies hm)
 refine ⟨j,?_,hs⟩
 unfold SetTable.freeSlot SetTable.probe
 rw [hj]
 rfl
theorem za8 {xs : Array Nat} {j : Nat} (hr : xs.toList.Pairwise (· < ·)) : ∀ (fuel lo hi : Nat),hi - lo ≤ fuel → lo ≤ hi → hi ≤ xs.size → (∀ i x,i < lo → xs[i]? = some x → x < j) → (∀ i x,hi ≤ i → xs[i]? = some x → j ≤ x) →
 SetTable.below.go xs j fuel lo hi ≤ xs.size ∧ (∀ i x,i < SetTable.below.go xs j fuel lo hi → xs[i]? = some x → x < j) ∧ (∀ i x,SetTable.below.go xs j fuel lo hi ≤ i → xs[i]? = some x → j ≤ x)
 | 0,lo,hi,h1,h2,h3,h4,h5 => by
   have : lo = hi := by lia
   subst this
   exact ⟨h3,h4,h5⟩
 | fuel + 1,lo,hi,h1,h2,h3,h4,h5 => by
   unfold SetTable.below.go
   by_cases hlt : lo < hi
   ·rw [if_pos hlt]
    dsimp only
    have hmid : (lo + hi) / 2 < xs.size := by lia
    have hrel : ∀ (a b x y : Nat),a < b → xs[a]? = some x → xs[b]? = some y → x < y := by
     intro a b x y hab ha hb
     rw [← Array.getElem?_toList] at ha hb
     obtain ⟨ha1,rfl⟩ := List.getElem?_eq_some_iff.mp ha
     obtain ⟨hb1,rfl⟩ := List.getElem?_eq_some_iff.mp hb
     exact List.pairwise_iff_getElem.mp hr a b ha1 hb1 hab
    have hg : xs.getD ((lo + hi) / 2) j = xs[(lo + hi) / 2] := by simp [Array.getD,hmid]
    rw [hg]
    by_cases hc : xs[(lo + hi) / 2] < j
    ·rw [if_pos hc]
     refine za8 hr fuel _ hi (by lia) (by lia) h3 (fun i x hi' hx => ?_) h5
     by_cases hi2 : i = (lo + hi) / 2
     ·subst hi2
      rw [Array.getElem?_eq_getElem hmid] at hx
      cases hx
      exact hc
     ·have := hrel i ((lo + hi) / 2) x _ (by lia) hx (Array.getElem?_eq_getElem hmid)
      lia
    ·rw [if_neg hc]
     refine za8 hr fuel lo _ (by lia) (by lia) (by lia) h4 (fun i x hi' hx => ?_)
     by_cases hi2 : i = (lo + hi) / 2
     ·subst hi2
      rw [Array.getElem?_eq_getElem hmid] at hx
      cases hx
      lia
     ·have := hrel ((lo + hi) / 2) i _ x (by lia) (Array.getElem?_eq_getElem hmid) hx
      lia
   ·rw [if_neg hlt]
    have : lo = hi := by lia
    subst this
    exact ⟨h3,h4,h5⟩
theorem zdq {xs : Array Nat} (j : Nat) (hr : xs.toList.Pairwise (· < ·)) :
 SetTable.below xs j ≤ xs.size ∧ (∀ i x,i < SetTable.below xs j → xs[i]? = some x → x < j) ∧ (∀ i x,SetTable.below xs j ≤ i → xs[i]? = some x → j ≤ x) :=
 za8 hr xs.size 0 xs.size (by lia) (by lia) (Nat.le_refl _) (fun _ _ h => absurd h (Nat.not_lt_zero _)) fun i x h hx => by
  rw [Array.getElem?_eq_none h] at hx; cases hx
theorem zdT {xs : Array Nat} {i : Nat} (hr : xs.toList.Pairwise (· < ·)) (slot : Nat) (h0 : i = 0 → slot = 0) (h1 : ∀ k x,i = k + 1 → xs[k]? = some x → slot = x + 1) (hi : i ≤ xs.size) : SetTable.below xs slot = i := by
 obtain ⟨b1,b2,b3⟩ := zdq slot hr
 have hrel : ∀ (a b x y : Nat),a < b → xs[a]? = some x → xs[b]? = some y → x < y := by
  intro a b x y hab ha hb
  rw [← Array.getElem?_toList] at ha hb
  obtain ⟨ha1,rfl⟩ := List.getElem?_eq_some_iff.mp ha
  obtain ⟨hb1,rfl⟩ := List.getElem?_eq_some_iff.mp hb
  exact List.pairwise_iff_getElem.mp hr a b ha1 hb1 hab
 rcases Nat.lt_trichotomy (SetTable.below xs slot) i with hlt | heq | hgt
 ·cases i with
  | zero => exact absurd hlt (Nat.not_lt_zero _)
  | succ k =>
    have hk : k < xs.size := by lia
    have e := h1 k _ rfl (Array.getElem?_eq_getElem hk)
    have := b3 k _ (by lia) (Array.getElem?_eq_getElem hk)
    lia
 ·exact heq
 ·have hii : i < xs.size := by lia
  have hx := b2 i _ hgt (Array.getElem?_eq_getElem hii)
  cases i with
  | zero => rw [h0 rfl] at hx; lia
  | succ k =>
    have hk : k < xs.size := by lia
    have e := h1 k _ rfl (Array.getElem?_eq_getElem hk)
    have := hrel k (k + 1) _ _ (Nat.lt_succ_self _) (Array.getElem?_eq_getElem hk) (Array.getElem?_eq_getElem hii)
    lia
theorem ziD {t : SetTable} {n j : Nat} (T : TabOk t n) (hs : t.slot j = .empty) : (t.put j).1 = { t with place := SetTable.insertAt t.place (t.put j).2 j } ∧ (SetTable.insertAt t.place (t.put j).2 j).toList.Pairwise (· < ·) ∧ (t.put j).2 ≤ n := by
 have hp : (t.put j).2 = SetTable.below t.place j := rfl
 obtain ⟨b1,b2,b3⟩ := zdq j T.rise
 refine ⟨?_,?_,by rw [hp,← T.size]; exact b1⟩
 ·unfold SetTable.put
  dsimp only
  rw [T.dummies,if_neg (by simp [SetTable.has])]
 ·rw [hp,SetTable.toList_insertAt]
  have hne : t.place[SetTable.below t.place j]? ≠ some j := by
   unfold SetTable.slot at hs
   dsimp only at hs
   split at hs
   ·cases hs
   ·rename_i hb
    simpa using hb
  have hrel : ∀ (a b x y : Nat),a < b → t.place[a]? = some x → t.place[b]? = some y → x < y := by
   intro a b x y hab ha hb
   rw [← Array.getElem?_toList] at ha hb
   obtain ⟨ha1,rfl⟩ := List.getElem?_eq_some_iff.mp ha
   obtain ⟨hb1,rfl⟩ := List.getElem?_eq_some_iff.mp hb
   exact List.pairwise_iff_getElem.mp T.rise a b ha1 hb1 hab
  have hlow : ∀ x ∈ t.place.toList.take (SetTable.below t.place j),x < j := by
   intro x hx
   obtain ⟨i,hi⟩ := List.getElem?_of_mem hx
   rw [List.getElem?_take] at hi
   split at hi
   ·rename_i h1
    rw [Array.getElem?_toList] at hi
    exact b2 i x h1 hi
   ·cases hi
  have hhigh : ∀ x ∈ t.place.toList.drop (SetTable.below t.place j),j < x := by
   intro x hx
   obtain ⟨i,hi⟩ := List.getElem?_of_mem hx
   rw [List.getElem?_drop,Array.getElem?_toList] at hi
   have h1 := b3 (SetTable.below t.place j + i) x (by lia) hi
   rcases Nat.lt_or_eq_of_le h1 with h2 | h2
   ·exact h2
   ·subst h2
    exfalso
    cases i with
    | zero => exact hne hi
    | succ i =>
      have hb : SetTable.below t.place j < t.place.size := by
       have := Array.getElem?_eq_some_iff.mp hi
       obtain ⟨q,_⟩ := this
       lia
      have q1 := b3 _ _ (Nat.le_refl _) (Array.getElem?_eq_getElem hb)
      have q2 := hrel _ _ _ _ (show SetTable.below t.place j < SetTable.below t.place j + (i + 1) by lia) (Array.getElem?_eq_getElem hb) hi
      lia
  rw [List.pairwise_append]
  refine ⟨T.rise.sublist (List.take_sublist _ _),?_,?_⟩
  ·rw [List.pairwise_cons]
   exact ⟨hhigh,T.rise.sublist (List.drop_sublist _ _)⟩
  ·intro a ha b hb
   rcases List.mem_cons.mp hb with rfl | hb
   ·exact hlow a ha
   ·exact Nat.lt_trans (hlow a ha) (hhigh b hb)
end DL
namespace DL
open PySem PySem.Spec PyProof.Rows L2
theorem zeT {t : SetTable} {es : Array (Int × Value)} (T : TabOk t es.size) (hn : es.size < 18) (h : Int) (x : Value) :
 ∃ p j,p ≤ es.size ∧ layNew t es h x = (SetTable.insertAt es p (h,x),{ t with place := SetTable.insertAt t.place p j },false,false) ∧ (SetTable.insertAt t.place p j).toList.Pairwise (· < ·)
   ∧ (SetTable.insertAt es p (h,x)).size = es.size + 1 ∧ (SetTable.insertAt t.place p j).size = es.size + 1 := by
 obtain ⟨j,hj,hs⟩ := zcg T h
 obtain ⟨h1,h2,h3⟩ := ziD T hs
 have z1 : (SetTable.insertAt es (t.put j).2 (h,x)).size = es.size + 1 := by
  have := (SetTable.insertAt_perm es (t.put j).2 (h,x)).length_eq
  simpa using this
 have z2 : (SetTable.insertAt t.place (t.put j).2 j).size = es.size + 1 := by
  have := (SetTable.insertAt_perm t.place (t.put j).2 j).length_eq
  rw [← T.size]
  simpa using this
 have hfit : SetTable.fits { t with place := SetTable.insertAt t.place (t.put j).2 j } (es.size + 1) = true := by
  unfold SetTable.fits SetTable.fill
  rw [z2,T.dummies]
  rcases T.mask with ⟨q,_⟩ | ⟨q,_⟩ <;> rw [q] <;> simp <;> lia
 refine ⟨(t.put j).2,j,h3,?_,h2,z1,z2⟩
 unfold layNew
 rw [hj]
 dsimp only
 rw [h1,z1]
 unfold SetTable.orStandIn
 rw [hfit]
 rfl
theorem zbl : ∀ (l : List (Option Nat)) (j k : Nat),l[j]? = some none → List.Perm ((l.set j (some k)).filterMap id) (k :: l.filterMap id)
 | [],j,k,h => by simp at h
 | a :: l,0,k,h => by
   simp at h
   subst h
   simp
 | a :: l,j + 1,k,h => by
   have ih := zbl l j k (by simpa using h)
   cases a with
   | none => simpa using ih
   | some b =>
     simp only [List.set_cons_succ,List.filterMap_cons,id]
     exact (ih.cons b).trans (.swap k b _)
theorem zdI {owner : Array (Option Nat)} {n k : Nat} (hs : owner.size = n) (hp : List.Perm (owner.toList.filterMap id) (List.range k)) (hk : k < n) : ∃ e,e < n ∧ owner[e]? = some none := by
 refine Classical.byContradiction fun hc => ?_
 have hall : ∀ a ∈ owner.toList,a ≠ none := by
  intro a ha z
  subst z
  obtain ⟨i,hi⟩ := List.getElem?_of_mem ha
  rw [Array.getElem?_toList] at hi
  obtain ⟨q,_⟩ := Array.getElem?_eq_some_iff.mp hi
  exact hc ⟨i,by lia,hi⟩
 have hlen : ∀ l : List (Option Nat),(∀ a ∈ l,a ≠ none) → (l.filterMap id).length = l.length := by
  intro l
  induction l with
  | nil => intro _; rfl
  | cons a l ih =>
    intro h
    cases a with
    | none => exact absurd rfl (h none (.head _))
    | some b =>
      simp only [List.filterMap_cons,id,List.length_cons]
      rw [ih fun a ha => h a (.tail _ ha)]
 have h1 := hlen owner.toList hall
 rw [hp.length_eq,List.length_range,Array.length_toList] at h1
 lia
theorem zan {mask e : Nat} {owner : Array (Option Nat)} (he : owner[e]? = some none) : ∀ (n fuel : Nat) (i p : Nat),n < fuel → (lp mask n (i,p)).1 = e → ∃ j,SetTable.layClean.free mask owner fuel i p = some j ∧ owner[j]? = some none
 | n,0,i,p,h,_ => absurd h (Nat.not_lt_zero _)
 | n,fuel + 1,i,p,h,hq => by
   unfold SetTable.layClean.free
   cases hf : (List.range (SetTable.runEnd mask i + 1 - i)).find? fun k => (owner.getD (i + k) (some 0)).isNone with
   | some k =>
     dsimp only
     refine ⟨i + k,rfl,?_⟩
     have := List.find?_some hf
     simp only [Option.isNone_iff_eq_none] at this
     by_cases hb : i + k < owner.size
     ·rw [Array.getElem?_eq_getElem hb]
      simp only [Array.getD,hb,dite_true] at this
      simpa using this
     ·simp [Array.getD,hb] at this
   | none =>
     dsimp only
     cases n with
     | zero =>
       exfalso
       have : i = e := hq
       subst this
       rw [List.find?_eq_none] at hf
       have h1 := hf 0 (List.mem_range.mpr (by unfold SetTable.runEnd; split <;> lia))
       apply h1
       obtain ⟨q,q2⟩ := Array.getElem?_eq_some_iff.mp he
       simp [Array.getD,q,q2]
     | succ n => exact zan he n fuel _ _ (by lia) hq
theorem zb9 (hs : List Int) : ∀ (owner : Array (Option Nat)) (k : Nat),owner.size = 32 → List.Perm (owner.toList.filterMap id) (List.range k) → k + hs.length < 32 →
 ∃ owner',(hs.foldl (init := some (owner,k)) fun acc h => do
   let (owner,k) ← acc
   let j ← SetTable.layClean.free 31 owner (SetTable.turns 31) (SetTable.bits h % (31 + 1)) (SetTable.bits h)
   pure (owner.setIfInBounds j (some k),k + 1)) = some (owner',k + hs.length) ∧ owner'.size = 32 ∧ List.Perm (owner'.toList.filterMap id) (List.range (k + hs.length)) := by
 induction hs with
 | nil => intro owner k h1 h2 h3; exact ⟨owner,rfl,h1,h2⟩
 | cons h hs ih =>
   intro owner k h1 h2 h3
   obtain ⟨e,he1,he2⟩ := zdI h1 h2 (by lia)
   have hi : SetTable.bits h % (31 + 1) ≤ 31 := by
    have := Nat.mod_lt (SetTable.bits h) (show 0 < 31 + 1 by lia)
    lia
   obtain ⟨n,hn1,hn2⟩ := zeQ (h := h) zc9 hi (show e ≤ 31 by lia)
   obtain ⟨j,hj1,hj2⟩ := zan he2 n (SetTable.turns 31) _ _ (by unfold SetTable.turns; lia) hn2
   have hjl : j < owner.size := (Array.getElem?_eq_some_iff.mp hj2).1
   obtain ⟨o',e1,e2,e3⟩ := ih (owner.setIfInBounds j (some k)) (k + 1) (by simpa using h1) (by
    have hp := zbl owner.toList j k (by rw [Array.getElem?_toList]; exact hj2)
    have : (owner.setIfInBounds j (some k)).toList = owner.toList.set j (some k) := by simp
    rw [this,List.range_succ]
    exact hp.trans ((h2.cons k).trans (List.perm_append_singleton k _).symm)) (by simp at h3; lia)
   refine ⟨o',?_,e2,?_⟩
   ·rw [List.foldl_cons]
    have : (do
     let (owner,k) ← some (owner,k)
     let j ← SetTable.layClean.free 31 owner (SetTable.turns 31) (SetTable.bits h % (31 + 1)) (SetTable.bits h)
     pure (owner.setIfInBounds j (some k),k + 1)) = some (owner.setIfInBounds j (some k),k + 1) := by
     show (SetTable.layClean.free 31 owner (SetTable.turns 31) (SetTable.bits h % (31 + 1)) (SetTable.bits h)).bind _ = _
     rw [hj1]
     rfl
    rw [this,e1]
    simp [Nat.add_assoc,Nat.add_comm 1]
   ·have : k + (h :: hs).length = k + 1 + hs.length := by simp; lia
    rw [this]
    exact e3
theorem zgm (owner : Array (Option Nat)) (n : Nat) : (((List.range n).filterMap fun j => (owner.getD j none).map (j,·)).map (·.1)).Pairwise (· < ·) := by
 rw [List.pairwise_map,List.pairwise_filterMap]
 refine List.Pairwise.imp ?_ List.pairwise_lt_range
 intro a b hab x hx y hy
 cases q1 : owner.getD a none with
 | none => rw [q1] at hx; cases hx
 | some u =>
   cases q2 : owner.getD b none with
   | none => rw [q2] at hy; cases hy
   | some v => rw [q1] at hx; rw [q2] at hy; cases hx; cases hy; exact hab
theorem zgl (owner : Array (Option Nat)) : (((List.range owner.size).filterMap fun j => (owner.getD j none).map (j,·)).map (·.2)) = owner.toList.filterMap id := by
 rw [List.map_filterMap]
 have h1 : owner.toList = (List.range owner.size).map fun j => owner.getD j none := by
  apply List.ext_getElem?
  intro i
  rw [Array.getElem?_toList,List.getElem?_map]
  by_cases hi : i < owner.size
  ·rw [List.getElem?_range hi,Array.getElem?_eq_getElem hi]
   simp [Array.getD,hi]
  ·rw [Array.getElem?_eq_none (by lia),List.getElem?_eq_none (by simpa using hi)]
   rfl
 rw [h1,List.filterMap_map]
 congr 1
 funext j
 simp only [Function.comp]
 cases owner.getD j none <;> rfl
theorem zet (t : SetTable) (es : Array (Int × Value)) (hp : t.plain = true) (hn : es.size = 5) :
 ∃ es' t',relayAll t es (SetTable.grown es.size) = (es',t',false) ∧ TabOk t' es'.size ∧ t'.led = t.led ∧ List.Perm es'.toList es.toList ∧ es'.size = 5 := by
 have hw : SetTable.sizeAbove (SetTable.grown es.size) - 1 = 31 := by rw [hn]; decide
 obtain ⟨owner,e1,e2,e3⟩ := zb9 (es.map (·.1)).toList (Array.replicate 32 none) 0 (by simp) (by
  have : (Array.replicate 32 (none : Option Nat)).toList.filterMap id = [] := by decide
  rw [this]; exact .nil) (by simp; lia)
 have hl : SetTable.layClean 31 (es.map (·.1)) = some owner := by
  unfold SetTable.layClean
  rw [← Array.foldl_toList]
  rw [e1]
  rfl
 have h5 : 0 + (es.map (·.1)).toList.length = 5 := by simp [hn]
 rw [h5] at e3
 have hr : t.relaid (es.map (·.1)) (SetTable.grown es.size) = some ({ mask := 31,place := (((List.range 32).filterMap fun j => (owner.getD j none).map (j,·)).map (·.1)).toArray,dummies := #[],finger := t.finger,led := t.led,moves := t.movedTo 31,plain := t.plain },(((List.range 32).filterMap fun j => (owner.getD j none).map (j,·)).map (·.2)).toArray) := by
  unfold SetTable.relaid SetTable.laid
  rw [hw,hl]
  rfl
 have h2 := zgl owner
 rw [e2] at h2
 have hlen : (((List.range 32).filterMap fun j => (owner.getD j none).map (j,·))).length = 5 := by
  have : ((((List.range 32).filterMap fun j => (owner.getD j none).map (j,·))).map (·.2)).length = 5 := by
   rw [h2,e3.length_eq,List.length_range]
  simpa using this
 have hcov : coversAll (((List.range 32).filterMap fun j => (owner.getD j none).map (j,·)).map (·.2)).toArray es.size = true := by
  unfold coversAll
  rw [List.isPerm_iff,hn]
  rw [h2]
  exact e3
 have hperm : List.Perm ((((List.range 32).filterMap fun j => (owner.getD j none).map (j,·)).map (·.2)).toArray.filterMap (es[·]?)).toList es.toList := by
  rw [Array.toList_filterMap,h2]
  exact ((e3.filterMap _).trans (by rw [← hn]; exact List.Perm.of_eq (filterMap_getElem?_range es)))
 have hsz : ((((List.range 32).filterMap fun j => (owner.getD j none).map (j,·)).map (·.2)).toArray.filterMap (es[·]?)).size = 5 := by
  rw [← Array.length_toList,hperm.length_eq,Array.length_toList,hn]
 refine ⟨_,{ mask := 31,place := (((List.range 32).filterMap fun j => (owner.getD j none).map (j,·)).map (·.1)).toArray,dummies := #[],finger := t.finger,led := t.led,moves := t.movedTo 31,plain := t.plain },?_,?_,?_,hperm,hsz⟩
 rotate_left
 ·rw [hsz]
  exact ⟨hp,rfl,by simpa using hlen,by simpa using zgm owner 32,.inr ⟨rfl,by lia⟩⟩
 ·rfl
 ·unfold relayAll
  rw [hr]
  dsimp only
  rw [hcov]
  have hf : SetTable.fits { mask := 31,place := (((List.range 32).filterMap fun j => (owner.getD j none).map (j,·)).map (·.1)).toArray,dummies := #[],finger := t.finger,led := t.led,moves := t.movedTo 31,plain := t.plain } ((((List.range 32).filterMap fun j => (owner.getD j none).map (j,·)).map (·.2)).toArray.filterMap (es[·]?)).size = true := by
   unfold SetTable.fits SetTable.fill
   rw [hsz]
   simp only [List.size_toArray,List.length_map,hlen]
   rfl
  rw [hf]
  rfl
end DL
namespace DL
open PySem PySem.Spec PyProof.Rows L2
noncomputable def keyE (e : Int × Value) : Int := match e.2 with
 | .int k _ => k
 | _ => 0
structure EsOk (es : List (Int × Value)) (ns : List Int) : Prop where
 all : ∀ e ∈ es,∃ (k : Int) (t : Tok),e = (hashInt k,.int k t)
 perm : (es.map keyE).Perm ns
theorem EsOk.nil : EsOk [] [] := ⟨fun e h => (List.not_mem_nil h).elim,List.Perm.nil⟩
theorem EsOk.of_perm {es es' : List (Int × Value)} {ns : List Int} (h : EsOk es ns) (p : es'.Perm es) : EsOk es' ns :=
 ⟨fun e he => h.all e (p.mem_iff.mp he),(p.map keyE).trans h.perm⟩
theorem EsOk.push {es : List (Int × Value)} {ns : List Int} (h : EsOk es ns) (k : Int) (t : Tok) : EsOk (es ++ [(hashInt k,.int k t)]) (ns ++ [k]) :=
 ⟨fun e he => by
  rcases List.mem_append.mp he with he | he
  ·exact h.all e he
  ·rw [List.mem_singleton] at he; exact ⟨k,t,he⟩,by
  rw [List.map_append]
  exact h.perm.append (.refl _)⟩
theorem EsOk.length {es : List (Int × Value)} {ns : List Int} (h : EsOk es ns) : es.length = ns.length := by
 rw [← h.perm.length_eq,List.length_map]
theorem EsOk.elems {prog : Program} {w : World} {es : List (Int × Value)} {ns : List Int} (h : EsOk es ns) : ElemsOf (intKind prog w) es := fun e he => by
 obtain ⟨k,t,rfl⟩ := h.all e he
 exact ⟨⟨k,intKind_is _ _ _ _,rfl⟩,rfl⟩
theorem EsOk.mem {prog : Program} {w : World} {es : List (Int × Value)} {ns : List Int} (h : EsOk es ns) (k : Int) : k ∈ ns ↔ ∃ e ∈ es,(intKind prog w).is k e.2 = true := by
 rw [← h.perm.mem_iff,List.mem_map]
 constructor
 ·rintro ⟨e,he,rfl⟩
  obtain ⟨k,t,rfl⟩ := h.all e he
  exact ⟨_,he,intKind_is _ _ _ _⟩
 ·rintro ⟨e,he,q⟩
  obtain ⟨k',t,rfl⟩ := h.all e he
  refine ⟨_,he,?_⟩
  exact (intKind prog w).inj _ _ _ (intKind_is _ _ _ _) q
structure SetAt (w : World) (h : Heap) (a : Addr) (es : Array (Int × Value)) (ep : Nat) (t : SetTable) : Prop where
 ex : ∃ o : Obj,h.get? a = some o ∧ o.ExactSet ∧ o.data = .set es ep t
 tab : TabOk t es.size
 led : t.led = !w.params.followText "set-order"
theorem TabOk.fits {t : SetTable} {n : Nat} (T : TabOk t n) : t.fits n = true := by
 unfold SetTable.fits SetTable.fill
 rw [T.size,T.dummies]
 rcases T.mask with ⟨q,_⟩ | ⟨q,_⟩ <;> rw [q] <;> simp <;> lia
theorem SetAt.keep {w : World} {h h' : Heap} {a : Addr} {es : Array (Int × Value)} {ep : Nat} {t : SetTable} (S : SetAt w h a es ep t) (hk : ∀ o,h.get? a = some o → h'.get? a = some o) : SetAt w h' a es ep t := by
 obtain ⟨o,ho,r⟩ := S.ex
 exact ⟨⟨o,hk o ho,r⟩,S.tab,S.led⟩
theorem SetAt.typeIs {w : World} {s : Shared} {a : Addr} {es : Array (Int × Value)} {ep : Nat} {t : SetTable} (S : SetAt w s.heap a es ep t) : s.TypeIs (.ref a) "set" := by
 obtain ⟨o,ho,hx,_⟩ := S.ex
 exact ⟨o,ho,hx.1⟩
theorem SetAt.lt {w : World} {h : Heap} {a : Addr} {es : Array (Int × Value)} {ep : Nat} {t : SetTable} (S : SetAt w h a es ep t) : a < h.objs.size := by
 obtain ⟨o,ho,_⟩ := S.ex
 exact Heap.lt_size ho
theorem SetAt.store {w : World} {h : Heap} {a : Addr} {es : Array (Int × Value)} {ep : Nat} {t : SetTable} (S : SetAt w h a es ep t) {es' : Array (Int × Value)} {t' : SetTable} (T : TabOk t' es'.size) (hl : t'.led = t.led) :
 SetAt w (h.update a (Obj.putSet es' t')) a es' (ep + 1) t' := by
 obtain ⟨o,ho,hx,hd⟩ := S.ex
 have hg : (h.update a (Obj.putSet es' t')).get? a = some { o with data := .set es' (ep + 1) t' } := by
  have := Heap.get?_update_self (Obj.putSet es' t') ho (by rw [putSet_of es' t' hd]; rfl)
  rw [putSet_of es' t' hd] at this
  exact this
 exact ⟨⟨_,hg,hx,rfl⟩,T,hl.trans S.led⟩
section
variable {prog : Program} {w : World} {A : Around} {E : Value → Shared → Prop} {s : Shared}
theorem zho {a : Addr} {es : Array (Int × Value)} {ep : Nat} {tb : SetTable} {ns : List Int} {k : Int} {t : Tok} {Q : Bool → Shared → Prop} (S : SetAt w s.heap a es ep tb) (hE : EsOk es.toList ns) (hn : ns.length < 18)
 (h : ∀ b h' es' ep' tb',Heap.SameBut a s.heap h' → SetAt w h' a es' ep' tb' → EsOk es'.toList (if k ∈ ns then ns else ns ++ [k]) → Q b { s with heap := h',toks := s.toks + 1 }) :
 wpAny (model prog w) A (setAdd a (.int k t)) Q E s := by
 have hsz : es.size = ns.length := by rw [← Array.length_toList]; exact hE.length
 unfold setAdd
 refine wpAny_holding ?_
 refine wpAny_bind ((intKind prog w).pyHash (k := k) (intKind_is _ _ _ _) ?_)
 obtain ⟨o,ho,hx,hd⟩ := S.ex
 have hf := S.tab.fits
 have hb : es.size < scanBound := by unfold scanBound; lia
 unfold setAddHashed setAddHashedIn
 refine wpAny_holding (wpAny_bind (wpAny_setState_of (s := { s with toks := s.toks + 1 }) ho hd hf ?_))
 dsimp only
 rw [byScan_of (knd := intKind prog w) rfl hb hE.elems]
 simp only [↓reduceIte]
 unfold setAddByScan
 refine wpAny_bind (wpAny_bind (wpAny_rule (wpAny_bind (wpAny_setScan_of (knd := intKind prog w) (intKind_is _ _ k t) ho hd hf hE.elems ?_))))
 cases hr : List.findIdx? (fun e => (intKind prog w).is k e.2) es.toList with
 | some j =>
   dsimp only
   obtain ⟨hj,hpj,_⟩ := List.findIdx?_eq_some_iff_getElem.mp hr
   have hk : k ∈ ns := (hE.mem (prog := prog) (w := w) k).mpr ⟨es.toList[j],List.getElem_mem hj,hpj⟩
   refine wpAny_pure (wpAny_pure ?_)
   have := h false s.heap es ep tb (Heap.SameBut.refl a s.heap) S (by rw [if_pos hk]; exact hE)
   exact this
 | none =>
   dsimp only
   have hk : ¬ k ∈ ns := fun hh => by
    obtain ⟨e,he,q⟩ := (hE.mem (prog := prog) (w := w) k).mp hh
    have := List.findIdx?_eq_none_iff.mp hr e he
    rw [q] at this
    cases this
   rw [if_neg hk] at h
   obtain ⟨p,j,hp,hL,hrise,z1,z2⟩ := zeT S.tab (by lia) ((intKind prog w).hash k) (.int k t)
   have hperm := layNew_perm tb es ((intKind prog w).hash k) (.int k t)
   obtain ⟨tb1,htb⟩ : ∃ x,x = ({ tb with place := SetTable.insertAt tb.place p j } : SetTable) := ⟨_,rfl⟩
   have y1 : tb1.plain = true := by rw [htb]; exact S.tab.plain
   have y2 : tb1.dummies = #[] := by rw [htb]; exact S.tab.dummies
   have y3 : tb1.mask = tb.mask := by rw [htb]
   have y4 : tb1.led = tb.led := by rw [htb]
   have y5 : tb1.place.size = es.size + 1 := by rw [htb]; exact z2
   have y6 : tb1.place.toList.Pairwise (· < ·) := by rw [htb]; exact hrise
   rw [← htb] at hL
   rw [hL] at hperm
   rw [hL]
   dsimp only at hperm ⊢
   rw [Array.toList_push] at hperm
   have hE1 := (hE.push k t).of_perm hperm
   refine wpAny_bind (wpAny_pure ?_)
   rw [y1]
   simp only [↓reduceIte]
   rw [hashByValue_scannable 8 (show (Value.int k t).scannable = true from rfl)]
   refine wpAny_bind (wpAny_pure ?_)
   simp only [plainKind,↓reduceIte,Bool.not_false,Bool.true_and]
   refine wpAny_bind (wpAny_storeSet_of (s := { s with toks := s.toks + 1 }) ho hd ?_ (by rw [z1,sizeLine_eq]; lia))
   dsimp only
   by_cases h5 : tb.mask = 7 ∧ es.size = 4
   ·have htf : SetTable.tooFull tb1 = true := by
     unfold SetTable.tooFull SetTable.fill
     rw [y5,y2,y3,h5.1,h5.2]
     rfl
    rw [if_pos htf]
    have hp1 := y1
    obtain ⟨es2,t2,e2,T2,l2,p2,z3⟩ := zet tb1 (SetTable.insertAt es p ((intKind prog w).hash k,.int k t)) hp1 (by rw [z1,h5.2])
    rw [e2]
    dsimp only
    refine wpAny_bind (wpAny_pure ?_)
    have hg : (s.heap.update a (Obj.putSet (SetTable.insertAt es p ((intKind prog w).hash k,.int k t)) tb1)).get? a = some { o with data := .set (SetTable.insertAt es p ((intKind prog w).hash k,.int k t)) (ep + 1) tb1 } := by
     have := Heap.get?_update_self (Obj.putSet (SetTable.insertAt es p ((intKind prog w).hash k,.int k t)) tb1) ho (by rw [putSet_of _ _ hd]; rfl)
     rw [putSet_of _ _ hd] at this
     exact this
    refine wpAny_bind (wpAny_storeSet_of hg rfl ?_ (by rw [z3,sizeLine_eq]; lia))
    refine wpAny_pure (wpAny_pure (h true _ es2 (ep + 1 + 1) t2 ((Heap.SameBut.update s.heap a _).trans (Heap.SameBut.update _ a _)) ?_ (hE1.of_perm p2)))
    have hg2 : ((s.heap.update a (Obj.putSet (SetTable.insertAt es p ((intKind prog w).hash k,.int k t)) tb1)).update a (Obj.putSet es2 t2)).get? a = some { o with data := .set es2 (ep + 1 + 1) t2 } := by
     have := Heap.get?_update_self (Obj.putSet es2 t2) hg (by rw [putSet_of (o := { o with data := .set (SetTable.insertAt es p ((intKind prog w).hash k,.int k t)) (ep + 1) tb1 }) _ _ rfl]; rfl)
     rw [putSet_of (o := { o with data := .set (SetTable.insertAt es p ((intKind prog w).hash k,.int k t)) (ep + 1) tb1 }) _ _ rfl] at this
     exact this
    exact ⟨⟨_,hg2,hx,rfl⟩,T2,(l2.trans y4).trans S.led⟩
   ·have htf : SetTable.tooFull tb1 = false := by
     unfold SetTable.tooFull SetTable.fill
     rw [y5,y2,y3]
     rcases S.tab.mask with ⟨q,q2⟩ | ⟨q,q2⟩ <;> rw [q] <;> simp <;> lia
    rw [if_neg (by rw [htf]; exact Bool.false_ne_true)]
    refine wpAny_pure (wpAny_pure (h true _ _ (ep + 1) tb1 (Heap.SameBut.update s.heap a _) ?_ hE1))
    refine S.store ⟨y1,y2,by rw [z1]; exact y5,y6,?_⟩ y4
    rw [z1,y3]
    rcases S.tab.mask with ⟨q,q2⟩ | ⟨q,q2⟩
    ·exact .inl ⟨q,by lia⟩
    ·exact .inr ⟨q,by lia⟩
end
end DL
namespace DL
open PySem PySem.Spec PyProof.Rows L2
noncomputable def met (ns : List Int) : List Int := ns.foldl (fun σ k => if k ∈ σ then σ else σ ++ [k]) []
theorem zaM (ns : List Int) (k : Int) : met (ns ++ [k]) = if k ∈ met ns then met ns else met ns ++ [k] := by
 unfold met
 rw [List.foldl_append]
 rfl
theorem zgj (ns : List Int) (i : Nat) (h : i < ns.length) : met (ns.take (i + 1)) = if ns.getD i 0 ∈ met (ns.take i) then met (ns.take i) else met (ns.take i) ++ [ns.getD i 0] := by
 rw [List.take_succ_eq_append_getElem h,zaM]
 have : ns.getD i 0 = ns[i] := by simp [List.getD,h]
 rw [this]
theorem zgZ (ns : List Int) : (met ns).length ≤ ns.length := by
 have : ∀ (l σ : List Int),(l.foldl (fun σ k => if k ∈ σ then σ else σ ++ [k]) σ).length ≤ σ.length + l.length := by
  intro l
  induction l with
  | nil => intro σ; simp
  | cons k l ih =>
    intro σ
    rw [List.foldl_cons]
    refine Nat.le_trans (ih _) ?_
    split <;> simp <;> lia
 have q := this ns []
 simp only [List.length_nil,Nat.zero_add] at q
 exact q
section
variable {prog : Program} {w : World} {A : Around} {R : Result → Shared → Prop} {I : Addr} {fp wr : List Addr} {G : Array GenState → Array GenState → Prop} {P : Nat → Value → Prop} {St : Nat → Shared → Prop}
theorem zbY {ns : List Int} (W : WalksS prog w A.in1 I fp wr G ns.length P St) (S : Addr) (hSf : S ∉ fp) (hval : ∀ i v,P i v → ∃ t,v = .int (ns.getD i 0) t) (hb : ns.length < 18) :
 ∀ (k i : Nat) (s : Shared) (es : Array (Int × Value)) (ep : Nat) (tb : SetTable),ns.length - i = k → i ≤ ns.length → St i s → SetAt w s.heap S es ep tb → EsOk es.toList (met (ns.take i)) →
   (∀ s' es' ep' tb',Moved (S :: wr) G s s' → SetAt w s'.heap S es' ep' tb' → EsOk es'.toList (met ns) → R (.ok (.ret .none)) s') →
   codeAny (model prog w) A (.builtin "set.update.loop" ⟨[.ref S,.ref I],[]⟩) R s := by
 have hSw : S ∉ wr := fun h => hSf (W.sub _ h)
 have hsub : ∀ b ∈ wr,b ∈ S :: wr := fun b hb => List.mem_cons_of_mem _ hb
 intro k
 induction k with
 | zero =>
   intro i s es ep tb hk hi hst hS hE hR
   have hin : i = ns.length := by lia
   subst hin
   refine codeAny_builtin F.entry_set_update_loop ?_
   rw [Around.under_plainId F.plain_set_update_loop _]
   show wpAny _ A.in1 (pyNext (.ref I) >>= _) _ _ s
   refine wpAny_bind (W.done s _ _ hst fun s' hm => ?_)
   show wpAny _ A.in1 (ret Value.none) _ _ s'
   rw [List.take_length] at hE
   exact wpAny_pure (hR s' es ep tb (hm.mono hsub) (hS.keep fun o ho => hm.heap S _ hSw ho) hE)
 | succ k ih =>
   intro i s es ep tb hk hi hst hS hE hR
   have hlt : i < ns.length := by lia
   refine codeAny_builtin F.entry_set_update_loop ?_
   rw [Around.under_plainId F.plain_set_update_loop _]
   show wpAny _ A.in1 (pyNext (.ref I) >>= _) _ _ s
   refine wpAny_bind (W.item i s _ _ hlt hst fun v s' hP hst' hm => ?_)
   obtain ⟨t,rfl⟩ := hval i v hP
   have hS' := hS.keep fun o ho => hm.heap S _ hSw ho
   show wpAny _ A.in1 (holding [Value.int (ns.getD i 0) t] (setAdd S (.int (ns.getD i 0) t)) >>= _) _ _ s'
   refine wpAny_bind (wpAny_holding ?_)
   have hl := zgZ (ns.take i)
   rw [List.length_take] at hl
   refine zho hS' hE (by lia) fun b h' es' ep' tb' hsb hS2 hE2 => ?_
   rw [← zgj ns i hlt] at hE2
   refine wpAny_pure ⟨plainId_quiet F.plain_set_update_loop _,ih (i + 1) _ es' ep' tb' (by lia) hlt (W.frame _ s' _ _ hst' (Nat.le_succ _) fun b hb o e => ?_) hS2 hE2 fun s'' es'' ep'' tb'' hm'' hS'' hE'' => ?_⟩
   ·rw [hsb.2 b (fun h : b = S => hSf (by rw [← h]; exact hb))]; exact e
   ·refine hR s'' es'' ep'' tb'' (Moved.trans W.gtrans ((hm.mono hsub).then_heap (Nat.le_succ _) fun b o hb e => ?_) hm'') hS'' hE''
    rw [hsb.2 b (fun h : b = S => hb (by rw [h]; exact List.mem_cons_self))]; exact e
end
section
variable {prog : Program} {w : World} {A : Around} {E : Value → Shared → Prop} {s : Shared}
theorem zfU (a : Value) {Q₁ : Value → Shared → Prop}
 (h : Q₁ (.ref s.heap.objs.size) { s with heap := s.heap.push { cls := .type "set",dict := none,data := .set #[] 0 (.fresh 0 0 (!w.params.followText "set-order")) } }) :
 codeAny (model prog w) A (.call (.builtin "set.__new__") ⟨[.type "set",a],[]⟩) (wants Q₁ E) s := by
 refine codeAny_of_tree ?_
 show wpAny _ A.in1 (do checkBuiltinCall "set.__new__" ⟨[.type "set",a],[]⟩; again (.builtin "set.__new__" ⟨[.type "set",a],[]⟩)) _ _ s
 refine wpAny_bind (wpAny_of_eq (F.newCall_set_1 a) (wpAny_pure ⟨plainId_quiet F.plain_set_new _,codeAny_builtin F.entry_set_new ?_⟩))
 rw [Around.under_plainId F.plain_set_new _]
 unfold Builtin.«set.__new__» Builtin.Frozenset.newClass
 have hsub := sub_set_self
 obtain ⟨hp,g,d,tk,os⟩ := s
 dsimp only
 wp_walk
 refine wpAny_askSetting (wpAny_pure ?_)
 dsimp only
 simp only [newObj]
 refine wpAny_bind (wpAny_alloc (wpAny_pure ?_))
 exact wpAny_pure h
theorem ze4 (led : Bool) : TabOk (.fresh 0 0 led) 0 := ⟨rfl,rfl,rfl,List.Pairwise.nil,.inl ⟨rfl,by lia⟩⟩
theorem zgD {l : Addr} {items : Array Value} {ns : List Int} {Q : Value → Shared → Prop}
 (hh : A.handled = none) (hl : s.heap.IsList l items) (hi : IntsAre items.toList ns) (hb : ns.length < 18)
 (h : ∀ (h' : Heap) (tk : Nat) es ep tb,s.toks ≤ tk → SetAt w h' s.heap.objs.size es ep tb → EsOk es.toList (met ns) →
  (∀ b o,b < s.heap.objs.size → s.heap.get? b = some o → h'.get? b = some o) → Q (.ref s.heap.objs.size) { s with heap := h',toks := tk }) :
 wpAny (model prog w) A (call (.type "set") [.ref l]) Q E s := by
 obtain ⟨c,tl,hmro⟩ := F.called_set.mro
 have hmade := F.called_set.made
 have hsub := F.called_set.sub
 refine wpAny_call (codeAny_of_tree ?_)
 show wpAny _ _ (callAny (.type "set") _) _ _ _
 refine wpAny_pure ⟨Code.quiet_builtin _ (by decide +kernel),codeAny_builtin F.entry_type_call ?_⟩
 rw [Around.under_plain (weight_type_call_type "set" [.ref l] []) rfl]
 have h1 := F.called_set.notType
 have h2 := F.called_set.canCreate
 have hct := F.typeCall_set_1 (.ref l)
 repeat (any_goals (first | assumption | wp_step))
 have hlen : items.size = ns.length := by rw [← Array.length_toList]; exact IntsAre.length hi
 generalize hled : (!w.params.followText "set-order") = led
 refine codeAny_mono (zfU (.ref l) (E := E) (Q₁ := fun obj s₁ => obj = .ref s.heap.objs.size ∧ s₁ = { s with heap := s.heap.push { cls := .type "set",dict := none,data := .set #[] 0 (.fresh 0 0 led) } }) (by rw [hled]; exact ⟨rfl,rfl⟩)) fun r s₁ hr => ?_
 cases r with
 | error e => exact hr
 | ok fl =>
   cases fl with
   | ret obj =>
     obtain ⟨rfl,rfl⟩ := hr
     have hS : (s.heap.push { cls := .type "set",dict := none,data := .set #[] 0 (.fresh 0 0 led) }).get? s.heap.objs.size = some { cls := .type "set",dict := none,data := .set #[] 0 (.fresh 0 0 led) } := Heap.get?_push_size _ rfl
     have hT : Shared.TypeIs { s with heap := s.heap.push { cls := .type "set",dict := none,data := .set #[] 0 (.fresh 0 0 led) } } (.ref s.heap.objs.size) "set" := ⟨_,hS,rfl⟩
     have hli := F.called_set.init.lookup
     have hbi := F.called_set.init.bind (.ref s.heap.objs.size)
     repeat (any_goals (first | assumption | wp_step))
     refine codeAny_mono (codeAny_call_builtin (R := wants (fun r s₂ => r = .none ∧ ∃ h' tk es ep tb,s₂ = { s with heap := h',toks := tk } ∧ s.toks ≤ tk ∧ SetAt w h' s.heap.objs.size es ep tb ∧ EsOk es.toList (met ns) ∧
      (∀ b o,b < s.heap.objs.size → s.heap.get? b = some o → h'.get? b = some o)) E) F.called_set.init.plain F.entry_set_init (check_set_init_1 hT ?_)) fun r₂ s₂ hr₂ => ?_
     ·obtain ⟨ol,hol,hcl,nl,hdl⟩ := hl
      obtain ⟨ocls,odict,odata,oslots⟩ := ol
      simp only at hcl hdl
      subst hcl; subst hdl
      have hol' : (s.heap.push { cls := .type "set",dict := none,data := .set #[] 0 (.fresh 0 0 led) }).get? l = some { cls := .type "list",dict := odict,data := .seq items nl,slots := oslots } := Heap.get?_push_of_some _ hol
      have hsls := F.sub_list_set
      have hslf := F.sub_list_frozenset
      have hne : (Value.type "list" == Value.type "dict") = false := by decide
      have hl1 : (s.heap.push { cls := .type "set",dict := none,data := .set #[] 0 (.fresh 0 0 led) }).IsList l items := ⟨_,hol',rfl,nl,rfl⟩
      unfold Builtin.«set.__init__» noKeywords Builtin.Frozenset.updateFrom
      generalize hPI : pyIter = PI
      wp_walk
      subst hPI
      refine wpAny_pyIter_list hl1 ?_
      refine wpAny_bind (wpAny_runValue ?_)
      have hlS : l < s.heap.objs.size := Heap.lt_size hol
      have hh3 : A.in1.in1.in1.handled = none := by simp [hh]
      have hneI : l ≠ (s.heap.push { cls := .type "set",dict := none,data := .set #[] 0 (.fresh 0 0 led) }).objs.size := by
       rw [Heap.size_push]; exact Nat.ne_of_lt (Nat.lt_succ_of_lt hlS)
      have hSf : s.heap.objs.size ∉ [(s.heap.push { cls := .type "set",dict := none,data := .set #[] 0 (.fresh 0 0 led) }).objs.size,l] := by
       rw [Heap.size_push]; simp only [List.mem_cons,List.mem_singleton,List.not_mem_nil,or_false,not_or]
       exact ⟨Nat.ne_of_lt (Nat.lt_succ_self _),Nat.ne_of_gt hlS⟩
      have hval : ∀ (i : Nat) (v : Value),items[i]? = some v → ∃ t,v = .int (ns.getD i 0) t := fun i v hv =>
       IntsAre.int_at hi i v (by rw [Array.getElem?_toList]; exact hv)
      have W := (Walks.list (prog := prog) (w := w) hh3 (s.heap.push { cls := .type "set",dict := none,data := .set #[] 0 (.fresh 0 0 led) }).objs.size l hneI items).toS
      rw [hlen] at W
      refine zbY W s.heap.objs.size hSf hval hb (ns.length - 0) 0 _ #[] 0 (.fresh 0 0 led) (by lia) (Nat.zero_le _)
       ⟨⟨_,Heap.get?_push_size _ rfl,rfl,rfl⟩,(hl1.push _)⟩ ?hS0 (by rw [List.take_zero]; exact EsOk.nil) ?hR
      case hS0 =>
       have hget : ((s.heap.push { cls := .type "set",dict := none,data := .set #[] 0 (.fresh 0 0 led) }).push { cls := .type "list_iterator",data := .fields #[.ref l,.int 0 0] }).get? s.heap.objs.size
        = some { cls := .type "set",dict := none,data := .set #[] 0 (.fresh 0 0 led) } := Heap.get?_push_of_some _ hS
       exact ⟨⟨_,hget,⟨rfl,rfl,rfl⟩,rfl⟩,ze4 led,hled.symm⟩
      case hR =>
       intro s' es ep tb hm hS' hE'
       obtain ⟨h',g',d',tk',os'⟩ := s'
       have eg : g' = s.gens := hm.gens
       have ed : d' = s.drawn := hm.drawn
       have eo : os' = s.os := hm.os
       have etk : s.toks ≤ tk' := hm.toks
       subst eg; subst ed; subst eo
       show wpAny _ _ _ _ _ _
       refine wpAny_pure ?_
       show wpAny _ _ (ret Value.none) _ _ _
       refine wpAny_pure ⟨rfl,h',tk',es,ep,tb,rfl,etk,hS',hE',fun b o hb e => ?_⟩
       have hb1 : b ≠ s.heap.objs.size := Nat.ne_of_lt hb
       have hb2 : b ≠ (s.heap.push { cls := .type "set",dict := none,data := .set #[] 0 (.fresh 0 0 led) }).objs.size := by
        rw [Heap.size_push]; exact Nat.ne_of_lt (Nat.lt_succ_of_lt hb)
       exact hm.heap b o (by simp only [List.mem_cons,List.mem_singleton,List.not_mem_nil,or_false,not_or]; exact ⟨hb1,hb2⟩) (Heap.get?_push_of_some _ (Heap.get?_push_of_some _ e))
     ·cases r₂ with
      | error e => exact hr₂
      | ok fl₂ =>
        cases fl₂ with
        | ret r =>
          obtain ⟨rfl,h',tk,es,ep,tb,rfl,etk,hS',hE',hk'⟩ := hr₂
          repeat (any_goals (first | assumption | wp_step))
          exact h _ _ _ _ _ etk hS' hE' hk'
        | _ => exact hr₂.elim
   | _ => exact hr.elim
end
end DL
namespace DL
open PySem PySem.Spec PyProof.Rows L2
theorem z6 : PySem.Slot "set_iterator" "__next__" "set_iterator.__next__" :=
 .of (owner := "set_iterator") (n := "__next__") (by rw [typeLookup_type,builtinLookup_eq_fast]; kernel_rfl) (by decide +kernel) (by decide +kernel) (by decide +kernel)
  (by first | exact .inl (by decide +kernel) | exact .inr (by decide +kernel)) (by rw [isSubtype_type]; kernel_rfl)
theorem wo : PySem.Slot "set_iterator" "__iter__" "set_iterator.__iter__" :=
 .of (owner := "set_iterator") (n := "__iter__") (by rw [typeLookup_type,builtinLookup_eq_fast]; kernel_rfl) (by decide +kernel) (by decide +kernel) (by decide +kernel)
  (by first | exact .inl (by decide +kernel) | exact .inr (by decide +kernel)) (by rw [isSubtype_type]; kernel_rfl)
theorem wf : entryFor table "set_iterator.__next__" = some Builtin.«set_iterator.__next__» := entryFor_of_tree (by kernel_rfl)
theorem v9 : entryFor table "set_iterator.__iter__" = some Builtin.«dict_keyiterator.__iter__» :=
 entryFor_alias (id' := "dict_keyiterator.__iter__") (by kernel_rfl) rfl (by decide +kernel) (by kernel_rfl)
theorem tj : entryFor table "set.__iter__" = some Builtin.«frozenset.__iter__» :=
 entryFor_alias (id' := "frozenset.__iter__") (by kernel_rfl) rfl (by decide +kernel) (by kernel_rfl)
theorem uM : Manifest.owners.lookup (String.ofList ['r','o','t','a','r','e','t','i','_','t','e','s'].reverse) = some Manifest.sig_set_iterator := by kernel_rfl
theorem wF (a : Value) : argsOk "set_iterator.__next__" ⟨[a],[]⟩ := by
 unfold argsOk; rw [signature?_of (id := "set_iterator.__next__") (n := ['_','_','t','x','e','n','_','_']) (o := ['r','o','t','a','r','e','t','i','_','t','e','s']) (by kernel_rfl) uM]; kernel_rfl
theorem tF (a : Value) : argsOk "set_iterator.__iter__" ⟨[a],[]⟩ := by
 unfold argsOk; rw [signature?_of (id := "set_iterator.__iter__") (n := ['_','_','r','e','t','i','_','_']) (o := ['r','o','t','a','r','e','t','i','_','t','e','s']) (by kernel_rfl) uM]; kernel_rfl
theorem zao {α : Type} : ∀ (l : List α) (i : Nat) (h : i < l.length),List.Perm (l[i] :: l.eraseIdx i) l
 | a :: l,0,_ => .refl _
 | a :: l,i + 1,h => by
   simp only [List.getElem_cons_succ,List.eraseIdx_cons_succ]
   exact (List.Perm.swap a _ _).trans ((zao l i (by simpa using h)).cons a)
theorem zez {α : Type} (next : Nat → Nat) : ∀ (fuel k : Nat) (left : List α) (out : Array α),left.length = fuel → List.Perm (pickOrder.go next fuel k left out).toList (out.toList ++ left)
 | 0,k,left,out,h => by
   have : left = [] := List.eq_nil_of_length_eq_zero h
   subst this
   simp [pickOrder.go]
 | fuel + 1,k,left,out,h => by
   unfold pickOrder.go
   have hlt : next k % left.length < left.length := Nat.mod_lt _ (by lia)
   rw [List.getElem?_eq_getElem hlt]
   dsimp only
   refine (zez next fuel (k + 1) _ _ (by rw [List.length_eraseIdx_of_lt hlt]; lia)).trans ?_
   rw [Array.toList_push,List.append_assoc]
   exact List.Perm.append_left _ (zao left _ hlt)
theorem zey {α : Type} (next : Nat → Nat) (xs : Array α) : List.Perm (pickOrder next xs).toList xs.toList := by
 unfold pickOrder
 simpa using zez next xs.size 0 xs.toList #[] (by simp)
noncomputable def ordE (w : World) (a : Addr) (ep : Nat) (es : Array (Int × Value)) : Array (Int × Value) := if w.params.followText "set-order" = true then pickOrder (w.params.setOrder a ep) es else es
theorem zc2 (w : World) (a : Addr) (ep : Nat) (es : Array (Int × Value)) : List.Perm (ordE w a ep es).toList es.toList := by
 unfold ordE
 split
 ·exact zey _ _
 ·exact .refl _
theorem zaI (w : World) (a : Addr) (ep : Nat) (es : Array (Int × Value)) : (ordE w a ep es).size = es.size := by
 have := (zc2 w a ep es).length_eq
 simpa using this
noncomputable def zat (w : World) (tb : SetTable) (i slot : Nat) : Prop := w.params.followText "set-order" = false → (i = 0 → slot = 0) ∧ ∀ k x,i = k + 1 → tb.place[k]? = some x → slot = x + 1
noncomputable def xY (h : Heap) (it a : Addr) (slot i n ep : Nat) : Prop := ∃ o : Obj,h.get? it = some o ∧ o.cls = .type "set_iterator" ∧ o.data = .fields #[.int slot 0,.int i 0,.ref a,.int n 0,.int ep 0]
section
variable {prog : Program} {w : World} {A : Around} {E : Value → Shared → Prop} {s : Shared} {a : Addr} {es : Array (Int × Value)} {ep : Nat} {tb : SetTable}
theorem uG (S : SetAt w s.heap a es ep tb) {Q : (Array (Int × Value) × Nat × SetTable) → Shared → Prop} (h : Q (es,ep,tb) s) : wpAny (model prog w) A (setState a) Q E s := by
 obtain ⟨o,ho,hx,hd⟩ := S.ex
 exact wpAny_setState_of ho hd S.tab.fits h
theorem zcv {Q : Bool → Shared → Prop} (h : Q (w.params.followText "set-order") s) : wpAny (model prog w) A setsByText Q E s := by
 unfold setsByText
 exact wpAny_bind (wpAny_askSetting (wpAny_pure h))
theorem zaz (S : SetAt w s.heap a es ep tb) (hb : w.params.followText "set-order" = true) {Q : Array (Int × Value) → Shared → Prop} (h : Q (ordE w a ep es) s) : wpAny (model prog w) A (setWalk a) Q E s := by
 unfold setWalk
 refine wpAny_bind (uG S ?_)
 dsimp only
 refine wpAny_bind (zcv ?_)
 rw [hb]
 simp only [↓reduceIte]
 refine wpAny_bind (wpAny_askSetting (wpAny_pure ?_))
 have : ordE w a ep es = pickOrder (w.params.setOrder a ep) es := by unfold ordE; rw [if_pos hb]
 rw [this] at h
 exact h
theorem zcN {i slot : Nat} (S : SetAt w s.heap a es ep tb) (hs : zat w tb i slot) (hi : i ≤ es.size) {Q : Option (Value × Nat) → Shared → Prop}
 (h1 : ∀ e slot',(ordE w a ep es)[i]? = some e → zat w tb (i + 1) slot' → Q (some (e.2,slot')) s) (h2 : (ordE w a ep es)[i]? = none → Q none s) : wpAny (model prog w) A (setNext a slot i ep) Q E s := by
 unfold setNext
 refine wpAny_bind (uG S ?_)
 dsimp only
 refine wpAny_bind (zcv ?_)
 cases hb : w.params.followText "set-order" with
 | true =>
   simp only [↓reduceIte,bne_self_eq_false,Bool.false_eq_true]
   refine wpAny_bind (zaz S hb ?_)
   refine wpAny_pure ?_
   cases q : (ordE w a ep es)[i]? with
   | none => exact h2 q
   | some e => exact h1 e slot q (fun z => by rw [hb] at z; cases z)
 | false =>
   simp only [↓reduceIte,Bool.false_eq_true]
   have ho : ordE w a ep es = es := by unfold ordE; rw [if_neg (by rw [hb]; exact Bool.false_ne_true)]
   rw [ho] at h1 h2
   have hdr : (!tb.plain && decide (es.size > 1)) = false := by rw [S.tab.plain]; rfl
   refine wpAny_ite_split (fun hab => absurd hab (by show ¬ ((!tb.plain && decide (es.size > 1)) = true); rw [hdr]; exact Bool.false_ne_true)) fun _ => ?_
   have hled : tb.led = true := by rw [S.led,hb]; rfl
   refine wpAny_bind ?_
   show wpAny _ _ (if (!tb.led && !es.isEmpty) = true then _ else pure ()) _ _ _
   rw [if_neg (by rw [hled]; simp)]
   refine wpAny_pure ?_
   obtain ⟨hs1,hs2⟩ := hs hb
   have hbel : SetTable.below tb.place slot = i := zdT S.tab.rise slot hs1 hs2 (by rw [S.tab.size]; exact hi)
   rw [hbel]
   refine wpAny_pure ?_
   by_cases hlt : i < es.size
   ·have q1 : es[i]? = some es[i] := Array.getElem?_eq_getElem hlt
    have hlt2 : i < tb.place.size := by rw [S.tab.size]; exact hlt
    have q2 : tb.place[i]? = some tb.place[i] := Array.getElem?_eq_getElem hlt2
    rw [q1,q2]
    refine h1 es[i] (tb.place[i] + 1) q1 fun _ => ⟨fun z => by lia,fun k x hk hx => ?_⟩
    have : k = i := by lia
    subst this
    rw [q2] at hx
    cases hx
    rfl
   ·have q1 : es[i]? = none := Array.getElem?_eq_none (by lia)
    rw [q1]
    exact h2 q1
theorem yV {it : Addr} {slot i n : Nat} (hit : xY s.heap it a slot i n ep) : s.TypeIs (.ref it) "set_iterator" := by
 obtain ⟨o,ho,hc,_⟩ := hit
 exact ⟨o,ho,hc⟩
theorem zfW {Q : Value → Shared → Prop} (S : SetAt w s.heap a es ep tb)
 (h : Q (.ref s.heap.objs.size) { s with heap := s.heap.push { cls := .type "set_iterator",data := .fields #[.int 0 0,.int 0 0,.ref a,.int es.size 0,.int ep 0] } }) : wpAny (model prog w) A (pyIter (.ref a)) Q E s := by
 have hT := S.typeIs
 refine wpAny_pyIter_slot hT F.slot_set_iter (wpAny_call_entry F.slot_set_iter hT tj ?_ (F.args_set_iter_1 _))
 unfold Builtin.«frozenset.__iter__»
 refine wpAny_bind ?_
 show wpAny _ _ (pure a) _ _ s
 refine wpAny_pure ?_
 obtain ⟨o,ho,hx,hd⟩ := S.ex
 refine wpAny_bind ?_
 unfold Builtin.Frozenset.sizeOf
 refine wpAny_bind (wpAny_setEntries_of ho hd S.tab.fits (wpAny_pure ?_))
 refine wpAny_bind ?_
 unfold setDrawn
 refine wpAny_bind (uG S ?_)
 dsimp only
 refine wpAny_bind (zcv (wpAny_pure ?_))
 have hdr : (!(w.params.followText "set-order") && (!tb.plain && decide (es.size > 1))) = false := by rw [S.tab.plain]; simp
 show wpAny _ _ (if (!(w.params.followText "set-order") && (!tb.plain && decide (es.size > 1))) = true then _ else _) _ _ _
 rw [if_neg (by rw [hdr]; exact Bool.false_ne_true)]
 refine wpAny_bind (wpAny_pure ?_)
 refine wpAny_bind (wpAny_setEpoch_of ho hd S.tab.fits ?_)
 refine wpAny_bind (wpAny_newObj_type (wpAny_pure ⟨_,rfl,"set_iterator",_,⟨_,Heap.get?_push_size _ rfl,rfl⟩,z6.lookup,?_⟩))
 exact h
theorem zdB {it : Addr} {slot i : Nat} {Q : Option Value → Shared → Prop} (S : SetAt w s.heap a es ep tb) (hit : xY s.heap it a slot i es.size ep) (hs : zat w tb i slot) (hi : i < es.size)
 (hQ : ∀ e h' slot',(ordE w a ep es)[i]? = some e → xY h' it a slot' (i + 1) es.size ep → zat w tb (i + 1) slot' → Heap.SameBut it s.heap h' → Q (some e.2) { s with heap := h' }) : wpAny (model prog w) A (pyNext (.ref it)) Q E s := by
 obtain ⟨o,ho,hc,hd⟩ := id hit
 obtain ⟨oa,hoa,hxa,hda⟩ := S.ex
 unfold pyNext
 refine wpAny_bind (wpAny_attempt (wpAny_callSpecial?_slot (name := Str.ofString "__next__") (yV hit) z6
  (wpAny_call_entry z6 (yV hit) wf ?_ (wF _))))
 unfold Builtin.«set_iterator.__next__»
 refine wpAny_bind (wpAny_pure ?_)
 refine wpAny_bind (wpAny_fieldsOf ho hd ?_)
 dsimp only
 refine wpAny_bind (wpAny_setEntries_of hoa hda S.tab.fits ?_)
 rw [if_neg (by simp)]
 simp only [Int.toNat_natCast]
 refine wpAny_bind (zcN S hs (Nat.le_of_lt hi) (fun e slot' he hs' => ?_) fun he => ?_)
 ·dsimp only
  refine wpAny_bind (wpAny_setField ho hd (by simp) ?_)
  have ho1 : (s.heap.update it (Obj.mapFields (·.setIfInBounds 0 (rawInt (slot' : Int))))).get? it = some (Obj.mapFields (·.setIfInBounds 0 (rawInt (slot' : Int))) o) :=
   Heap.get?_update_self _ ho (Obj.isFreed_of_fields (Obj.data_mapFields hd _))
  have hd1 := Obj.data_mapFields hd (·.setIfInBounds 0 (rawInt (slot' : Int)))
  refine wpAny_bind (wpAny_setField (s := { s with heap := s.heap.update it (Obj.mapFields (·.setIfInBounds 0 (rawInt (slot' : Int)))) }) ho1 hd1 (by simp) ?_)
  have ho2 := Heap.get?_update_self (Obj.mapFields (·.setIfInBounds 1 (rawInt ((i : Int) + 1)))) ho1 (Obj.isFreed_of_fields (Obj.data_mapFields hd1 _))
  have hd2 := Obj.data_mapFields hd1 (·.setIfInBounds 1 (rawInt ((i : Int) + 1)))
  refine wpAny_pure ⟨_,rfl,wpAny_pure (hQ e _ slot' he ⟨_,ho2,?_,?_⟩ hs' ((Heap.SameBut.update s.heap it _).trans (Heap.SameBut.update _ it _)))⟩
  ·rw [Obj.cls_mapFields,Obj.cls_mapFields]; exact hc
  ·rw [hd2]; simp [rawInt]
 ·rw [Array.getElem?_eq_none_iff,zaI] at he
  lia
theorem zdC {it : Addr} {slot i : Nat} {Q : Option Value → Shared → Prop} (hh : A.handled = none) (S : SetAt w s.heap a es ep tb) (hit : xY s.heap it a slot i es.size ep) (hs : zat w tb i slot) (hi : i = es.size)
 (hQ : ∀ h',Heap.ExtBut it s.heap h' → Q none { s with heap := h' }) : wpAny (model prog w) A (pyNext (.ref it)) Q E s := by
 obtain ⟨o,ho,hc,hd⟩ := id hit
 obtain ⟨oa,hoa,hxa,hda⟩ := S.ex
 unfold pyNext
 refine wpAny_bind (wpAny_attempt (wpAny_callSpecial?_slot (name := Str.ofString "__next__") (yV hit) z6
  (wpAny_call_entry z6 (yV hit) wf ?_ (wF _))))
 unfold Builtin.«set_iterator.__next__»
 refine wpAny_bind (wpAny_pure ?_)
 refine wpAny_bind (wpAny_fieldsOf ho hd ?_)
 dsimp only
 refine wpAny_bind (wpAny_setEntries_of hoa hda S.tab.fits ?_)
 rw [if_neg (by simp)]
 simp only [Int.toNat_natCast]
 refine wpAny_bind (zcN S hs (Nat.le_of_eq hi) (fun e slot' he hs' => ?_) fun he => ?_)
 ·obtain ⟨q,_⟩ := Array.getElem?_eq_some_iff.mp he
  rw [zaI] at q
  lia
 ·dsimp only
  refine wpAny_bind (wpAny_setField ho hd (by simp) ?_)
  show wpAny _ _ (newExc (.type "StopIteration") [] >>= _) _ _ _
  refine wpAny_bind ?_
  simp only [newExc,newTuple]
  refine wpAny_bind (wpAny_newObj_type ?_ (by size_fits))
  refine wpAny_bind (m := firstArgMember _ _) (wpAny_of_eq (a := Value.none) (by first | rfl | (simp only [firstArgMember]; rfl)) ?_)
  refine wpAny_newObj_type ?_ (by size_fits)
  simp only [raiseNew]
  refine wpAny_bind (wpAny_handled ?_)
  rw [show A.in1.handled = none from hh]
  refine wpAny_bind (wpAny_pure (wpAny_throw ?_))
  refine wpAny_bind (wpAny_isInstance (T := "StopIteration") (b := true) ⟨_,Heap.get?_push_size _ rfl,rfl⟩ isSubtype_stop ?_)
  exact wpAny_pure (hQ _ (((Heap.SameBut.update ..).extBut.push _).push _))
theorem zdA {it : Addr} {slot i n : Nat} {Q : Value → Shared → Prop} (hit : xY s.heap it a slot i n ep) (h : Q (.ref it) s) : wpAny (model prog w) A (pyIter (.ref it)) Q E s := by
 refine wpAny_pyIter_slot (yV hit) wo (wpAny_call_entry wo (yV hit) v9 ?_ (tF _))
 show wpAny _ _ (ret (.ref it)) _ _ s
 exact wpAny_pure ⟨_,rfl,"set_iterator",_,yV hit,z6.lookup,h⟩
theorem zei (hh : A.handled = none) (I : Addr) (hne : a ≠ I) : Walks prog w A I [I,a] [I] es.size (fun i v => ∃ e,(ordE w a ep es)[i]? = some e ∧ v = e.2)
 (fun i h => SetAt w h a es ep tb ∧ ∃ slot,xY h I a slot i es.size ep ∧ zat w tb i slot) where
 sub := fun b hb => by simp at hb; simp [hb]
 frame := fun i h h' st hk => by
  obtain ⟨S,slot,⟨o,ho,r⟩,hs⟩ := st
  exact ⟨S.keep fun o e => hk a (by simp) o e,slot,⟨o,hk I (by simp) o ho,r⟩,hs⟩
 item := fun i s Q E hi st hQ => by
  obtain ⟨S,slot,hit,hs⟩ := st
  refine zdB S hit hs hi fun e h' slot' he hit' hs' hsb => ?_
  exact hQ e.2 h' s.toks ⟨e,he,rfl⟩ ⟨S.keep fun o q => hsb.extBut a o hne q,slot',hit',hs'⟩ fun b o hb q => hsb.extBut b o (fun z => hb (by simp [z])) q
 done := fun s Q E st hQ => by
  obtain ⟨S,slot,hit,hs⟩ := st
  exact zdC hh S hit hs rfl fun h' he => hQ h' s.toks fun b o hb q => he b o (fun z => hb (by simp [z])) q
 self := fun _ _ _ _ st hQ => by
  obtain ⟨S,slot,hit,hs⟩ := st
  exact zdA hit hQ
theorem zgs {r : Addr} {Q : Bool → Shared → Prop} (hT : s.TypeIs (.ref r) "set") (h : Q false s) : wpAny (model prog w) A (Builtin.List.listLengthHint (.ref r)) Q E s := by
 unfold Builtin.List.listLengthHint
 refine wpAny_bind (wpAny_specialOf hT F.slot_set_len.lookup ?_)
 generalize hid : ("set.__len__" : String) = id0
 wp_delta
 rw [show splitId id0 = some ("set","__len__") from by subst hid; decide +kernel]
 subst hid
 refine wpAny_bind (wpAny_isInstance (T := "set") (b := true) hT (by rw [isSubtype_type]; kernel_rfl) ?_)
 refine wpAny_ite_split (fun hab => absurd hab (by decide)) (fun _ => ?_)
 refine wpAny_ite_split (fun _ => ?_) (fun hab => absurd (by decide +kernel) hab)
 refine wpAny_bind (wpAny_typeOf hT ?_)
 exact wpAny_pure h
theorem zhn : PySem.W.KdlSrc prog w "set" a a es.size (fun i v => ∃ e,(ordE w a ep es)[i]? = some e ∧ v = e.2) (fun h => SetAt w h a es ep tb) where
 type := fun s S => S.typeIs
 there := fun _ S => ⟨S.lt,S.lt⟩
 keep := fun _ _ S hk => S.keep fun o e => hk a (.inl rfl) o e
 notList := by decide
 notTuple := by decide
 hint := fun _ _ _ _ S hq => zgs S.typeIs hq
 iter := fun A s hh S => ⟨_,_,(fun _ _ hq => zfW S hq),zei (tb := tb) hh _ (Nat.ne_of_lt S.lt),⟨S.keep fun o e => Heap.get?_push_of_some _ e,0,⟨_,Heap.get?_push_size _ rfl,rfl,rfl⟩,fun _ => ⟨fun _ => rfl,fun k x hk => by lia⟩⟩⟩
end
end DL
namespace DL
open PySem PySem.Spec PyProof.Rows L2
theorem zeO (P : List Int → Prop) (h0 : P []) (h1 : ∀ l k,P l → P (l ++ [k])) : ∀ l,P l := by
 intro l
 have : ∀ (n : Nat) (l : List Int),l.length = n → P l := by
  intro n
  induction n with
  | zero => intro l h; rw [List.eq_nil_of_length_eq_zero h]; exact h0
  | succ n ih =>
    intro l h
    rcases List.eq_nil_or_concat l with e | ⟨m,t,e⟩
    ·subst e; simp at h
    ·have e' : l = m ++ [t] := by simpa using e
     rw [e'] at h ⊢
     exact h1 m t (ih m (by simp at h; exact h))
 exact this _ l rfl
theorem zhQ (ns : List Int) : ∀ k,k ∈ met ns ↔ k ∈ ns := by
 refine zeO (fun ns => ∀ k,k ∈ met ns ↔ k ∈ ns) (fun k => Iff.rfl) (fun l k ih x => ?_) ns
 rw [zaM]
 split
 ·rename_i h
  rw [ih x,List.mem_append,List.mem_singleton]
  constructor
  ·exact .inl
  ·rintro (h' | rfl)
   ·exact h'
   ·exact (ih _).mp h
 ·rw [List.mem_append,List.mem_append,ih x]
theorem zeN (ns : List Int) : (met ns).Nodup := by
 refine zeO (fun ns => (met ns).Nodup) List.nodup_nil (fun l k ih => ?_) ns
 rw [zaM]
 split
 ·exact ih
 ·rename_i h
  rw [List.nodup_append]
  refine ⟨ih,by simp,fun a ha b hb => ?_⟩
  rw [List.mem_singleton] at hb
  subst hb
  exact fun z => h (z ▸ ha)
theorem xu : ∀ (n : Nat) (l : List Int),l.length ≤ n → l.eraseDups.Nodup
 | 0,l,h => by rw [List.eq_nil_of_length_eq_zero (Nat.le_zero.mp h)]; simp
 | n + 1,[],_ => by simp
 | n + 1,a :: l,h => by
   rw [List.eraseDups_cons,List.nodup_cons]
   have hl := List.length_filter_le (fun b => !b == a) l
   refine ⟨fun hm => ?_,xu n _ (by simp at h; lia)⟩
   rw [List.mem_eraseDups,List.mem_filter] at hm
   simp at hm
theorem zgk (ns : List Int) : ym (met ns) = ym ns.eraseDups :=
 xl ((zU _).trans (((List.perm_ext_iff_of_nodup (zeN ns) (xu _ ns (Nat.le_refl _))).mpr fun k => by rw [zhQ,List.mem_eraseDups]).trans (zU _).symm)) (yl _) (yl _)
noncomputable def SetO (w : World) (a : Addr) (ns : List Int) : HO := .ext fun h => ∃ es ep tb,SetAt w h a es ep tb ∧ EsOk es.toList ns
theorem zfq {X : Cx} (hc : X.calm = true) : ui X (.type "set") (fun xs H Q => ∃ p ns,xs = [.ref p] ∧ H p = some (.lst (ns.map V.int)) ∧ ns.length < 18 ∧ ∀ l,H l = none → Q (.ref l) (upd H l (SetO X.w l (met ns)))) := by
 intro pins s σ H xs us Q I r h
 obtain ⟨p,ns,rfl,hp,hl,q⟩ := h
 obtain ⟨u,rfl,r1⟩ := zav r
 cases (show u = .ref p from r1)
 obtain ⟨z,its,n,rv,hlen,e⟩ := I.lstM hp
 have hi : IntsAre its ns := zak rv
 refine zgD (items := its.toArray) (I.ok.hd hc) ⟨_,e,rfl,_,rfl⟩ (by simpa using hi) hl fun h' tk es ep tb _ S hE hk => ?_
 have hk' : ∀ b o,s.heap.get? b = some o → h'.get? b = some o := fun b o eb => hk b o (Heap.lt_size eb) eb
 refine ⟨.ref s.heap.objs.size,_,I.laid (t' := tk) (o := SetO X.w s.heap.objs.size (met ns)) hk' (Nat.le_refl _) ?_,rfl,q _ (I.hok.fresh (Nat.le_refl _))⟩
 obtain ⟨o,ho,_⟩ := S.ex
 exact ⟨⟨es,ep,tb,S,hE⟩,⟨o,ho⟩,fun h1 h2 ⟨es,ep,tb,S,hE⟩ hk => ⟨es,ep,tb,S.keep hk,hE⟩⟩
theorem zaj : ∀ (l : List (Int × Value)),(∀ e ∈ l,∃ (k : Int) (t : Tok),e = (hashInt k,.int k t)) → IntsAre (l.map (·.2)) (l.map keyE)
 | [],_ => .nil
 | e :: l,h => by
   obtain ⟨k,t,rfl⟩ := h e (.head _)
   exact .cons k t (zaj l fun e he => h e (.tail _ he))
theorem zgr {L : Array (Int × Value)} {acc : Array Value} (h : ItemsOf (fun i v => ∃ e,L[i]? = some e ∧ v = e.2) acc L.size) : acc.toList = L.toList.map (·.2) := by
 apply List.ext_getElem?
 intro i
 rw [Array.getElem?_toList,List.getElem?_map,Array.getElem?_toList]
 cases q : acc[i]? with
 | some v =>
   obtain ⟨e,he,rfl⟩ := h.2 i v q
   rw [he]; rfl
 | none =>
   have : L.size ≤ i := by rw [← h.1]; exact Array.getElem?_eq_none_iff.mp q
   rw [Array.getElem?_eq_none this]; rfl
theorem zbP {X : Cx} (hc : X.calm = true) : ui X (.builtin "sorted") (fun xs H Q => ∃ p ns,xs = [.ref p] ∧ H p = some (SetO X.w p ns) ∧ ns.length < 64 ∧ ∀ l,H l = none → Q (.ref l) (upd H l (.lst ((ym ns).map V.int)))) := by
 intro pins s σ H xs us Q I r h
 obtain ⟨p,ns,rfl,hp,hl,q⟩ := h
 obtain ⟨u,rfl,r1⟩ := zav r
 cases (show u = .ref p from r1)
 obtain ⟨⟨es,ep,tb,S,hE⟩,_⟩ := I.hok p _ hp
 have hsz : es.size = ns.length := by rw [← Array.length_toList]; exact hE.length
 refine Calls.call_function_entry kind_sorted plain_sorted entry_sorted (args_sorted1 _) ?_
 unfold Builtin.«sorted»
 refine wpAny_bind (m := checkCount "sorted" 1 1 _) (wpAny_pure ?_)
 refine wpAny_bind (PySem.W.kdu_collect (A := X.A.in1) (zhn (a := p) (es := es) (ep := ep) (tb := tb)) (by simp [I.ok.hd hc]) S (by rw [hsz,sizeLine_eq]; lia) fun h' tk acc hk hacc => ?_)
 have hacc' : ItemsOf (fun i v => ∃ e,(ordE X.w p ep es)[i]? = some e ∧ v = e.2) acc (ordE X.w p ep es).size := by rw [zaI]; exact hacc
 have hitems := zgr hacc'
 have hE2 : EsOk (ordE X.w p ep es).toList ns := hE.of_perm (zc2 X.w p ep es)
 have hI : IntsAre acc.toList ((ordE X.w p ep es).toList.map keyE) := by
  rw [hitems]
  exact zaj _ hE2.all
 have hal : acc.toList.length = ns.length := by rw [hitems,List.length_map]; exact hE2.length
 refine wpAny_bind (wpAny_newList ?_ (by rw [hal,sizeLine_eq]; lia))
 have hoL : (h'.push (seqObj "list" acc.toList.toArray 0)).get? h'.objs.size = some (seqObj "list" acc.toList.toArray 0) := Heap.get?_push_size _ rfl
 refine wpAny_bind (wpAny_holding (wpAny_call_entry slot_list_sort ⟨_,hoL,rfl⟩ entry_list_sort (list_sort_tree hoL hI (by lia) fun out ns' a1 a2 a3 => ⟨_,rfl,?_⟩) (args_list_sort _)))
 have en : ns' = ym ns := xl ((a2.trans hE2.perm).trans (zU ns).symm) a3 (yl ns)
 subst en
 obtain ⟨c,he⟩ := sortedHeap_at (out := out) hoL
 have keep : ∀ b o,h'.get? b = some o → (sortedHeap (h'.push (seqObj "list" acc.toList.toArray 0)) h'.objs.size acc.toList out).get? b = some o := fun b o eb => by
  have hlt := Heap.lt_size eb
  rw [sortedHeap_old (Nat.ne_of_lt hlt) (by rw [size_push']; exact Nat.lt_succ_of_lt hlt),Heap.get?_push_ne _ _ _ (Nat.ne_of_lt hlt)]
  exact eb
 have hz : ((ym ns).map V.int).length ≤ sizeLine := by rw [List.length_map,(zU ns).length_eq,sizeLine_eq]; lia
 have I1 : Inv X pins σ H { s with heap := h',toks := tk } := I.kept (t' := tk) hk
 exact wpAny_pure ⟨_,rfl,.ref h'.objs.size,_,I1.laid (t' := tk) (o := .lst ((ym ns).map V.int)) keep (Nat.le_refl _) ⟨hz,out.toList,c,vf a1,by simpa [seqObj] using he⟩,rfl,q _ (I1.hok.fresh (Nat.le_refl _))⟩
theorem zbN {X : Cx} {G₀ H₀ : Hp} {p p2 pos pos2 : Pos} {e : Expr} {f : FE} (he : DE X G₀ H₀ e f) (hm : X.mg "sorted" = none) (hm2 : X.mg "set" = none)
 (hc : X.calm = true := by rfl) (hg : Gl X "sorted" := by rfl) (hg2 : Gl X "set" := by rfl)
 (hs : starEach [.Call (.Name "set" p2) [e] [] pos2] X.env = [(false,eval (.Call (.Name "set" p2) [e] [] pos2) X.env)] := by rfl) (hs2 : starEach [e] X.env = [(false,eval e X.env)] := by rfl) :
 DE X G₀ H₀ (.Call (.Name "sorted" p) [.Call (.Name "set" p2) [e] [] pos2] [] pos) (f1 wJ f) :=
 (zc1 (zbP hc) hg hm boot_sorted (xg (zbn (zfq hc) hg2 hm2 boot_set (xg he wU hs2) (by decide) (by decide) hs2 rfl) wU hs) (by decide) (by decide) hs rfl).imp fun σ H Q q => by
  obtain ⟨env,G,val,I,e,k⟩ := q
  obtain ⟨x,e1,e⟩ := zn e
  refine xQ I e1 fun v G' H' g l I' o => ?_
  unfold wJ at e
  split at e
  ·rename_i ds hd
   rw [hd] at o
   split at e
   ·rename_i ns hn
    split at e
    ·rename_i hl
     cases e
     obtain ⟨a,vs,rfl,h1,r1⟩ := Opd.lst I' o
     rw [tD hn] at r1
     rw [r1.ints_of] at h1
     refine ⟨a,ns,rfl,h1,hl,fun b hb => ?_⟩
     have hml := zgZ ns
     refine ⟨b,met ns,rfl,zS,by lia,fun c hc => ?_⟩
     have g1 := Grow.laidL (o := SetO X.w b (met ns)) l hb
     have g2 := Grow.laidL (o := .lst ((ym (met ns)).map V.int)) g1.2 hc
     have h3 := xD (K := X.K) (env := env) (σ := σ) (ds := (ym (met ns)).map .int) g1.2 hc (RepL.ints _)
     have g01 := g.trans g1.1
     have h4 := w9.base g01.h h3
     rw [zgk] at h4 g2 ⊢
     exact k _ G' _ (g01.trans g2.1) g2.2 h4
    ·cases e
   ·cases e
  ·cases e
end DL
namespace DL
open PySem PySem.Spec PyProof.Rows L2
end DL
namespace DL
open PySem PySem.Spec PyProof.Rows L2
noncomputable def pth (t : SetTable) (h : Int) (n : Nat) : SetTable.Probe := advN t n (t.probeStart h)
noncomputable def RI (t : SetTable) (hs : List Int) : Prop := ∀ q ∈ hs.zip t.place.toList,∃ m,(pth t q.1 m).j = q.2 ∧ ∀ m',m' < m → (pth t q.1 m').j ∈ t.place.toList
end DL
namespace DL
open PySem PySem.Spec PyProof.Rows L2
end DL
namespace DL
open PySem PySem.Spec PyProof.Rows L2
section
variable {prog : Program} {w : World} {A : Around} {E : Value → Shared → Prop} {s : Shared}
noncomputable abbrev PKey (prog : Program) (w : World) (h : Heap) (k : List Int) (a : Addr) : Prop := IsTupleKey (intKind prog w) h k a
noncomputable def pHash (prog : Program) (w : World) (k : List Int) : Int := (tupleKind (intKind prog w)).hash k
end
structure EsP (prog : Program) (w : World) (h : Heap) (es : List (Int × Value)) (S : List (List Int)) : Prop where
 all : ∀ e ∈ es,∃ k a,e = (pHash prog w k,.ref a) ∧ PKey prog w h k a
 mem : ∀ k,k ∈ S ↔ ∃ e ∈ es,∃ a,e = (pHash prog w k,.ref a) ∧ PKey prog w h k a
 len : es.length = S.length
structure PSet (prog : Program) (w : World) (h : Heap) (sa : Addr) (S : List (List Int)) (es : Array (Int × Value)) (ep : Nat) (tb : SetTable) : Prop where
 at_ : SetAt w h sa es ep tb
 ri : RI tb (es.toList.map (·.1))
 es : EsP prog w h es.toList S
section
variable {prog : Program} {w : World} {A : Around} {E : Value → Shared → Prop} {s : Shared}
end
end DL
namespace DL
open PySem PySem.Spec PyProof.Rows L2
section
variable {prog : Program} {w : World} {A : Around} {R : Result → Shared → Prop} {I : Addr} {fp wr : List Addr} {G : Array GenState → Array GenState → Prop} {P : Nat → Value → Prop} {St : Nat → Shared → Prop}
end
section
variable {prog : Program} {w : World} {A : Around} {E : Value → Shared → Prop} {s : Shared}
end
end DL
namespace DL
open PySem PySem.Spec PyProof.Rows L2 PySem.W
structure LtOk (n : Nat) (lt : Nat → Nat → Bool) : Prop where
 irr : ∀ i,lt i i = false
 tr : ∀ i j k,lt i j = true → lt j k = true → lt i k = true
 tot : ∀ i j,i < n → j < n → i ≠ j → lt i j = true ∨ lt j i = true
section
variable {n : Nat} {lt : Nat → Nat → Bool}
noncomputable def PermOk (n : Nat) (p : Array Nat) : Prop := p.toList.Perm (List.range n)
end
end DL
namespace DL
open PySem PySem.Spec PyProof.Rows L2 PySem.W
section
variable {prog : Program} {w : World} {A : Around} {E : Value → Shared → Prop} {s : Shared}
end
end DL
namespace DL
open PySem PySem.Spec PyProof.Rows L2
noncomputable def zjB : D → Option (Int × Int)
 | .tup [.int x,.int y] => some (x,y)
 | _ => none
noncomputable def zd (p : Int × Int) : D := .tup [.int p.1,.int p.2]
noncomputable def zfA : List D → Option (List (Int × Int))
 | [] => some []
 | d :: ds => match zjB d,zfA ds with
   | some p,some ps => some (p :: ps)
   | _,_ => none
end DL
namespace DL
open PySem PySem.Spec PyProof.Rows L2
section
variable {prog : Program} {w : World} {K : Type} [DecidableEq K] {knd : PySem.KeyKind prog w K} {A : Around} {E : Value → Shared → Prop} {s : Shared}
end
end DL
namespace DL
open PySem PySem.Spec PyProof.Rows L2
end DL
namespace DL
open PySem PySem.Spec PyProof.Rows L2
noncomputable abbrev Grp := Int × List Int
noncomputable def grpD (g : Grp) : D := .tup [.int g.1,.lst (g.2.map .int)]
noncomputable abbrev GA := Int × List Int × Addr
noncomputable def kvA (gs : List GA) : List (Key × V) := gs.map fun g => (Sum.inl g.1,V.ref g.2.2)
structure DicOk (Hs H : Hp) (d l : Addr) (gs : List GA) : Prop where
 same : Same Hs H
 nd : Hs d = none
 at_ : H d = some (.dK (kvA gs))
 lists : ∀ g ∈ gs,H g.2.2 = some (.lst (g.2.1.map V.int)) ∧ Hs g.2.2 = none ∧ g.2.2 ≠ l
 apart : (gs.map (·.2.2)).Nodup
 keys : (gs.map (·.1)).Nodup
end DL
namespace DL
open PySem PySem.Spec PyProof.Rows L2
end DL
namespace DL
open PySem PySem.Spec PyProof.Rows L2
end DL
namespace DL
open PySem PySem.Spec PyProof.Rows L2
theorem Inv.turnedL {X : Cx} {pins : List (Addr × Obj)} {σ : St} {H : Hp} {s : Shared} {h' : Heap} {t' : Nat} {fp : List Addr} {T : Addr} {o : HO} (I : Inv X pins σ H s) (hf : ∀ b ∈ fp,FpOk X pins H b) (k : ∀ b u,b ∉ fp → s.heap.get? b = some u → h'.get? b = some u)
 (hT : s.heap.objs.size ≤ T) (new : vb X.prog X.w (upd H T o) h' T o) : Inv X pins σ (upd H T o) { s with heap := h',toks := t' } := by
 have hn := I.hok.fresh hT
 have nit : ∀ b u,H b = some u → b ∉ fp := fun b u e hb => by rw [(hf b hb).1] at e; cases e
 have neT : ∀ b u,s.heap.get? b = some u → b ≠ T := fun b u e => Nat.ne_of_lt (Nat.lt_of_lt_of_le (Heap.lt_size e) hT)
 refine I.step (g' := s.gens) (d' := s.drawn) (ch := fp) (fun b hb => let ⟨_,a1,_,a3,a4,a5⟩ := hf b hb; ⟨a3,a1,a4,a5⟩) (fun b u _ _ hc e _ => k b u hc e) (fun b u _ _ hc e _ => ⟨u.slots,k b u hc e⟩) (fun b u _ e n => by rw [zG (neT b u e)]; exact n)
  (fun b u hc e => ⟨u,k b u hc e⟩) (fun b xs e => by rw [zG (zC e hn)]; exact e) (fun b u x e => by rw [zG (zC e hn)]; exact e) (fun b ps e => ⟨#[],by rw [zG (zC e hn),e]; simp⟩) (fun m hm => ?_) (fun b u e => ?_) I.bare
 ·obtain ⟨ob,es,ep,ho,r⟩ := hm
  exact ⟨ob,es,ep,k _ ob (fun hb => (hf _ hb).2.1 rfl) ho,r⟩
 ·by_cases hb : b = T
  ·subst hb; rw [zS] at e; cases e; exact new
  ·rw [zG hb] at e
   refine (I.hok b u e).stay (fun c v hc q => k c v ?_ q) (fun c q => by rw [zG (zC q hn)]; exact q) fun c xs q => by rw [zG (zC q hn)]; exact q
   rcases hc with z | z
   ·rw [z]; exact nit b u e
   ·exact nit c _ z
theorem Inv.turnedF {X : Cx} {pins : List (Addr × Obj)} {σ : St} {H : Hp} {s : Shared} {h' : Heap} {t' : Nat} {fp : List Addr} (I : Inv X pins σ H s) (hf : ∀ b ∈ fp,FpOk X pins H b) (k : ∀ b u,b ∉ fp → s.heap.get? b = some u → h'.get? b = some u) : Inv X pins σ H { s with heap := h',toks := t' } := by
 have nit : ∀ b u,H b = some u → b ∉ fp := fun b u e hb => by rw [(hf b hb).1] at e; cases e
 refine I.step (g' := s.gens) (d' := s.drawn) (ch := fp) (fun b hb => let ⟨_,a1,_,a3,a4,a5⟩ := hf b hb; ⟨a3,a1,a4,a5⟩) (fun b u _ _ hc e _ => k b u hc e) (fun b u _ _ hc e _ => ⟨u.slots,k b u hc e⟩) (fun b u _ e n => n)
  (fun b u hc e => ⟨u,k b u hc e⟩) (fun b xs e => e) (fun b u x e => e) (fun b ps e => ⟨#[],by rw [e]; simp⟩) (fun m hm => ?_) (fun b u e => ?_) I.bare
 ·obtain ⟨ob,es,ep,ho,r⟩ := hm
  exact ⟨ob,es,ep,k _ ob (fun hb => (hf _ hb).2.1 rfl) ho,r⟩
 ·refine (I.hok b u e).stay (fun c v hc q => k c v ?_ q) (fun c q => q) fun c xs q => q
  rcases hc with z | z
  ·rw [z]; exact nit b u e
  ·exact nit c _ z
end DL
namespace DL
open PySem PySem.Spec PyProof.Rows L2
noncomputable abbrev ZOut (h : Heap) (z ti to t : Addr) (f : Bool) : Prop :=
 h.get? z = some { cls := .type "zip",dict := none,data := .fields #[rawInt t,.bool f,.bool false,.ref ti,.ref to],slots := #[] }
section
variable {prog : Program} {w : World} {A : Around} {E : Value → Shared → Prop} {s : Shared}
structure ZSt (h : Heap) (z ti to i1 i2 l1 l2 S : Addr) (i : Nat) (xs ys : Array Value) : Prop where
 own : (IsZip h z ti to .none ∧ ∃ a b,IsPair h to a b) ∨ ∃ t f ot,ZOut h z ti to t f ∧ h.get? t = some ot ∧ t ≠ z ∧ t ≠ i1 ∧ t ≠ i2 ∧ t ≠ S
 its : IsPair h ti (.ref i1) (.ref i2)
 p1 : h.IsListIter i1 l1 i
 p2 : h.IsListIter i2 l2 i
 s1 : h.IsList l1 xs
 s2 : h.IsList l2 ys
end
end DL
namespace DL
open PySem PySem.Spec PyProof.Rows L2
structure ZG (xs ys : Array Value) (lo : Addr) (h : Heap) (as : List Addr) : Prop where
 rise : as.Pairwise (· < ·)
 above : ∀ a ∈ as,lo < a
 pairs : ∀ (j : Nat) (a : Addr),as[j]? = some a → ∃ x y,xs[j]? = some x ∧ ys[j]? = some y ∧ IsPair h a x y
section
variable {prog : Program} {w : World} {A : Around} {s : Shared} {R : Result → Shared → Prop} {xs ys : Array Value}
end
section
variable {prog : Program} {w : World} {A : Around} {E : Value → Shared → Prop} {s : Shared} {xs ys : Array Value}
end
end DL
namespace DL
open PySem PySem.Spec PyProof.Rows L2
end DL
namespace DL
open PySem PySem.Spec PyProof.Rows L2
noncomputable def Itv (K : PySem.W.Frag) (l : Addr) (n : Nat) : It :=
 ⟨fun i H => ∃ xs,SqL K H l xs ∧ xs.length = n ∧ i < n,fun i H x H' => H' = H ∧ ∀ xs,SqL K H l xs → xs[n - 1 - i]? = some x,fun i _ => n ≤ i⟩
theorem zaw {P : Program} {w : World} {K : PySem.W.Frag} {tg : Expr} (l it : Addr) (n : Nat) : Turn P w K tg (Itv K l n) [it] it (fun i h => i ≤ n ∧ h.IsRevIter it l ((n : Int) - 1 - (i : Int))) where
 mem := by simp
 obj := fun i h st b hb => by
  have e : b = it := by simpa using hb
  subst e
  obtain ⟨_,o,e,c,d⟩ := st
  exact ⟨o,e,fun v z => by rw [d] at z; cases z⟩
 keep := fun i h h' st k => ⟨st.1,st.2.at fun o e => k it (by simp) o e⟩
 item := by
  intro X hP hw hK hc i pins s σ H E I hf st hg
  subst hP hw hK
  obtain ⟨xs,hq,hn,hi⟩ := hg
  have hx : xs[n - 1 - i]? = some (xs[n - 1 - i]'(by lia)) := List.getElem?_eq_getElem _
  obtain ⟨its,rv,p,hz⟩ := I.list hq
  obtain ⟨u,hu,ru⟩ := rv.get hx
  obtain ⟨f0,f1,f2,f3,f4,f5⟩ := hf it (by simp)
  have en : (n : Int) - 1 - (i : Int) = ((n - 1 - i : Nat) : Int) := by lia
  have hit := st.2
  rw [en] at hit
  refine wpAny_pyNext_rev_item hit p.isList (x := u) (by simpa using hu) fun h' st' sb => ?_
  have en2 : ((n - 1 - i : Nat) : Int) - 1 = (n : Int) - 1 - ((i + 1 : Nat) : Int) := by lia
  rw [en2] at st'
  have I1 : Inv X pins σ H { s with heap := h' } := I.turned (t' := s.toks) (fun b o hb e => (sb.2 b hb).trans e) f0 f1 f3 f4 f5
  obtain ⟨o,e,c,d⟩ := id st'
  exact ⟨u,rfl,zhY (s := { s with heap := h' }) e c d (by decide) ⟨_,H,I1,ru,⟨rfl,fun ys hy => by rw [I.list_inj hy hq]; exact hx⟩,⟨hi,st'⟩,fun b hb => (hf b hb).1⟩⟩
 done := by
  intro X hP hw hK hc i pins s σ H E I hf st hg
  subst hP hw hK
  obtain ⟨f0,f1,f2,f3,f4,f5⟩ := hf it (by simp)
  have hn : n ≤ i := hg
  have en : (n : Int) - 1 - (i : Int) = -1 := by have := st.1; lia
  have hit := st.2
  rw [en] at hit
  exact wpAny_pyNext_rev_end (I.ok.hd hc) hit fun h' eb => ⟨rfl,I.turned (t' := s.toks) (fun b o hb e => eb b o hb e) f0 f1 f3 f4 f5⟩
 self := fun _ _ _ _ _ st h => wpAny_pyIter_revIter st.2 h
noncomputable def iRev (K : PySem.W.Frag) (ta : TA) : TI := fun σ H R => ta σ H fun vs H1 => ∃ a xs,vs = [.ref a] ∧ H1 a = some (.lst xs) ∧ R (Itv K a xs.length) H1
theorem ziK {X : Cx} {tg : Expr} {p cpos : Pos} {l : Expr} {ta : TA} (hm : X.mg "reversed" = none) (ha : PA X [l] ta) (hg : Gl X "reversed" := by rfl) (hs : starEach [l] X.env = [(false,eval l X.env)] := by rfl) : PI X tg (.Call (.Name "reversed" p) [l] [] cpos) (iRev X.K ta) := by
 intro pins s σ H R I h
 refine Call_ (uU I hg hm boot_reversed (PyProof.Rows.callWith_type1 (thn (ha cpos pins s σ H _ I h) fun us s1 ⟨vs,H1,I1,r1,q1⟩ => ?_) hs rfl))
 obtain ⟨a,xs,rfl,hH,q⟩ := q1
 obtain ⟨u,rfl,r2⟩ := zav r1
 cases (show u = .ref a from r2)
 obtain ⟨z,its,n,rv,hlen,e⟩ := I1.lstM hH
 have hl : s1.heap.IsList a its.toArray := ⟨_,e,rfl,_,rfl⟩
 refine call_reversed_list hl ?_
 have I2 : Inv X pins σ H1 { s1 with heap := s1.heap.push (revObj a ((its.toArray.size : Int) - 1)),toks := s1.toks } := I1.kept (t' := s1.toks) fun b o e => Heap.get?_push_of_some _ e
 have hit : (s1.heap.push (revObj a ((its.toArray.size : Int) - 1))).IsRevIter s1.heap.objs.size a ((xs.length : Int) - 1 - ((0 : Nat) : Int)) := ⟨_,Heap.get?_push_size _ rfl,rfl,by simp [revObj,hlen]⟩
 refine wpAny_pyIter_revIter hit ?_
 refine ⟨s1.heap.objs.size,[s1.heap.objs.size],_,Itv X.K a xs.length,H1,rfl,I2,zaw a _ xs.length,⟨Nat.zero_le _,hit⟩,fun b hb => ?_,q⟩
 have e : b = s1.heap.objs.size := by simpa using hb
 subst e
 exact I1.fpOk (Nat.le_refl _) (I1.hok.fresh (Nat.le_refl _))
theorem zhW {K : PySem.W.Frag} {G : Hp} {a : Addr} {ds : List D} {vs : List V} (h : SqL K G a vs) (r : RepL K G ds vs) : JOk K (Itv K a vs.length) G ds.reverse where
 go := fun i G' H' s l hi => by
  rw [List.length_reverse,r.length] at hi
  exact ⟨vs,l.seq (s.seq h),rfl,hi⟩
 stop := fun i G' H' s l hi => by
  rw [List.length_reverse,r.length] at hi
  exact hi
 yld := fun i G' H' x H1 s l hi y => by
  obtain ⟨e,y⟩ := y
  subst e
  rw [List.length_reverse] at hi
  have hx := y vs (l.seq (s.seq h))
  rw [← r.length] at hx
  obtain ⟨d,h1,h2⟩ := r.get' hx
  exact ⟨d,G',by rw [List.getElem?_reverse hi]; exact h1,Grow.refl _ _,l,h2.mono s⟩
@[simp] noncomputable def fRev (f : FE) : FI := fun env => (f env).bind fun x => x.hold.bind fun d => match d with
  | .lst ds => .ok ds.reverse
  | _ => .bad
theorem zfi {X : Cx} {G₀ H₀ : Hp} {tg : Expr} {p cpos : Pos} {l : Expr} {f : FE} (hm : X.mg "reversed" = none) (hl : DE X G₀ H₀ l f) (hg : Gl X "reversed" := by rfl) (hs : starEach [l] X.env = [(false,eval l X.env)] := by rfl) :
 DIt X G₀ H₀ tg (.Call (.Name "reversed" p) [l] [] cpos) (fRev f) := (ziK hm (xg hl wU hs) hg hs).imp fun σ H R q => by
 obtain ⟨env,G,ds,I,e,k⟩ := q
 obtain ⟨x,e1,e⟩ := zn e
 obtain ⟨d,e2,e⟩ := zn e
 refine ⟨env,G,x,I,e1,fun v G' H' g l h => ?_⟩
 obtain ⟨G2,g2,l2,h2⟩ := held g l h e2
 split at e
 ·cases e
  obtain ⟨a,vs,rfl,h3,r3⟩ := h2
  exact ⟨a,vs,rfl,l2 _ _ h3,k _ G2 H' g2 l2 (zhW (SqL.of h3) r3)⟩
 ·cases e
end DL
namespace DL
open PySem PySem.Spec PyProof.Rows L2
theorem int_at {its : List Value} {ns : List Int} (h : IntsAre its ns) {i : Nat} {v : Value} (e : its[i]? = some v) : ∃ t,v = .int (ns.getD i 0) t := IntsAre.int_at h i v e
section
variable {prog : Program} {w : World} {A : Around} {s : Shared} {R : Result → Shared → Prop} {I l S : Addr} {its : List Value} {ns : List Int}
end
section
variable {prog : Program} {w : World} {A : Around} {s : Shared} {R : Result → Shared → Prop} {I l S : Addr} {its : List Value} {ns : List Int}
end
end DL
namespace DL
open PySem PySem.Spec PyProof.Rows L2
end DL
namespace DL
open PySem PySem.Spec PyProof.Rows L2
section
variable {X : Cx} {G₀ H₀ : Hp} {elt iter tg : Expr} {ifs : List Expr} {scope : Scope} {pos : Pos} {fi : FI} {g : D → Ev → Out Ev} {ft : FT} {fe : FE} {cap : List Nat} {own : List Str}
theorem tq {i : Nat} {x : Str} {pos' spos : Pos} (fz : Bool) (hN : X.N.Nodup) (C : CompOk X scope cap own) (hi : DIt X G₀ H₀ tg iter fi)
 (hg : ∀ ex s H,DG (yT X (capN X cap own) scope ex s H) G₀ H₀ tg g) (hgc : Calm g) (ht : ∀ ex s H,DTs (yT X (capN X cap own) scope ex s H) G₀ H₀ ifs ft) (he : ∀ ex s H,DE (yT X (capN X cap own) scope ex s H) G₀ H₀ elt fe)
 (hc : X.calm = true := by rfl) (hs : ∀ x,foldedSetIterable iter X.env x = pure x := by intro _; rfl) (hix : X.N[i]? = some x := by rfl) (hx : Loc X.env.scope x := by first | exact Or.inl rfl | exact Or.inr rfl)
 (hsw : swapsWith (.ListComp elt [⟨tg,iter,ifs,0⟩] scope pos) (some (.Name x pos')) spos.line X.env = pure true := by rfl) (hf : X.fn x = true ∨ X.env.scope.names.lookup x = some .local := by first | exact .inl rfl | exact .inr rfl) :
 DS X G₀ H₀ (.Assign [.Name x pos'] (.ListComp elt [⟨tg,iter,ifs,0⟩] scope pos) spos) (setS i fz (yq cap own.length fi g ft fe)) := by
 intro pins s σ H D I q
 obtain ⟨env,G,val,D0,e,k⟩ := zbj q
 obtain ⟨ds,e1,e⟩ := zn e
 split at e
 rotate_left
 ·cases e
 rename_i hz
 obtain ⟨out,e2,e⟩ := zn e
 cases e
 rw [exec_Assign_Name_used _ _ _ _ hsw]
 refine wpAny_bind (wpAny_standAt (wpAny_bind ?_))
 show wpAny _ X.A (do let _ ← comprehension (.ListComp elt [⟨tg,iter,ifs,0⟩] scope pos) scope X.env _ (newList []) false (eval iter X.env) (some (assign (.Name x pos') X.env))) _ _ s
 refine wpAny_bind (wpAny_mono (wpAny_comprehension_free (use := some (assign (.Name x pos') X.env)) (Q := fun _ s' => SP X pins D .next s') (cl := yU X.env.cells scope.names []) rfl hs (vz (C.cells I)) C.kind C.locals ?_) (fun _ s' hq => wpAny_pure (wpAny_pure hq)) fun _ _ e => e)
 refine thn (hi pins s σ H (fun J H2 => ∃ G2,Grow G H G2 H2 ∧ Same G2 H2 ∧ JOk X.K J G2 ds) I ⟨env,G,ds,D0,e1,fun J G2 H2 g2 l2 jok => ⟨G2,g2,l2,jok⟩⟩) fun v s1 h1 => thn h1 fun itv s2 h2 => ?_
 obtain ⟨it,fp,tn,J,H2,rfl,I2,T,st2,f2,G2,g2,l2,jok⟩ := h2
 refine zar (RR := fun acc C => compPost (model X.prog X.w) X.A X.xe (some (assign (.Name x pos') X.env)) (fun _ s' => SP X pins D .next s') acc C) C hc hg hgc ht he I2 (D0.grow g2 l2) T st2 f2 jok hz e2 fun L C' vs G' H' s' hC fD hD gD r gr l hm hI => ?_
 obtain ⟨m,hm⟩ := hm
 have I' : Inv X pins σ H' s' := hI s'.heap (Heap.SameBut.refl _ _)
 have fC : FpOk X pins H' C' := I2.fpOk hC.1 hC.2
 show wpAny _ X.A (assign (.Name x pos') X.env (.ref L)) _ _ s'
 refine wpAny_assign_Name (zbi I' hN hix hx (v := .ref L) rfl (fun s3 I3 ⟨a,sb,ha⟩ => ?_) hf)
 have hne : C' ≠ a := fun z => by
  rcases ha with ha | ha
  ·exact fC.2.1 (z.trans ha)
  ·exact fC.2.2.2.2.1 x a ha z.symm
 refine ⟨m,hm.sameBut sb hne,fun h' sb' => ?_⟩
 have I4 : Inv X pins (σ.set i (some (.ref L))) H' { s3 with heap := h' } := Inv.turnedF (fp := [C']) (t' := s3.toks) I3 (fun b hb => by rw [List.mem_singleton.mp hb]; exact fC) fun b u hb e => sb'.extBut b u (fun z => hb (by simp [z])) e
 exact ⟨_,H',I4,k _ G' H' (g2.trans gr) l ⟨L,vs,rfl,g2.h.free fD,hD,gD,r⟩⟩
end
end DL
namespace DL
open PySem PySem.Spec PyProof.Rows L2
theorem zhs : typeLookup (.type "list_reverseiterator") "__len__" = pure none := by rw [typeLookup_type,builtinLookup_eq_fast]; kernel_rfl
theorem zer : typeLookup (.type "list_reverseiterator") "__length_hint__" = pure (some (.builtin "list_reverseiterator.__length_hint__")) := by rw [typeLookup_type,builtinLookup_eq_fast]; kernel_rfl
section
variable {prog : Program} {w : World} {A : Around} {E : Value → Shared → Prop} {s : Shared}
theorem zf1 {r : Addr} (hT : s.TypeIs (.ref r) "list_reverseiterator") {Q : Bool → Shared → Prop} (h : Q false s) : wpAny (model prog w) A (Builtin.List.listLengthHint (.ref r)) Q E s := by
 unfold Builtin.List.listLengthHint
 refine wpAny_bind (wpAny_specialOf hT zhs ?_)
 refine wpAny_bind (wpAny_specialOf hT zer ?_)
 generalize hid : ("list_reverseiterator.__length_hint__" : String) = id0
 wp_delta
 rw [show splitId id0 = some ("list_reverseiterator","__length_hint__") from by subst hid; decide +kernel]
 subst hid
 refine wpAny_bind (wpAny_isInstance (T := "list_reverseiterator") (b := true) hT (by rw [isSubtype_type]; kernel_rfl) ?_)
 refine wpAny_ite_split (fun hab => absurd hab (by decide)) (fun _ => ?_)
 refine wpAny_ite_split (fun _ => ?_) (fun hab => absurd (by decide +kernel) hab)
 refine wpAny_ite_split (fun hab => absurd hab (by decide)) (fun _ => ?_)
 exact wpAny_pure h
theorem zdE {R : Result → Shared → Prop} {r l S : Addr} {its : Array Value} (hh : A.handled = none) (hn : its.size ≤ sizeLine) (hlr : l ≠ r) (hSr : S ≠ r) (hSl : S ≠ l)
 (hit : s.heap.IsRevIter r l ((its.size : Int) - 1)) (hl : s.heap.IsList l its) (res : Value) (c₀ : Nat) (hS : s.heap.get? S = some { cls := .type "list",data := .seq #[] c₀ })
 (hR : ∀ s' acc c,(∀ b o,b ≠ S → b ≠ r → s.heap.get? b = some o → s'.heap.get? b = some o) → s' = { s with heap := s'.heap,toks := s'.toks } → s'.heap.get? S = some { cls := .type "list",dict := none,data := .seq acc c,slots := #[] } → acc.toList = its.toList.reverse → R (.ok (.ret res)) s') :
 wpAny (model prog w) A.in1 (Builtin.List.listExtendWith (.ref S) (.ref r) res)
  (fun fin s' => match fin with | .done f => R (.ok f) s' | .again c' => c'.quiet = true ∧ codeAny (model prog w) A c' R s') (fun e s' => R (.error e) s') s := by
 have hT : s.TypeIs (.ref r) "list_reverseiterator" := hit.typeIs
 unfold Builtin.List.listExtendWith
 refine wpAny_bind (wpAny_typeOf (T := "list_reverseiterator") hT ?_)
 have a1 : Builtin.List.listSameRef (.ref S) (.ref r) = false := by simp [Builtin.List.listSameRef,hSr]
 have a2 : (Value.type "list_reverseiterator" == Value.type "list") = false := by decide
 have a3 : (Value.type "list_reverseiterator" == Value.type "tuple") = false := by decide
 simp only [a1,a2,a3,Bool.or_false,Bool.false_eq_true,if_false]
 refine wpAny_bind (wpAny_pyIter_revIter hit ?_)
 refine wpAny_bind (wpAny_holding (zf1 hT ?_))
 refine wpAny_ite_split (fun hab => absurd hab (by decide +kernel)) (fun _ => ?_)
 have W := (Walks.listRev (prog := prog) (w := w) (A := A.in1) (by simpa using hh) r l hlr its).toS
 refine wpAny_pure ⟨plainId_quiet PySem.F.plain_extend_loop _,codeAny_extend_loopS W hn S (by simp; exact ⟨hSr,hSl⟩) res its.size 0 s #[] c₀ (Nat.sub_zero _) (Nat.zero_le _) ⟨Nat.zero_le _,by simpa using hit,hl⟩ hS (ItemsOf.nil _) fun s' acc c hm hS' hacc => ?_⟩
 refine hR s' acc c (fun b o b1 b2 e => hm.heap b o (by simp; exact ⟨b1,b2⟩) e) (Moved.eq_with hm) hS' ?_
 apply List.ext_getElem?
 intro j
 by_cases hj : j < its.size
 ·have h1 : j < acc.size := by rw [hacc.1]; exact hj
  have := hacc.2 j acc[j] (Array.getElem?_eq_getElem h1)
  rw [List.getElem?_reverse (by simpa using hj)]
  simp only [Array.getElem?_toList,Array.length_toList]
  rw [this,Array.getElem?_eq_getElem h1]
 ·have h1 : ¬ j < acc.size := by rw [hacc.1]; exact hj
  rw [List.getElem?_eq_none (by simp; lia),List.getElem?_eq_none (by simp; lia)]
theorem zf2 {Q : Value → Shared → Prop} {r l : Addr} {its : Array Value} (hh : A.handled = none) (hn : its.size ≤ sizeLine) (hlr : l ≠ r) (hit : s.heap.IsRevIter r l ((its.size : Int) - 1)) (hl : s.heap.IsList l its)
 (hQ : ∀ h' tk acc c,(∀ b o,b ≠ r → s.heap.get? b = some o → h'.get? b = some o) → h'.get? s.heap.objs.size = some { cls := .type "list",dict := none,data := .seq acc c,slots := #[] } → acc.toList = its.toList.reverse → Q (.ref s.heap.objs.size) { s with heap := h',toks := tk }) :
 wpAny (model prog w) A (call (.type "list") [.ref r]) Q E s := by
 refine callType_codes (Q₁ := fun obj s₁ => obj = .ref s.heap.objs.size ∧ s₁ = { s with heap := s.heap.push { cls := .type "list",data := .seq #[] } }) PySem.F.called_list (PySem.F.typeCall_list_1 _) PySem.F.entry_list_init
  (code_list_new _ ⟨rfl,rfl⟩) fun obj s₁ e => ?_
 obtain ⟨rfl,rfl⟩ := e
 have hS : (s.heap.push { cls := .type "list",data := .seq #[] }).get? s.heap.objs.size = some { cls := .type "list",data := .seq #[] } := Heap.get?_push_size _ rfl
 have hrl : r < s.heap.objs.size := by obtain ⟨_,e,_⟩ := hit; exact Heap.lt_size e
 have hll : l < s.heap.objs.size := by obtain ⟨_,e,_⟩ := hl; exact Heap.lt_size e
 refine ⟨⟨_,hS,rfl⟩,PySem.F.args_list_init_2 _ _,?_⟩
 show wpAny _ _ (do let was ← Builtin.List.listItems (.ref s.heap.objs.size); Builtin.List.listUpdate (.ref s.heap.objs.size) (fun _ => #[]); letGo was.toList.reverse; Builtin.List.listExtendWith (.ref s.heap.objs.size) (.ref r) .none) _ _ _
 refine wpAny_bind ?_
 unfold Builtin.List.listItems
 refine wpAny_bind (wpAny_seqItems hS rfl (wpAny_pure ?_))
 show wpAny _ _ (updateSeq s.heap.objs.size (fun _ => #[]) >>= fun _ => letGo (#[] : Array Value).toList.reverse >>= fun _ => Builtin.List.listExtendWith (.ref s.heap.objs.size) (.ref r) .none) _ _ _
 refine wpAny_bind (wpAny_updateSeq hS rfl ?_)
 have e2 := Heap.get?_update_self (Obj.mapSeq (fun _ => (#[] : Array Value))) hS rfl
 have up : ∀ b o,b ≠ s.heap.objs.size → s.heap.get? b = some o → ((s.heap.push { cls := .type "list",data := .seq #[] }).update s.heap.objs.size (Obj.mapSeq (fun _ => (#[] : Array Value)))).get? b = some o := fun b o hb e => (Heap.get?_update_other _ _ (Ne.symm hb)).trans (Heap.get?_push_of_some _ e)
 refine wpAny_bind (wpAny_letGo ?_)
 refine zdE (A := A.in1) hh hn hlr (Nat.ne_of_gt hrl) (Nat.ne_of_gt hll) (hit.at fun o e => up _ _ (Nat.ne_of_lt hrl) e) (hl.at fun o e => up _ _ (Nat.ne_of_lt hll) e) .none _ e2 fun s' acc c k es hS' ha => ?_
 refine ⟨rfl,?_⟩
 rw [es]
 exact hQ s'.heap s'.toks acc c (fun b o hb e => k b o (Nat.ne_of_lt (Heap.lt_size e)) hb (up b o (Nat.ne_of_lt (Heap.lt_size e)) e)) hS' ha
end
theorem zfM {xs : List V} {us : List Value} (r : Vals xs us) : Vals xs.reverse us.reverse := by
 induction r with
 | nil => exact .nil
 | cons h t ih => rw [List.reverse_cons,List.reverse_cons]; exact ih.append (.cons h .nil)
noncomputable def zfO (ta : TA) : TE := fun σ H Q => ta σ H fun vs H1 => ∃ (a : Addr) (xs : List V),vs = [.ref a] ∧ H1 a = some (.lst xs) ∧ ∀ l,H1 l = none → Q (.ref l) (upd H1 l (.lst xs.reverse))
theorem zdH {X : Cx} {p p2 pos pos2 : Pos} {e1 : Expr} {ta : TA} (hc : X.calm = true) (ha : PA X [e1] ta) (hml : X.mg "list" = none) (hmz : X.mg "reversed" = none) (hgl : Gl X "list" := by rfl) (hgz : Gl X "reversed" := by rfl)
 (hs : starEach [.Call (.Name "reversed" p2) [e1] [] pos2] X.env = [(false,eval (.Call (.Name "reversed" p2) [e1] [] pos2) X.env)] := by rfl)
 (hs2 : starEach [e1] X.env = [(false,eval e1 X.env)] := by rfl) :
 PE X (.Call (.Name "list" p) [.Call (.Name "reversed" p2) [e1] [] pos2] [] pos) (zfO ta) := by
 intro pins s σ H Q I h
 refine wpAny_Call_Name_kw (uU I hgl hml boot_list (PyProof.Rows.callWith_type1 ?_ (by rw [hs]; rfl) rfl))
 rw [hs]
 refine Calls.spliced_cons (wpAny_Call_Name_kw (uU I hgz hmz boot_reversed (PyProof.Rows.callWith_type1 (thn (ha pos2 pins s σ H _ I h) fun us s1 ⟨vs,H1,I1,r1,q1⟩ => ?_) hs2 rfl)))
 obtain ⟨a,xs,rfl,ea,q⟩ := q1
 obtain ⟨ua,rfl,ra⟩ := zav r1
 cases (show ua = .ref a from ra)
 obtain ⟨za,ia,na,va,la,ha1⟩ := I1.lstM ea
 have hl1 : s1.heap.IsList a ia.toArray := ⟨_,ha1,rfl,_,rfl⟩
 have alt := Heap.lt_size ha1
 refine call_reversed_list hl1 ?_
 refine Calls.spliced_nil ?_
 have hne : a ≠ s1.heap.objs.size := Nat.ne_of_lt alt
 refine zf2 (its := ia.toArray) (I1.ok.hd hc) (by simp; lia) hne ⟨_,Heap.get?_push_size _ rfl,rfl,rfl⟩ (hl1.push _) fun h' tk acc c k3 hS hacc => ?_
 have hz : (s1.heap.push (revObj a ((ia.toArray.size : Int) - 1))).objs.size = s1.heap.objs.size + 1 := Heap.size_push ..
 have hk : ∀ b o,s1.heap.get? b = some o → h'.get? b = some o := fun b o e => k3 b o (Nat.ne_of_lt (Heap.lt_size e)) (Heap.get?_push_of_some _ e)
 have fr : H1 (s1.heap.objs.size + 1) = none := I1.hok.fresh (Nat.le_succ _)
 have hS2 : h'.get? (s1.heap.objs.size + 1) = some { cls := .type "list",dict := none,data := .seq acc c,slots := #[] } := by
  have := hS
  rw [show (Shared.heap { s1 with heap := s1.heap.push (revObj a ((ia.toArray.size : Int) - 1)) }).objs.size = s1.heap.objs.size + 1 from hz] at this
  exact this
 show EP X pins σ Q (.ref (s1.heap.push (revObj a ((ia.toArray.size : Int) - 1))).objs.size) _
 rw [hz]
 refine ⟨.ref (s1.heap.objs.size + 1),upd H1 (s1.heap.objs.size + 1) (.lst xs.reverse),?_,rfl,q _ fr⟩
 show Inv X pins σ _ { s1 with heap := h',toks := tk }
 refine I1.laid (a := s1.heap.objs.size + 1) (o := .lst xs.reverse) (t' := tk) hk (Nat.le_succ _) ⟨by rw [List.length_reverse]; exact za,ia.reverse,c,zfM va,?_⟩
 have : acc = ia.reverse.toArray := by
  apply Array.ext'
  rw [hacc]
 rw [← this]
 exact hS2
@[simp] noncomputable def ze2 : D → Out Val
  | .lst ds => .ok (.fresh ds.reverse)
  | _ => .bad
theorem zdP {X : Cx} {G₀ H₀ : Hp} {p p2 pos pos2 : Pos} {e1 : Expr} {f : FE} (h1 : DE X G₀ H₀ e1 f) (hml : X.mg "list" = none) (hmz : X.mg "reversed" = none) (hc : X.calm = true := by rfl) (hgl : Gl X "list" := by rfl) (hgz : Gl X "reversed" := by rfl)
 (hs : starEach [.Call (.Name "reversed" p2) [e1] [] pos2] X.env = [(false,eval (.Call (.Name "reversed" p2) [e1] [] pos2) X.env)] := by rfl)
 (hs2 : starEach [e1] X.env = [(false,eval e1 X.env)] := by rfl) :
 DE X G₀ H₀ (.Call (.Name "list" p) [.Call (.Name "reversed" p2) [e1] [] pos2] [] pos) (f1 ze2 f) :=
 (zdH hc (xg h1 wU hs2) hml hmz hgl hgz hs hs2).imp fun σ H Q q => by
  obtain ⟨env,G,val,I,e,k⟩ := q
  obtain ⟨x,ex,e⟩ := zn e
  refine xQ I ex fun v G' H' g l I' o => ?_
  unfold ze2 at e
  split at e
  ·rename_i ds hd
   cases e
   rw [hd] at o
   obtain ⟨a,xs,rfl,ha,ra⟩ := Opd.lst I' o
   refine ⟨a,xs,rfl,ha,fun p hp => ?_⟩
   have g1 := Grow.laidL (o := .lst xs.reverse) l hp
   exact k _ _ _ (g.trans g1.1) g1.2 ⟨p,xs.reverse,rfl,zbq g.h hp,zS,l.free hp,ra.reverse⟩
  ·cases e
end DL
namespace DL
open PySem PySem.Spec PyProof.Rows L2
end DL
namespace DL
open PySem PySem.Spec PyProof.Rows L2
noncomputable def GoodG (gs : List Grp) : Prop := gs.length < 1000 ∧ ∀ g ∈ gs,g.2 ≠ [] ∧ g.2.length < 1000
open Classical in
noncomputable def nestS (m : List D → Out Val) (ft : FT) (f6 : FS) : FS := fun env => match env with
 | [.pers a,.pers b,.pers (.lst ds),_] => match zfA ds with
   | some _ => match m [.lst ds] with
     | .ok (.fresh es) => if ∃ gs : List Grp,es = gs.map grpD ∧ GoodG gs then
      match ft [.pers a,.pers b,.pers (.lst ds),.pers (.lst es)] with
      | .ok true => .ok (.ret (.pers (.bl false)))
      | .ok false => f6 [.pers a,.pers b,.pers (.lst ds),.un]
      | _ => .bad
       else .bad
     | _ => .bad
   | none => .bad
 | _ => .bad
end DL
namespace DL
open PySem PySem.Spec PyProof.Rows L2
structure Fly (P : Program) (w : World) (outer : List Env) (H H' : Hp) (s s' : Shared) (e : Addr) (cls : Value) : Prop where
 os : s'.os = s.os
 bare : AllBare s'.gens
 same : Same H H'
 un : Un (frs outer) [] H H' s.heap s'.heap
 hok : HOk P w H' s'.heap
 fly : ∃ (B : Heap) (a0 : Value),Heap.FlyingW B outer e cls a0 s'.heap ∧ (∀ b o,s.heap.get? b = some o → H b = none → b ∉ frs outer → B.get? b = some o) ∧ (∀ b u o,H' b = some u → s'.heap.get? b = some o → B.get? b = some o)
noncomputable def CXd (P : Program) (w : World) : CXT := fun outer H s E e s' => ∃ ea cls H',e = .ref ea ∧ Fly P w outer H H' s s' ea cls ∧ E cls none H'
section
variable {X : Cx} {pins : List (Addr × Obj)} {σ : St} {H H1 : Hp} {s s1 : Shared} {B h' : Heap} {e : Addr} {cls a0 : Value}
end
end DL
namespace DL
open PySem PySem.Spec PyProof.Rows L2
noncomputable abbrev SS := Ev → St → Hp → Hp → Prop
noncomputable def Wish (mk : Bool) (X : Cx) (pins : List (Addr × Obj)) (S : SS) (c : Str) : Prop :=
 (mk = true → ∀ (σ : St) (H G : Hp) (env : Ev) (s : Shared) (e : Addr) (h1 : Heap) (vs : List Value) (C : Addr),Inv X pins σ H s → S env σ G H → X.mg c = some (.ref C) → Heap.MadeExcOf s.heap h1 e (.ref C) vs → X.xe (.ref e) { s with heap := h1 }) ∧
 (∀ (σ : St) (H G H1 G1 : Hp) (env : Ev) (s s1 : Shared) (e C : Addr),Inv X pins σ H s → S env σ G H → X.mg c = some (.ref C) → Fly X.prog X.w X.stack H H1 s s1 e (.ref C) → Grow G H G1 H1 → Same G1 H1 → X.xe (.ref e) s1)
noncomputable abbrev RR := Ev → Str → Prop
section
variable (mk : Bool) (X : Cx) (G₀ H₀ : Hp)
noncomputable def RW (α : Type) (m : Sem α) (R : RR) : Prop := ∀ (pins : List (Addr × Obj)) (s : Shared) (σ : St) (H : Hp) (env : Ev) (G : Hp) (c : Str) (Q : α → Shared → Prop) (S : SS),Inv X pins σ H s → DI X.K G₀ H₀ env σ G H → R env c → (∀ G' H',Grow G H G' H' → Same G' H' → S env σ G' H') → Wish mk X pins S c → wpAny (model X.prog X.w) X.A m Q X.xe s
noncomputable def RE (e : Expr) (R : RR) : Prop := RW mk X G₀ H₀ Value (eval e X.env) R
end
section
variable {mk : Bool} {X : Cx} {G₀ H₀ : Hp} {pos : Pos} {R : RR}
noncomputable def spR (K : PySem.W.Frag) (mg : Str → Option Value) (R : List D → Str → Prop) (n : Nat) : Sp := fun vs H _ E => ∃ G ds c,ds.length = n ∧ Same G H ∧ RepL K G ds vs ∧ R ds c ∧
 ∀ C G' H',Grow G H G' H' → Same G' H' → mg c = some (.ref C) → E (.ref C) none H'
structure CalR (P : Program) (w : World) (K : PySem.W.Frag) (mg : Str → Option Value) (base : Heap) (k : Nat) (x : Str) (ps : List Str) (R : List D → Str → Prop) : Prop where
 ex : ∃ (f : Addr) (fd : FuncData),FnOk P w K mg base (CXd P w) k f fd ps (spR K mg R ps.length) ∧ mg x = some (.ref f) ∧ PySem.W.keepIn K (.ref f) = true ∧ Binds K fd ps []
end
end DL
namespace DL
open PySem PySem.Spec PyProof.Rows L2 PySem.W PySem.Builtin PySem.Builtin.ObjectAttr PySem.Builtin.Getset_descriptor
structure ExCls (K : PySem.W.Frag) (C : Addr) : Prop where
 cl : (clsIn K C).isSome = true
 ga : findIn K (.ref C) "__getattribute__" = some (some (.builtin "BaseException.__getattribute__"))
 gn : findIn K (.ref C) "__getattr__" = some none
 ca : findIn K (.ref C) "__class__" = some (some (.builtin "object.__class__"))
 cg : specialIn K (.builtin "object.__class__") "__get__" = some (some (.builtin "getset_descriptor.__get__"))
 ct : takesIn K (.builtin "object.__class__") = some true
 mo : mroIn K C (.type "object") = some true
 mb : mroIn K C (.type "BaseException") = some true
noncomputable def ExcAt (e C : Addr) (h : Heap) : Prop := ∃ ob,h.get? e = some ob ∧ ob.cls = .ref C
section
variable {prog : Program} {w : World} {A : Around} {E : Value → Shared → Prop} {s : Shared} {K : PySem.W.Frag} {e C : Addr}
end
end DL
namespace DL
open PySem PySem.Spec PyProof.Rows L2
section
variable {X : Cx} {pins : List (Addr × Obj)} {σ : St} {H H1 : Hp} {s s1 : Shared} {B h' : Heap} {e C : Addr} {cls a0 : Value}
end
end DL
namespace DL
open PySem PySem.Spec PyProof.Rows L2
section
variable {X : Cx} {pins : List (Addr × Obj)} {σ : St} {H H1 : Hp} {s s1 : Shared} {e C : Addr}
end
end DL
namespace DL
open PySem PySem.Spec PyProof.Rows L2
noncomputable abbrev bmVal : List Value := [.type "ValueError",.type "Exception",.type "BaseException",.type "object"]
section
variable {mk : Bool} {X : Cx} {G₀ H₀ : Hp} {pos : Pos} {R : RR}
end
end DL
namespace DL
open PySem PySem.Spec PyProof.Rows L2
noncomputable def spK (K : PySem.W.Frag) (mg : Str → Option Value) (R : List D → Str → Prop) (n : Nat) (cs : List Str) : Sp := fun vs H Q _ => ∃ G ds c,ds.length = n ∧ Same G H ∧ RepL K G ds vs ∧ R ds c ∧ c ∈ cs ∧
 ∀ a C G' H',Grow G H G' H' → Same G' H' → mg c = some (.ref C) → H' a = some (.ext (ExcAt a C)) → Q (.ref a) H'
end DL
namespace DL
open PySem PySem.Spec PyProof.Rows L2
structure CalK (P : Program) (w : World) (K : PySem.W.Frag) (mg : Str → Option Value) (base : Heap) (k : Nat) (x : Str) (ps : List Str) (R : List D → Str → Prop) (cs : List Str) : Prop where
 ex : ∃ (f : Addr) (fd : FuncData),FnOk P w K mg base CX0 k f fd ps (spK K mg R ps.length cs) ∧ mg x = some (.ref f) ∧ PySem.W.keepIn K (.ref f) = true ∧ Binds K fd ps []
structure Kin (K : PySem.W.Frag) (mg : Str → Option Value) (c : Str) (C C1 C2 : Addr) : Prop where
 at_ : mg c = some (.ref C)
 ex : ExCls K C
 no : PySem.W.kitAny K (.ref C) [.ref C1,.ref C2] = some false
 yes : PySem.W.kitOne K (.ref C) (.ref C) = some true
 val : PySem.W.kitOne K (.ref C) (.type "ValueError") = some true
open Classical in
noncomputable def askedV (R : List D → Str → Prop) (c : Str) (ds : List D) : Out Val := if R ds c then .ok (.pers (.bl true)) else .bad
end DL
namespace DL
open PySem PySem.Spec PyProof.Rows L2
@[simp] noncomputable def frzE (i : Nat) (env : Ev) : Ev := match env[i]? with
  | some (.own ds) => env.set i (.pers (.lst ds))
  | _ => env
@[simp] noncomputable def frzS (i : Nat) (g : FS) : FS := fun env => g (frzE i env)
theorem DI.freeze {K : PySem.W.Frag} {G₀ H₀ G H : Hp} {env : Ev} {σ : St} {i : Nat} {ds : List D} (I : DI K G₀ H₀ env σ G H) (e : env[i]? = some (.own ds)) : ∃ G',Same G G' ∧ DI K G₀ H₀ (env.set i (.pers (.lst ds))) σ G' H := by
 obtain ⟨a,vs,o⟩ := I.own e
 have s' : Same G (upd G a (.lst vs)) := fun b u q => by rw [zG (zC q o.gn)]; exact q
 refine ⟨upd G a (.lst vs),s',⟨fun b u q => ?_,⟨I.gr.g.trans s',I.gr.h,fun b h1 h2 => ?_⟩,by simp [I.len],fun j s e' => ?_,fun j k ds' es b hjk e1 e2 s1 s2 => ?_⟩⟩
 ·by_cases hb : b = a
  ·subst hb; rw [zS] at q; cases q; exact o.hp
  ·rw [zG hb] at q; exact I.le b u q
 ·have hb : b ≠ a := fun z => h1 (z ▸ o.new)
  rw [zG hb]
  exact I.gr.n b h1 h2
 ·by_cases hj : i = j
  ·subst hj
   obtain ⟨rfl,hl⟩ := yn e'
   exact ⟨.ref a,o.at_,a,vs,rfl,zS,o.rep.mono s'⟩
  ·rw [List.getElem?_set_ne hj] at e'
   have q := I.slot j s e'
   cases s with
   | un => trivial
   | pers d' => obtain ⟨u,h1,h2⟩ := q; exact ⟨u,h1,h2.mono s'⟩
   | own es =>
     obtain ⟨b,us,p⟩ := q
     have hb : b ≠ a := fun z => by subst z; exact I.apart i j ds es b hj e e' o.at_ p.at_
     exact ⟨b,us,p.at_,p.hp,by rw [zG hb]; exact p.gn,p.new,p.rep.mono s'⟩
 ·have nj : i ≠ j := fun z => by subst z; cases (yn e1).1
  have nk : i ≠ k := fun z => by subst z; cases (yn e2).1
  rw [List.getElem?_set_ne nj] at e1
  rw [List.getElem?_set_ne nk] at e2
  exact I.apart j k ds' es b hjk e1 e2 s1 s2
theorem zh4 {X : Cx} {G₀ H₀ : Hp} {st : List Stmt} {g : FS} (i : Nat) (h : DSs X G₀ H₀ st g) : DSs X G₀ H₀ st (frzS i g) := by
 intro pins s σ H D I q
 refine h pins s σ H D I ?_
 obtain ⟨env,G,r,d,e,k⟩ := q
 unfold frzS frzE at e
 split at e
 ·rename_i ds ho
  obtain ⟨G',s',d'⟩ := d.freeze ho
  refine ⟨_,G',r,d',e,?_⟩
  cases r with
  | next env' => exact fun σ' G2 H2 q z => k σ' G2 H2 (s'.trans q) z
  | ret v => exact k
 ·exact ⟨env,G,r,d,e,k⟩
end DL
namespace DL
open PySem PySem.Spec PyProof.Rows L2
open Classical in
noncomputable def blkS (R : List D → Str → Prop) (c : Str) (r : Ev → Out (List Val)) (ft : FT) (i n : Nat) : FS := fun env =>
 (r env).bind fun xs => if i < env.length ∧ xs.all Val.isPers = true ∧ xs.length = n ∧ R (xs.map Val.d) c ∧ ft (env.set i .un) = .ok false then .ok (.next (env.set i .un)) else .bad
end DL
namespace DL
open PySem PySem.Spec PyProof.Rows L2
end DL
namespace DL
open PySem
noncomputable def Dt (e : Addr) (d : Option Addr) (h : Heap) : Prop := ∃ o,h.get? e = some o ∧ o.dict = d
end DL
namespace DL
open PySem
noncomputable abbrev dictO (C t : Addr) (dq : Option Addr) (sl : Array (Option Value)) : Obj := ⟨.ref C,dq,.fields #[.ref t,.none,.none,.none,.bool false,.none],sl⟩
section
variable {prog : Program} {w : World} {A : Around} {E : Value → Shared → Prop} {h : Heap} {g : Array GenState} {d : Drawn} {t : Nat} {os : OsState}
variable {nm q : Str} {C N : Addr} {bs bm bmB : List Value} {hdct : Bool} {sn : List Str} {sub : List Value} {ab : Bool} {col : Option Bool} {dd : Option Addr} {k0 k1 k2 k3 k5 : Option Value} {B newId initId : String}
end
section
variable {prog : Program} {w : World} {A : Around} {E : Value → Shared → Prop} {s : Shared} {env : Env}
variable {nm q : Str} {C N : Addr} {bs bm bmB : List Value} {hdct : Bool} {sn : List Str} {sub : List Value} {ab : Bool} {col : Option Bool} {dd : Option Addr} {k0 k1 k2 k3 k5 : Option Value} {B newId initId : String}
end
end DL
namespace DL
open PySem PySem.Spec PyProof.Rows L2 PySem.W PySem.Builtin PySem.Builtin.ObjectAttr
structure LayCls (K : PySem.W.Frag) (C : Addr) (f : Str) : Prop where
 ex : ExCls K C
 hd : hasDictIn K C = true
 sa : findIn K (.ref C) "__setattr__" = some (some (.builtin "object.__setattr__"))
 na : findIn K (.ref C) f = some none
 mr : ∃ cd,clsIn K C = some cd ∧ ∀ self : Value,refuseLoop self "__setattr__" cd.mro = pure ()
section
variable {prog : Program} {w : World} {A : Around} {E : Value → Shared → Prop} {s : Shared} {K : PySem.W.Frag} {e C t : Addr} {f : Str} {v : Value}
end
end DL
namespace DL
open PySem PySem.Spec PyProof.Rows L2
noncomputable abbrev Xc := Str × Option Int
noncomputable abbrev RX := Ev → Xc → Prop
noncomputable def zjF (H : Hp) (dq : Option Addr) : Option Int → Prop
 | none => True
 | some n => ∃ dx,dq = some dx ∧ H dx = some (.xd [("place",.int n)])
noncomputable def CXp (P : Program) (w : World) : CXT := fun outer H s E e s' => ∃ ea cls H' dq,e = .ref ea ∧ Fly P w outer H H' s s' ea cls ∧ Dt ea dq s'.heap ∧ E cls dq H'
structure Made (X : Cx) (H H1 : Hp) (s s1 : Shared) (e C : Addr) (dq : Option Addr) : Prop where
 new : s.heap.get? e = none
 obj : ∃ t sl,s1.heap.get? e = some (dictO C t dq sl)
 hn : H1 e = none
 same : Same H H1
 un : Un (frs X.stack) [] H H1 s.heap s1.heap
 hok : HOk X.prog X.w H1 s1.heap
 os : s1.os = s.os
 bare : AllBare s1.gens
section
variable {X : Cx} {pins : List (Addr × Obj)} {σ : St} {H H1 : Hp} {s s1 : Shared} {e C : Addr} {dq : Option Addr} {cls : Value}
end
section
variable (mk : Bool) (X : Cx) (G₀ H₀ : Hp)
end
section
variable {mk : Bool} {X : Cx} {G₀ H₀ : Hp} {pos : Pos} {R : RX}
noncomputable def spR2 (K : PySem.W.Frag) (mg : Str → Option Value) (R : List D → Xc → Prop) (n : Nat) : Sp := fun vs H _ E => ∃ G ds x,ds.length = n ∧ Same G H ∧ RepL K G ds vs ∧ R ds x ∧
 ∀ C dq G' H',Grow G H G' H' → Same G' H' → mg x.1 = some (.ref C) → zjF H' dq x.2 → E (.ref C) dq H'
structure CalR2 (P : Program) (w : World) (K : PySem.W.Frag) (mg : Str → Option Value) (base : Heap) (k : Nat) (x : Str) (ps : List Str) (R : List D → Xc → Prop) : Prop where
 ex : ∃ (f : Addr) (fd : FuncData),FnOk P w K mg base (CXp P w) k f fd ps (spR2 K mg R ps.length) ∧ mg x = some (.ref f) ∧ PySem.W.keepIn K (.ref f) = true ∧ Binds K fd ps []
end
end DL
namespace DL
open PySem PySem.Spec PyProof.Rows L2
noncomputable abbrev SLs := Array (Option Value)
noncomputable def zjG (e C t : Addr) (sl : SLs) (h : Heap) : Prop := h.get? e = some (dictO C t none sl)
noncomputable def zjE (e C t dx : Addr) (sl : SLs) (h : Heap) : Prop := h.get? e = some (dictO C t (some dx) sl)
section
variable {X : Cx} {o value : Expr} {f : Str} {pos pos' : Pos} {ta tv : TE}
end
noncomputable def spInit (K : PySem.W.Frag) (f : Str) : Sp := fun vs H Q _ => ∃ e C t sl y,vs = [.ref e,y] ∧ H e = some (.ext (zjG e C t sl)) ∧ LayCls K C f ∧ ∀ dx,H dx = none → Q .non (upd (upd H dx (.xd [(f,y)])) e (.ext (zjE e C t dx sl)))
structure InitCls (P : Program) (w : World) (K : PySem.W.Frag) (mg : Str → Option Value) (base : Heap) (k : Nat) (c : Str) (C : Addr) : Prop where
 at_ : mg c = some (.ref C)
 lay : LayCls K C "place"
 obj : ∃ B dd nm bs ns qn hd sn sub ab col k0 k1 k2 k3 k5,K.lookup C = some (excClassObj nm qn C ns bs (.ref B :: bmVal) hd sn sub ab col dd k0 k1 k2 k3 k5 "ValueError.__new__") ∧ PySem.W.excIn K B bmVal "ValueError.__new__" = true
 init : ∃ fI fd od sl ps,PySem.W.findIn K (.ref C) "__init__" = some (some (.ref fI)) ∧ K.lookup fI = some ⟨.type "function",od,.func fd,sl⟩ ∧ FnOk P w K mg base CX0 k fI fd ps (spInit K "place") ∧ Binds K fd ps []
section
variable {X : Cx} {G₀ H₀ : Hp} {pos : Pos} {pins : List (Addr × Obj)} {σ : St} {H : Hp} {s : Shared} {e C : Addr}
end
end DL
namespace DL
open PySem PySem.Spec PyProof.Rows L2
noncomputable def ExcDq (e C : Addr) (dq : Option Addr) (h : Heap) : Prop := ∃ ob,h.get? e = some ob ∧ ob.cls = .ref C ∧ ob.dict = dq ∧ PySem.W.notCls ob = true
section
variable {X : Cx} {pins : List (Addr × Obj)} {σ : St} {H H1 : Hp} {s s1 : Shared} {e C : Addr} {dq : Option Addr}
end
noncomputable def spK2 (K : PySem.W.Frag) (mg : Str → Option Value) (Qt : List D → Prop) (R : List D → Xc → Prop) (n : Nat) (cs : List Str) : Sp := fun vs H Q _ => ∃ G ds,ds.length = n ∧ Same G H ∧ RepL K G ds vs ∧
 ((Qt ds ∧ ∀ G' H',Grow G H G' H' → Same G' H' → Q .non H') ∨ ∃ x,R ds x ∧ x.1 ∈ cs ∧
   ∀ a C dq G' H',Grow G H G' H' → Same G' H' → mg x.1 = some (.ref C) → H' a = some (.ext (ExcDq a C dq)) → zjF H' dq x.2 → Q (.ref a) H')
structure CalK2 (P : Program) (w : World) (K : PySem.W.Frag) (mg : Str → Option Value) (base : Heap) (k : Nat) (x : Str) (ps : List Str) (Qt : List D → Prop) (R : List D → Xc → Prop) (cs : List Str) : Prop where
 ex : ∃ (f : Addr) (fd : FuncData),FnOk P w K mg base CX0 k f fd ps (spK2 K mg Qt R ps.length cs) ∧ mg x = some (.ref f) ∧ PySem.W.keepIn K (.ref f) = true ∧ Binds K fd ps []
end DL
namespace DL
open PySem PySem.Spec PyProof.Rows L2
open Classical in
noncomputable def rightV (Qt : List D → Prop) (R : List D → Xc → Prop) (c : Str) : List D → Out Val
 | [p,r,due,way] => if due = .non ∧ Qt [p,r,way] then .ok (.pers (.bl true)) else if ∃ n,due = .int n ∧ R [p,r,way] (c,some n) then .ok (.pers (.bl true)) else .bad
 | _ => .bad
end DL
namespace DL
open PySem PySem.Spec PyProof.Rows L2
open Classical in
noncomputable def whoS (Qt : List D → Prop) (R : List D → Xc → Prop) (r : Ev → Out (List Val)) (ftn fte : FT) (fdue fali : FE) : FS := fun env => (r env).bind fun xs =>
 if xs.all Val.isPers = true ∧ xs.length = 3 ∧ ((∃ n,ftn env = .ok true ∧ fdue env = .ok (.pers (.int n)) ∧ R (xs.map Val.d) ("NoRope",some n)) ∨ (ftn env = .ok false ∧ fte env = .ok true ∧ Qt (xs.map Val.d) ∧ fali env = .ok (.pers (.bl true))) ∨
  (ftn env = .ok false ∧ fte env = .ok false ∧ R (xs.map Val.d) ("NoEnds",none))) then .ok (.ret (.pers (.bl true))) else .bad
end DL
namespace DL
open PySem PySem.Spec PyProof.Rows L2
noncomputable abbrev Tri (h : Heap) (T : Addr) (a b c : Value) : Prop := h.get? T = some { cls := .type "tuple",data := .seq #[a,b,c] }
theorem nq {a b : Nat} (h : a ≠ b) : @Ne Addr a b := h
section
variable {prog : Program} {w : World} {A : Around} {E : Value → Shared → Prop} {s : Shared}
theorem uI {T : Addr} {a b c x : Value} {k : Nat} {Q : Unit → Shared → Prop} (hT : Tri s.heap T a b c)
 (h : ∀ h',h'.get? T = some { cls := .type "tuple",data := .seq ((#[a,b,c] : Array Value).setIfInBounds k x) } → Heap.SameBut T s.heap h' → Q () { s with heap := h' }) :
 wpAny (model prog w) A (updateSeq T (·.setIfInBounds k x)) Q E s := by
 refine wpAny_updateSeq hT rfl (h _ ?_ (Heap.SameBut.update ..))
 rw [Heap.get?_update_self _ hT rfl]
 simp [Obj.mapSeq]
structure Z3 (h : Heap) (m l1 l2 l3 : Nat) (f : Value) (i : Nat) : Prop where
 z : IsZip h (m + 5) (m + 3) (m + 4) f
 ti : Tri h (m + 3) (.ref m) (.ref (m + 1)) (.ref (m + 2))
 to : ∃ a b c,Tri h (m + 4) a b c
 p1 : h.IsListIter m l1 i
 p2 : h.IsListIter (m + 1) l2 i
 p3 : h.IsListIter (m + 2) l3 i
noncomputable def fp3 (m : Nat) : List Addr := [m + 5,m + 4,m + 3,m,m + 1,m + 2]
theorem zhe {m l1 l2 l3 : Nat} {k : Nat} {xs ys zs : Array Value} {x y v : Value} {Q : Value → Shared → Prop} (st : Z3 s.heap m l1 l2 l3 .none k) (n1 : l1 < m) (n2 : l2 < m) (n3 : l3 < m)
 (hl1 : s.heap.IsList l1 xs) (hl2 : s.heap.IsList l2 ys) (hl3 : s.heap.IsList l3 zs) (hx : xs[k]? = some x) (hy : ys[k]? = some y) (hv : zs[k]? = some v)
 (hQ : ∀ h',Z3 h' m l1 l2 l3 (rawInt s.heap.objs.size) (k + 1) → Tri h' s.heap.objs.size x y v → h'.objs.size = s.heap.objs.size + 1 →
  (∀ c o,c ∉ fp3 m → s.heap.get? c = some o → h'.get? c = some o) → Q (.ref s.heap.objs.size) { s with heap := h' }) :
 wpAny (model prog w) A (Builtin.«zip.__next__» ⟨[.ref (m + 5)],[]⟩) (fun fin s' => ∃ v,fin = .done (.ret v) ∧ Q v s') E s := by
 obtain ⟨hz,hTI,⟨a,b,c,hTO⟩,h1,h2,h3⟩ := st
 show wpAny _ _ (field (.ref (m + 5)) 2 >>= _) _ _ _
 refine wpAny_bind (wpAny_field hz rfl (x := .bool false) rfl ?_)
 show wpAny _ _ (field (.ref (m + 5)) 3 >>= _) _ _ _
 refine wpAny_bind (wpAny_field hz rfl (x := .ref (m + 3)) rfl ?_)
 refine wpAny_bind (wpAny_seqItems hTI rfl ?_)
 show wpAny _ _ (Builtin.SmallTypes.ownedTupleIsFree (.ref (m + 5)) >>= _) _ _ _
 refine wpAny_bind ?_
 unfold Builtin.SmallTypes.ownedTupleIsFree
 refine wpAny_bind (wpAny_field hz rfl (x := .none) rfl (wpAny_pure ?_))
 simp only [if_true]
 refine wpAny_bind (wpAny_rule ?_)
 refine wpAny_bind (wpAny_field hz rfl (x := .ref (m + 4)) rfl ?_)
 refine wpAny_bind (wpAny_setField_rec hz (by simp) fun ha za sa => ?_)
 replace za : IsZip ha (m + 5) (m + 3) (m + 4) .ellipsis := za
 refine wpAny_bind ?_
 simp only [List.zipIdx_cons,List.zipIdx_nil,List.forIn_cons,List.forIn_nil]
 refine wpAny_bind (wpAny_bind (wpAny_onRaise ?_))
 show wpAny _ _ (Builtin.SmallTypes.nextOf (.ref m) >>= _) _ _ _
 refine wpAny_bind (wpAny_nextOf_list_item (h1.extBut sa.extBut (nq (by lia))) (hl1.extBut sa.extBut (nq (by lia))) hx fun hb ib sb => wpAny_pure ?_)
 have tb : Tri hb (m + 4) a b c := sb.extBut _ _ (nq (by lia)) (sa.extBut _ _ (nq (by lia)) hTO)
 refine wpAny_bind (wpAny_seqItems tb rfl ?_)
 refine wpAny_bind (uI tb fun hc tc sc => ?_)
 replace tc : Tri hc (m + 4) x b c := tc
 refine wpAny_bind (wpAny_letGo (wpAny_pure ?_))
 have k1 : ∀ u o,u ∉ fp3 m → s.heap.get? u = some o → hc.get? u = some o := fun u o hu e => by
  simp only [fp3,List.mem_cons,List.not_mem_nil,or_false,not_or] at hu
  exact sc.extBut _ _ hu.2.1 (sb.extBut _ _ hu.2.2.2.1 (sa.extBut _ _ hu.1 e))
 have j2 : hc.IsListIter (m + 1) l2 k := ((h2.extBut sa.extBut (nq (by lia))).extBut sb.extBut (nq (by lia))).extBut sc.extBut (nq (by lia))
 have j3 : hc.IsListIter (m + 2) l3 k := ((h3.extBut sa.extBut (nq (by lia))).extBut sb.extBut (nq (by lia))).extBut sc.extBut (nq (by lia))
 have L2 : hc.IsList l2 ys := ((hl2.extBut sa.extBut (nq (by lia))).extBut sb.extBut (nq (by lia))).extBut sc.extBut (nq (by lia))
 have L3 : hc.IsList l3 zs := ((hl3.extBut sa.extBut (nq (by lia))).extBut sb.extBut (nq (by lia))).extBut sc.extBut (nq (by lia))
 have zc : IsZip hc (m + 5) (m + 3) (m + 4) .ellipsis := sc.extBut _ _ (nq (by lia)) (sb.extBut _ _ (nq (by lia)) za)
 have uc : Tri hc (m + 3) (.ref m) (.ref (m + 1)) (.ref (m + 2)) := sc.extBut _ _ (nq (by lia)) (sb.extBut _ _ (nq (by lia)) (sa.extBut _ _ (nq (by lia)) hTI))
 have ic : hc.IsListIter m l1 (k + 1) := ib.extBut sc.extBut (nq (by lia))
 have zsz : hc.objs.size = s.heap.objs.size := by rw [sc.1,sb.1,sa.1]
 clear sa sb sc tb ib za hTO h1 h2 h3
 refine wpAny_bind (wpAny_bind (wpAny_onRaise ?_))
 show wpAny _ _ (Builtin.SmallTypes.nextOf (.ref (m + 1)) >>= _) _ _ _
 refine wpAny_bind (wpAny_nextOf_list_item j2 L2 hy fun hd id sd => wpAny_pure ?_)
 have td : Tri hd (m + 4) x b c := sd.extBut _ _ (nq (by lia)) tc
 refine wpAny_bind (wpAny_seqItems td rfl ?_)
 refine wpAny_bind (uI td fun he te se => ?_)
 replace te : Tri he (m + 4) x y c := te
 refine wpAny_bind (wpAny_letGo (wpAny_pure ?_))
 have k2 : ∀ u o,u ∉ fp3 m → s.heap.get? u = some o → he.get? u = some o := fun u o hu e => by
  have e := k1 u o hu e
  simp only [fp3,List.mem_cons,List.not_mem_nil,or_false,not_or] at hu
  exact se.extBut _ _ hu.2.1 (sd.extBut _ _ hu.2.2.2.2.1 e)
 have q3 : he.IsListIter (m + 2) l3 k := (j3.extBut sd.extBut (nq (by lia))).extBut se.extBut (nq (by lia))
 have M3 : he.IsList l3 zs := (L3.extBut sd.extBut (nq (by lia))).extBut se.extBut (nq (by lia))
 have ze : IsZip he (m + 5) (m + 3) (m + 4) .ellipsis := se.extBut _ _ (nq (by lia)) (sd.extBut _ _ (nq (by lia)) zc)
 have ue : Tri he (m + 3) (.ref m) (.ref (m + 1)) (.ref (m + 2)) := se.extBut _ _ (nq (by lia)) (sd.extBut _ _ (nq (by lia)) uc)
 have ie : he.IsListIter m l1 (k + 1) := (ic.extBut sd.extBut (nq (by lia))).extBut se.extBut (nq (by lia))
 have je : he.IsListIter (m + 1) l2 (k + 1) := id.extBut se.extBut (nq (by lia))
 have zsz2 : he.objs.size = s.heap.objs.size := by rw [se.1,sd.1]; exact zsz
 clear sd se td id zc uc ic tc j2 j3 L2 L3 zsz
 refine wpAny_bind (wpAny_bind (wpAny_onRaise ?_))
 show wpAny _ _ (Builtin.SmallTypes.nextOf (.ref (m + 2)) >>= _) _ _ _
 refine wpAny_bind (wpAny_nextOf_list_item q3 M3 hv fun hf jf sf => wpAny_pure ?_)
 have tf : Tri hf (m + 4) x y c := sf.extBut _ _ (nq (by lia)) te
 refine wpAny_bind (wpAny_seqItems tf rfl ?_)
 refine wpAny_bind (uI tf fun hg tg sg => ?_)
 replace tg : Tri hg (m + 4) x y v := tg
 refine wpAny_bind (wpAny_letGo (wpAny_pure (wpAny_pure ?_)))
 have k3 : ∀ u o,u ∉ fp3 m → s.heap.get? u = some o → hg.get? u = some o := fun u o hu e => by
  have e := k2 u o hu e
  simp only [fp3,List.mem_cons,List.not_mem_nil,or_false,not_or] at hu
  exact sg.extBut _ _ hu.2.1 (sf.extBut _ _ hu.2.2.2.2.2 e)
 have zg : IsZip hg (m + 5) (m + 3) (m + 4) .ellipsis := sg.extBut _ _ (nq (by lia)) (sf.extBut _ _ (nq (by lia)) ze)
 have ug : Tri hg (m + 3) (.ref m) (.ref (m + 1)) (.ref (m + 2)) := sg.extBut _ _ (nq (by lia)) (sf.extBut _ _ (nq (by lia)) ue)
 have ig : hg.IsListIter m l1 (k + 1) := (ie.extBut sf.extBut (nq (by lia))).extBut sg.extBut (nq (by lia))
 have jg : hg.IsListIter (m + 1) l2 (k + 1) := (je.extBut sf.extBut (nq (by lia))).extBut sg.extBut (nq (by lia))
 have qg : hg.IsListIter (m + 2) l3 (k + 1) := jf.extBut sg.extBut (nq (by lia))
 have hsz : hg.objs.size = s.heap.objs.size := by rw [sg.1,sf.1]; exact zsz2
 refine wpAny_bind (wpAny_seqItems tg rfl ?_)
 refine wpAny_bind (wpAny_newTuple ?_)
 have lt : m + 5 < hg.objs.size := Heap.lt_size zg
 show wpAny _ _ (Builtin.SmallTypes.ownedTupleHandOut (.ref (m + 5)) (.ref hg.objs.size) >>= _) _ _ _
 refine wpAny_bind ?_
 unfold Builtin.SmallTypes.ownedTupleHandOut
 have zp : IsZip (hg.push { cls := .type "tuple",data := .seq #[x,y,v] }) (m + 5) (m + 3) (m + 4) .ellipsis := Heap.get?_push_of_some _ zg
 refine wpAny_bind (wpAny_setField_rec zp (by simp) fun hr zr sr => ?_)
 replace zr : IsZip hr (m + 5) (m + 3) (m + 4) (rawInt hg.objs.size) := zr
 refine wpAny_setField_rec zr (by simp) fun ht zt st => ?_
 replace zt : IsZip ht (m + 5) (m + 3) (m + 4) (rawInt hg.objs.size) := zt
 have up : ∀ u o,u ≠ m + 5 → hg.get? u = some o → ht.get? u = some o := fun u o hu e => st.extBut _ _ hu (sr.extBut _ _ hu (Heap.get?_push_of_some _ e))
 have nt : Tri ht hg.objs.size x y v := st.extBut _ _ (Nat.ne_of_gt lt) (sr.extBut _ _ (Nat.ne_of_gt lt) (Heap.get?_push_size _ rfl))
 have tsz : ht.objs.size = hg.objs.size + 1 := by rw [st.1,sr.1,Heap.size_push]
 rw [hsz] at zt nt tsz
 refine wpAny_pure ⟨_,rfl,?_⟩
 show Q (.ref hg.objs.size) _
 rw [hsz]
 refine hQ ht ⟨zt,up _ _ (nq (by lia)) ug,⟨x,y,v,up _ _ (nq (by lia)) tg⟩,ig.at fun o e => up _ o (nq (by lia)) e,jg.at fun o e => up _ o (nq (by lia)) e,qg.at fun o e => up _ o (nq (by lia)) e⟩ nt tsz fun u o hu e => up u o (fun q => hu (by simp [fp3,q])) (k3 u o hu e)
theorem zij {m l1 l2 l3 : Nat} {k : Nat} {xs ys zs : Array Value} {Q : Fin → Shared → Prop} (hh : A.handled = none) (st : Z3 s.heap m l1 l2 l3 .none k) (n1 : l1 < m) (n2 : l2 < m) (n3 : l3 < m)
 (hl1 : s.heap.IsList l1 xs) (hl2 : s.heap.IsList l2 ys) (hl3 : s.heap.IsList l3 zs) (hend : xs[k]? = none ∨ ys[k]? = none ∨ zs[k]? = none)
 (hE : ∀ h' e,(∀ c o,c ∉ fp3 m → s.heap.get? c = some o → h'.get? c = some o) → (∃ o,h'.get? e = some o ∧ o.cls = .type "StopIteration") → E (.ref e) { s with heap := h' }) :
 wpAny (model prog w) A (Builtin.«zip.__next__» ⟨[.ref (m + 5)],[]⟩) Q E s := by
 obtain ⟨hz,hTI,⟨a,b,c,hTO⟩,h1,h2,h3⟩ := st
 have stop : ∀ (hp : Heap) (e : Addr) (k0 : ∀ u o,u ∉ fp3 m → s.heap.get? u = some o → hp.get? u = some o) (ze : IsZip hp (m + 5) (m + 3) (m + 4) .ellipsis) (oe : Obj) (hoe : hp.get? e = some oe) (hce : oe.cls = .type "StopIteration") (Q' : Unit → Shared → Prop) (hq : ∀ h',(∀ c o,c ∉ fp3 m → s.heap.get? c = some o → h'.get? c = some o) → (∃ o,h'.get? e = some o ∧ o.cls = .type "StopIteration") → Q' () { s with heap := h' }),
  wpAny (model prog w) A (setField (.ref (m + 5)) 0 .none) Q' E { s with heap := hp } := by
  intro hp e k0 ze oe hoe hce Q' hq
  have hez : e ≠ m + 5 := fun x => by subst x; rw [ze] at hoe; cases hoe; simp at hce
  refine wpAny_setField_rec ze (by simp) fun hr _ sr => hq hr (fun u o hu q => ?_) ⟨oe,sr.extBut _ _ hez hoe,hce⟩
  refine sr.extBut _ _ (fun z => hu (by simp [fp3,z])) (k0 u o hu q)
 show wpAny _ _ (field (.ref (m + 5)) 2 >>= _) _ _ _
 refine wpAny_bind (wpAny_field hz rfl (x := .bool false) rfl ?_)
 show wpAny _ _ (field (.ref (m + 5)) 3 >>= _) _ _ _
 refine wpAny_bind (wpAny_field hz rfl (x := .ref (m + 3)) rfl ?_)
 refine wpAny_bind (wpAny_seqItems hTI rfl ?_)
 show wpAny _ _ (Builtin.SmallTypes.ownedTupleIsFree (.ref (m + 5)) >>= _) _ _ _
 refine wpAny_bind ?_
 unfold Builtin.SmallTypes.ownedTupleIsFree
 refine wpAny_bind (wpAny_field hz rfl (x := .none) rfl (wpAny_pure ?_))
 simp only [if_true]
 refine wpAny_bind (wpAny_rule ?_)
 refine wpAny_bind (wpAny_field hz rfl (x := .ref (m + 4)) rfl ?_)
 refine wpAny_bind (wpAny_setField_rec hz (by simp) fun ha za sa => ?_)
 replace za : IsZip ha (m + 5) (m + 3) (m + 4) .ellipsis := za
 refine wpAny_bind ?_
 simp only [List.zipIdx_cons,List.zipIdx_nil,List.forIn_cons,List.forIn_nil]
 refine wpAny_bind (wpAny_bind (wpAny_onRaise ?_))
 show wpAny _ _ (Builtin.SmallTypes.nextOf (.ref m) >>= _) _ _ _
 have g1 : ha.IsListIter m l1 k := h1.extBut sa.extBut (nq (by lia))
 have gl : ha.IsList l1 xs := hl1.extBut sa.extBut (nq (by lia))
 have ka : ∀ u o,u ∉ fp3 m → s.heap.get? u = some o → ha.get? u = some o := fun u o hu e => sa.extBut _ _ (fun z => hu (by simp [fp3,z])) e
 cases hx : xs[k]? with
 | none =>
   refine wpAny_bind (wpAny_nextOf_list_end hh g1 gl hx fun hb e sb ⟨oe,hoe,hce⟩ => ?_)
   exact stop hb e (fun u o hu q => sb _ _ (fun z => hu (by simp [fp3,z])) (ka u o hu q)) (sb _ _ (nq (by lia)) za) oe hoe hce _ fun h' p q => hE h' e p q
 | some x =>
   refine wpAny_bind (wpAny_nextOf_list_item g1 gl hx fun hb ib sb => wpAny_pure ?_)
   have tb : Tri hb (m + 4) a b c := sb.extBut _ _ (nq (by lia)) (sa.extBut _ _ (nq (by lia)) hTO)
   refine wpAny_bind (wpAny_seqItems tb rfl ?_)
   refine wpAny_bind (uI tb fun hc tc sc => ?_)
   replace tc : Tri hc (m + 4) x b c := tc
   refine wpAny_bind (wpAny_letGo (wpAny_pure ?_))
   have kc : ∀ u o,u ∉ fp3 m → s.heap.get? u = some o → hc.get? u = some o := fun u o hu e => sc.extBut _ _ (fun z => hu (by simp [fp3,z])) (sb.extBut _ _ (fun z => hu (by simp [fp3,z])) (ka u o hu e))
   have zc : IsZip hc (m + 5) (m + 3) (m + 4) .ellipsis := sc.extBut _ _ (nq (by lia)) (sb.extBut _ _ (nq (by lia)) za)
   have j2 : hc.IsListIter (m + 1) l2 k := ((h2.extBut sa.extBut (nq (by lia))).extBut sb.extBut (nq (by lia))).extBut sc.extBut (nq (by lia))
   have j3 : hc.IsListIter (m + 2) l3 k := ((h3.extBut sa.extBut (nq (by lia))).extBut sb.extBut (nq (by lia))).extBut sc.extBut (nq (by lia))
   have L2 : hc.IsList l2 ys := ((hl2.extBut sa.extBut (nq (by lia))).extBut sb.extBut (nq (by lia))).extBut sc.extBut (nq (by lia))
   have L3 : hc.IsList l3 zs := ((hl3.extBut sa.extBut (nq (by lia))).extBut sb.extBut (nq (by lia))).extBut sc.extBut (nq (by lia))
   refine wpAny_bind (wpAny_bind (wpAny_onRaise ?_))
   show wpAny _ _ (Builtin.SmallTypes.nextOf (.ref (m + 1)) >>= _) _ _ _
   cases hy : ys[k]? with
   | none =>
     refine wpAny_bind (wpAny_nextOf_list_end hh j2 L2 hy fun hd e sd ⟨oe,hoe,hce⟩ => ?_)
     exact stop hd e (fun u o hu q => sd _ _ (fun z => hu (by simp [fp3,z])) (kc u o hu q)) (sd _ _ (nq (by lia)) zc) oe hoe hce _ fun h' p q => hE h' e p q
   | some y =>
     have hv : zs[k]? = none := by
      rcases hend with h | h | h
      ·rw [hx] at h; cases h
      ·rw [hy] at h; cases h
      ·exact h
     refine wpAny_bind (wpAny_nextOf_list_item j2 L2 hy fun hd id sd => wpAny_pure ?_)
     have td : Tri hd (m + 4) x b c := sd.extBut _ _ (nq (by lia)) tc
     refine wpAny_bind (wpAny_seqItems td rfl ?_)
     refine wpAny_bind (uI td fun he te se => ?_)
     refine wpAny_bind (wpAny_letGo (wpAny_pure ?_))
     have ke : ∀ u o,u ∉ fp3 m → s.heap.get? u = some o → he.get? u = some o := fun u o hu e => se.extBut _ _ (fun z => hu (by simp [fp3,z])) (sd.extBut _ _ (fun z => hu (by simp [fp3,z])) (kc u o hu e))
     have ze : IsZip he (m + 5) (m + 3) (m + 4) .ellipsis := se.extBut _ _ (nq (by lia)) (sd.extBut _ _ (nq (by lia)) zc)
     refine wpAny_bind (wpAny_bind (wpAny_onRaise ?_))
     show wpAny _ _ (Builtin.SmallTypes.nextOf (.ref (m + 2)) >>= _) _ _ _
     refine wpAny_bind (wpAny_nextOf_list_end hh ((j3.extBut sd.extBut (nq (by lia))).extBut se.extBut (nq (by lia))) ((L3.extBut sd.extBut (nq (by lia))).extBut se.extBut (nq (by lia))) hv fun hf e sf ⟨oe,hoe,hce⟩ => ?_)
     exact stop hf e (fun u o hu q => sf _ _ (fun z => hu (by simp [fp3,z])) (ke u o hu q)) (sf _ _ (nq (by lia)) ze) oe hoe hce _ fun h' p q => hE h' e p q
end
end DL
namespace DL
open PySem PySem.Spec PyProof.Rows L2
section
variable {prog : Program} {w : World} {A : Around} {E : Value → Shared → Prop} {s : Shared}
theorem zhd {m l1 l2 l3 : Nat} {k : Nat} {xs ys zs : Array Value} {x y v : Value} {Q : Option Value → Shared → Prop} (st : Z3 s.heap m l1 l2 l3 .none k) (n1 : l1 < m) (n2 : l2 < m) (n3 : l3 < m)
 (hl1 : s.heap.IsList l1 xs) (hl2 : s.heap.IsList l2 ys) (hl3 : s.heap.IsList l3 zs) (hx : xs[k]? = some x) (hy : ys[k]? = some y) (hv : zs[k]? = some v)
 (hQ : ∀ h',Z3 h' m l1 l2 l3 (rawInt s.heap.objs.size) (k + 1) → Tri h' s.heap.objs.size x y v → h'.objs.size = s.heap.objs.size + 1 →
  (∀ c o,c ∉ fp3 m → s.heap.get? c = some o → h'.get? c = some o) → Q (some (.ref s.heap.objs.size)) { s with heap := h' }) : wpAny (model prog w) A (pyNext (.ref (m + 5))) Q E s := by
 have hT : s.TypeIs (.ref (m + 5)) "zip" := ⟨_,st.z,rfl⟩
 unfold pyNext
 exact wpAny_bind (wpAny_attempt (wpAny_callSpecial?_slot (name := Str.ofString "__next__") hT PySem.F.slot_zip_next (wpAny_call_entry PySem.F.slot_zip_next hT PySem.F.entry_zip_next (zhe st n1 n2 n3 hl1 hl2 hl3 hx hy hv fun h' a1 a2 a3 a4 => wpAny_pure (hQ h' a1 a2 a3 a4)) (PySem.F.args_zip_next_1 _))))
theorem zhc {m l1 l2 l3 : Nat} {k : Nat} {xs ys zs : Array Value} {Q : Option Value → Shared → Prop} (hh : A.handled = none) (st : Z3 s.heap m l1 l2 l3 .none k) (n1 : l1 < m) (n2 : l2 < m) (n3 : l3 < m)
 (hl1 : s.heap.IsList l1 xs) (hl2 : s.heap.IsList l2 ys) (hl3 : s.heap.IsList l3 zs) (hend : xs[k]? = none ∨ ys[k]? = none ∨ zs[k]? = none)
 (hQ : ∀ h',(∀ c o,c ∉ fp3 m → s.heap.get? c = some o → h'.get? c = some o) → Q none { s with heap := h' }) : wpAny (model prog w) A (pyNext (.ref (m + 5))) Q E s := by
 have hT : s.TypeIs (.ref (m + 5)) "zip" := ⟨_,st.z,rfl⟩
 unfold pyNext
 refine wpAny_bind (wpAny_attempt (wpAny_callSpecial?_slot (name := Str.ofString "__next__") hT PySem.F.slot_zip_next (wpAny_call_entry PySem.F.slot_zip_next hT PySem.F.entry_zip_next (zij hh st n1 n2 n3 hl1 hl2 hl3 hend fun h' e hk he => ?_) (PySem.F.args_zip_next_1 _))))
 obtain ⟨o,ho,hc⟩ := he
 refine wpAny_bind (wpAny_isInstance (T := "StopIteration") (b := true) ⟨o,ho,hc⟩ isSubtype_stop ?_)
 exact wpAny_pure (hQ _ hk)
end
noncomputable def It3 (K : PySem.W.Frag) (l1 l2 l3 : Addr) : It :=
 ⟨fun i H => ∃ xs ys zs x y z,SqL K H l1 xs ∧ SqL K H l2 ys ∧ SqL K H l3 zs ∧ xs[i]? = some x ∧ ys[i]? = some y ∧ zs[i]? = some z,
  fun i H x H' => ∃ T a b c,x = .ref T ∧ H T = none ∧ H' = upd H T (.tup [a,b,c]) ∧ (∀ xs,SqL K H l1 xs → xs[i]? = some a) ∧ (∀ xs,SqL K H l2 xs → xs[i]? = some b) ∧ (∀ xs,SqL K H l3 xs → xs[i]? = some c),
  fun i H => ∃ xs ys zs,SqL K H l1 xs ∧ SqL K H l2 ys ∧ SqL K H l3 zs ∧ (xs.length ≤ i ∨ ys.length ≤ i ∨ zs.length ≤ i)⟩
theorem zd2 {P : Program} {w : World} {K : PySem.W.Frag} {elts : List Expr} {kk : Nat} {pos : Pos} {m l1 l2 l3 : Nat} (n1 : l1 < m) (n2 : l2 < m) (n3 : l3 < m) : Turn P w K (.Tuple elts kk pos) (It3 K l1 l2 l3) (fp3 m) (m + 5) (fun i h => Z3 h m l1 l2 l3 .none i) where
 mem := by simp [fp3]
 obj := fun i h st b hb => by
  obtain ⟨hz,hTI,⟨a,b',c,hTO⟩,⟨o1,e1,c1,d1⟩,⟨o2,e2,c2,d2⟩,⟨o3,e3,c3,d3⟩⟩ := st
  simp only [fp3,List.mem_cons,List.not_mem_nil,or_false] at hb
  rcases hb with rfl | rfl | rfl | rfl | rfl | rfl
  ·exact ⟨_,hz,fun v z => by cases (show Data.fields _ = Data.cell v from z)⟩
  ·exact ⟨_,hTO,fun v z => by cases (show Data.seq _ _ = Data.cell v from z)⟩
  ·exact ⟨_,hTI,fun v z => by cases (show Data.seq _ _ = Data.cell v from z)⟩
  ·exact ⟨o1,e1,fun v z => by rw [d1] at z; cases z⟩
  ·exact ⟨o2,e2,fun v z => by rw [d2] at z; cases z⟩
  ·exact ⟨o3,e3,fun v z => by rw [d3] at z; cases z⟩
 keep := fun i h h' st k => by
  obtain ⟨hz,hTI,⟨a,b,c,hTO⟩,h1,h2,h3⟩ := st
  exact ⟨k _ (by simp [fp3]) _ hz,k _ (by simp [fp3]) _ hTI,⟨a,b,c,k _ (by simp [fp3]) _ hTO⟩,h1.at fun o x => k _ (by simp [fp3]) o x,h2.at fun o x => k _ (by simp [fp3]) o x,h3.at fun o x => k _ (by simp [fp3]) o x⟩
 item := by
  intro X hP hw hK hc i pins s σ H E I hf st hg
  subst hP hw hK
  obtain ⟨xs,ys,zs,x,y,z,q1,q2,q3,hx,hy,hz⟩ := hg
  obtain ⟨is1,rv1,p1,_⟩ := I.list q1
  obtain ⟨is2,rv2,p2,_⟩ := I.list q2
  obtain ⟨is3,rv3,p3,_⟩ := I.list q3
  obtain ⟨u1,hu1,ru1⟩ := rv1.get hx
  obtain ⟨u2,hu2,ru2⟩ := rv2.get hy
  obtain ⟨u3,hu3,ru3⟩ := rv3.get hz
  refine zhd st n1 n2 n3 p1.isList p2.isList p3.isList (by simpa using hu1) (by simpa using hu2) (by simpa using hu3) fun h' z' t' sz' k' => ?_
  have hzlt : m + 5 < s.heap.objs.size := Heap.lt_size st.z
  refine ⟨.ref s.heap.objs.size,rfl,wpAny_letOwnedTupleGo_zip z'.z fun h3 hz3 hs3 => ?_⟩
  have hTw : s.heap.objs.size ∉ fp3 m := fun q => by
   simp only [fp3,List.mem_cons,List.not_mem_nil,or_false] at q
   have q : s.heap.objs.size = m + 5 ∨ s.heap.objs.size = m + 4 ∨ s.heap.objs.size = m + 3 ∨ s.heap.objs.size = m ∨ s.heap.objs.size = m + 1 ∨ s.heap.objs.size = m + 2 := q
   lia
  have hne : ∀ {b : Addr},b ∉ fp3 m → b ≠ m + 5 := fun hb q => hb (by simp [fp3,q])
  have hkeep : ∀ b o,b ∉ fp3 m → s.heap.get? b = some o → h3.get? b = some o := fun b o hb eb => hs3.extBut _ _ (hne hb) (k' b o hb eb)
  have hnew : vb X.prog X.w (upd H s.heap.objs.size (.tup [x,y,z])) h3 s.heap.objs.size (.tup [x,y,z]) := ⟨by show 3 ≤ sizeLine; rw [sizeLine_eq]; lia,[u1,u2,u3],.cons ru1 (.cons ru2 (.cons ru3 .nil)),_,hs3.extBut _ _ (hne hTw) t',rfl,_,rfl⟩
  have hHT : H s.heap.objs.size = none := I.hok.fresh (Nat.le_refl _)
  have z4 : Z3 h3 m l1 l2 l3 .none (i + 1) := by
   obtain ⟨_,b1,⟨a,b,c,b2⟩,b3,b4,b5⟩ := z'
   exact ⟨hz3,hs3.extBut _ _ (nq (by lia)) b1,⟨a,b,c,hs3.extBut _ _ (nq (by lia)) b2⟩,b3.extBut hs3.extBut (nq (by lia)),b4.extBut hs3.extBut (nq (by lia)),b5.extBut hs3.extBut (nq (by lia))⟩
  refine ⟨.ref s.heap.objs.size,_,Inv.turnedL (s := s) (h' := h3) (t' := s.toks) I hf hkeep (Nat.le_refl _) hnew,rfl,⟨_,x,y,z,rfl,hHT,rfl,fun vs hv => by rw [I.list_inj hv q1]; exact hx,fun vs hv => by rw [I.list_inj hv q2]; exact hy,fun vs hv => by rw [I.list_inj hv q3]; exact hz⟩,z4,fun b hb => ?_⟩
  have hbT : b ≠ s.heap.objs.size := fun z => by rw [z] at hb; exact hTw hb
  rw [zG hbT]
  exact (hf b hb).1
 done := by
  intro X hP hw hK hc i pins s σ H E I hf st hg
  subst hP hw hK
  obtain ⟨xs,ys,zs,q1,q2,q3,hend⟩ := hg
  obtain ⟨is1,rv1,p1,_⟩ := I.list q1
  obtain ⟨is2,rv2,p2,_⟩ := I.list q2
  obtain ⟨is3,rv3,p3,_⟩ := I.list q3
  have e1 := rv1.length
  have e2 := rv2.length
  have e3 := rv3.length
  refine zhc (I.ok.hd hc) st n1 n2 n3 p1.isList p2.isList p3.isList ?_ fun h' k' => ⟨rfl,Inv.turnedF (t' := s.toks) I hf k'⟩
  rcases hend with q | q | q
  ·exact .inl (Array.getElem?_eq_none (by simp; lia))
  ·exact .inr (.inl (Array.getElem?_eq_none (by simp; lia)))
  ·exact .inr (.inr (Array.getElem?_eq_none (by simp; lia)))
 self := fun _ _ _ _ _ st h => wpAny_pyIter_zip st.z h
noncomputable def vB : List D → List D → List D → List D
 | a :: x,b :: y,c :: z => .tup [a,b,c] :: vB x y z
 | _,_,_ => []
theorem zbe {a b c : D} : ∀ {x y z : List D} {i : Nat},x[i]? = some a → y[i]? = some b → z[i]? = some c → (vB x y z)[i]? = some (.tup [a,b,c])
 | [],_,_,_,h,_,_ => by simp at h
 | _ :: _,[],_,_,_,h,_ => by simp at h
 | _ :: _,_ :: _,[],_,_,_,h => by simp at h
 | p :: x,q :: y,r :: z,0,h1,h2,h3 => by
   simp at h1 h2 h3
   rw [h1,h2,h3]
   rfl
 | p :: x,q :: y,r :: z,i + 1,h1,h2,h3 => by
   simp only [List.getElem?_cons_succ] at h1 h2 h3
   simp only [vB,List.getElem?_cons_succ]
   exact zbe h1 h2 h3
theorem uw : ∀ x y z : List D,(vB x y z).length = min x.length (min y.length z.length)
 | [],y,z => by simp [vB]
 | p :: x,[],z => by simp [vB]
 | p :: x,q :: y,[] => by simp [vB]
 | p :: x,q :: y,r :: z => by
   have := uw x y z
   simp only [vB,List.length_cons]
   lia
theorem zgq {K : PySem.W.Frag} {G : Hp} {a b c : Addr} {ds es fs : List D} {xs ys zs : List V} (ha : SqL K G a xs) (hb : SqL K G b ys) (hc : SqL K G c zs) (ra : RepL K G ds xs) (rb : RepL K G es ys) (rc : RepL K G fs zs) : JOk K (It3 K a b c) G (vB ds es fs) where
 go := fun i G' H' s l hi => by
  rw [uw,ra.length,rb.length,rc.length] at hi
  exact ⟨xs,ys,zs,xs[i]'(by lia),ys[i]'(by lia),zs[i]'(by lia),l.seq (s.seq ha),l.seq (s.seq hb),l.seq (s.seq hc),List.getElem?_eq_getElem _,List.getElem?_eq_getElem _,List.getElem?_eq_getElem _⟩
 stop := fun i G' H' s l hi => by
  rw [uw,ra.length,rb.length,rc.length] at hi
  exact ⟨xs,ys,zs,l.seq (s.seq ha),l.seq (s.seq hb),l.seq (s.seq hc),by lia⟩
 yld := fun i G' H' x H1 s l hi y => by
  obtain ⟨T,p,q,r,rfl,hT,rfl,hp,hq,hr⟩ := y
  obtain ⟨d1,k1,j1⟩ := ra.get' (hp xs (l.seq (s.seq ha)))
  obtain ⟨d2,k2,j2⟩ := rb.get' (hq ys (l.seq (s.seq hb)))
  obtain ⟨d3,k3,j3⟩ := rc.get' (hr zs (l.seq (s.seq hc)))
  have g := Grow.laidT (o := .tup [p,q,r]) l hT
  exact ⟨.tup [d1,d2,d3],_,zbe k1 k2 k3,g.1,g.2,T,_,rfl,zS,RepL.cons ((j1.mono s).mono g.1.g) (RepL.cons ((j2.mono s).mono g.1.g) (RepL.cons ((j3.mono s).mono g.1.g) RepL.nil))⟩
end DL
namespace DL
open PySem PySem.Spec PyProof.Rows L2
theorem zhi (a b c : Value) : checkTypeCall "zip" ⟨[a,b,c],[]⟩ = pure () := by kernel_rfl
theorem zhP (a b c : Value) : checkBuiltinCall "zip.__new__" ⟨[.type "zip",a,b,c],[]⟩ = pure () := by kernel_rfl
theorem zhL (a b c d : Value) : argsOk "object.__init__" ⟨[a,b,c,d],[]⟩ := by
 unfold argsOk
 rw [signature?_of (id := "object.__init__") (n := ['_','_','t','i','n','i','_','_']) (o := ['t','c','e','j','b','o']) (by kernel_rfl) PySem.F.owner_object]
 kernel_rfl
noncomputable abbrev y1 (h : Heap) (l : Addr) : Heap := h.push { cls := .type "list_iterator",data := .fields #[.ref l,.int 0 0] }
noncomputable abbrev y3 (h : Heap) (a b c : Addr) : Heap := y1 (y1 (y1 h a) b) c
noncomputable abbrev y4 (h : Heap) (a b c : Addr) : Heap := (y3 h a b c).push { cls := .type "tuple",data := .seq #[.ref h.objs.size,.ref (y1 h a).objs.size,.ref (y1 (y1 h a) b).objs.size] }
noncomputable abbrev y5 (h : Heap) (a b c : Addr) : Heap := (y4 h a b c).push { cls := .type "tuple",data := .seq #[.none,.none,.none] }
noncomputable abbrev y6 (h : Heap) (a b c : Addr) : Heap := (y5 h a b c).push { cls := .type "zip",data := .fields #[.none,.bool false,.bool false,.ref (y3 h a b c).objs.size,.ref (y4 h a b c).objs.size] }
theorem zge (a b c : Addr) (xs ys zs : Array Value) :
 Meets (Builtin.«zip.__new__» ⟨[.type "zip",.ref a,.ref b,.ref c],[]⟩) (fun _ R s => s.heap.IsList a xs ∧ s.heap.IsList b ys ∧ s.heap.IsList c zs ∧ R (.ok (.ret (.ref (y5 s.heap a b c).objs.size))) { s with heap := y6 s.heap a b c }) :=
 .of_wp fun prog w A R s h => by
  obtain ⟨hp,g,d,tk,os⟩ := s
  obtain ⟨hl1,hl2,hl3,h⟩ := h
  have hsub := sub_zip
  have e1 : Heap.IsList (Shared.heap ⟨hp,g,d,tk,os⟩) a xs := hl1
  have e2 : Heap.IsList (Shared.heap ⟨y1 hp a,g,d,tk,os⟩) b ys := Heap.IsList.push hl2 _
  have e3 : Heap.IsList (Shared.heap ⟨y1 (y1 hp a) b,g,d,tk,os⟩) c zs := Heap.IsList.push (Heap.IsList.push hl3 _) _
  wp_walk using wpAny_pyIter_list e1,wpAny_pyIter_list e2,wpAny_pyIter_list e3
  exact ⟨_,rfl,h⟩
section
variable {prog : Program} {w : World} {A : Around} {E : Value → Shared → Prop} {s : Shared}
theorem zfp {a b c : Addr} {xs ys zs : Array Value} {Q : Value → Shared → Prop} (hl1 : s.heap.IsList a xs) (hl2 : s.heap.IsList b ys) (hl3 : s.heap.IsList c zs)
 (h : ∀ h',Z3 h' s.heap.objs.size a b c .none 0 → (∀ u o,s.heap.get? u = some o → h'.get? u = some o) → Q (.ref (s.heap.objs.size + 5)) { s with heap := h' }) :
 wpAny (model prog w) A (call (.type "zip") [.ref a,.ref b,.ref c]) Q E s := by
 refine callType_new PySem.F.called_zip (by decide) (zhi _ _ _) (zhP _ _ _) (fun obj => zhL obj _ _ _) PySem.F.entry_zip_new (zge a b c xs ys zs) ⟨hl1,hl2,hl3,?_⟩
 have z1 : (y1 s.heap a).objs.size = s.heap.objs.size + 1 := Heap.size_push ..
 have z2 : (y1 (y1 s.heap a) b).objs.size = s.heap.objs.size + 2 := by rw [Heap.size_push,z1]
 have z3 : (y3 s.heap a b c).objs.size = s.heap.objs.size + 3 := by rw [Heap.size_push,z2]
 have z4 : (y4 s.heap a b c).objs.size = s.heap.objs.size + 4 := by rw [Heap.size_push,z3]
 have z5 : (y5 s.heap a b c).objs.size = s.heap.objs.size + 5 := by rw [Heap.size_push,z4]
 have g6 : (y6 s.heap a b c).get? (y5 s.heap a b c).objs.size = some _ := Heap.get?_push_size _ rfl
 have g5 : (y6 s.heap a b c).get? (y4 s.heap a b c).objs.size = some _ := Heap.get?_push_of_some _ (Heap.get?_push_size _ rfl)
 have g4 : (y6 s.heap a b c).get? (y3 s.heap a b c).objs.size = some _ := Heap.get?_push_of_some _ (Heap.get?_push_of_some _ (Heap.get?_push_size _ rfl))
 have g3 : (y6 s.heap a b c).get? (y1 (y1 s.heap a) b).objs.size = some _ := Heap.get?_push_of_some _ (Heap.get?_push_of_some _ (Heap.get?_push_of_some _ (Heap.get?_push_size _ rfl)))
 have g2 : (y6 s.heap a b c).get? (y1 s.heap a).objs.size = some _ := Heap.get?_push_of_some _ (Heap.get?_push_of_some _ (Heap.get?_push_of_some _ (Heap.get?_push_of_some _ (Heap.get?_push_size _ rfl))))
 have g1 : (y6 s.heap a b c).get? s.heap.objs.size = some _ := Heap.get?_push_of_some _ (Heap.get?_push_of_some _ (Heap.get?_push_of_some _ (Heap.get?_push_of_some _ (Heap.get?_push_of_some _ (Heap.get?_push_size _ rfl)))))
 show _ ∧ _
 rw [z3,z4,z5] at g6
 rw [z4] at g5
 rw [z1,z2,z3] at g4
 rw [z2] at g3
 rw [z1] at g2
 rw [z5]
 exact ⟨⟨_,g6,rfl⟩,h _ ⟨g6,g4,⟨_,_,_,g5⟩,⟨_,g1,rfl,rfl⟩,⟨_,g2,rfl,rfl⟩,⟨_,g3,rfl,rfl⟩⟩ fun u o x => Heap.get?_push_of_some _ (Heap.get?_push_of_some _ (Heap.get?_push_of_some _ (Heap.get?_push_of_some _ (Heap.get?_push_of_some _ (Heap.get?_push_of_some _ x)))))⟩
end
theorem vals3 {x y z : V} {us : List Value} (r : Vals [x,y,z] us) : ∃ u v t,us = [u,v,t] ∧ RelV x u ∧ RelV y v ∧ RelV z t := by
 cases r with
 | cons r1 r2 =>
   obtain ⟨u,v,rfl,h1,h2⟩ := zhg r2
   exact ⟨_,u,v,rfl,r1,h1,h2⟩
noncomputable def iZip3 (K : PySem.W.Frag) (ta : TA) : TI := fun σ H R => ta σ H fun vs H1 => ∃ a b c,vs = [.ref a,.ref b,.ref c] ∧ (∃ xs,SqL K H1 a xs) ∧ (∃ xs,SqL K H1 b xs) ∧ (∃ xs,SqL K H1 c xs) ∧ R (It3 K a b c) H1
theorem zhB {X : Cx} {elts : List Expr} {kk : Nat} {pos p cpos : Pos} {e1 e2 e3 : Expr} {ta : TA} (hm : X.mg "zip" = none) (ha : PA X [e1,e2,e3] ta) (hg : Gl X "zip" := by rfl) (hs : starEach [e1,e2,e3] X.env = (false,eval e1 X.env) :: starEach [e2,e3] X.env := by rfl)
 (hs2 : starEach [e2,e3] X.env = (false,eval e2 X.env) :: starEach [e3] X.env := by rfl) (hs3 : starEach [e3] X.env = [(false,eval e3 X.env)] := by rfl) : PI X (.Tuple elts kk pos) (.Call (.Name "zip" p) [e1,e2,e3] [] cpos) (iZip3 X.K ta) := by
 intro pins s σ H R I h
 refine Call_ (uU I hg hm boot_zip (PyProof.Rows.callWith_type1 (thn (ha cpos pins s σ H _ I h) fun us s1 ⟨vs,H1,I1,r1,q1⟩ => ?_) hs (by rw [hs2,hs3]; rfl)))
 obtain ⟨a,b,c,rfl,⟨xs,qa⟩,⟨ys,qb⟩,⟨zs,qc⟩,q⟩ := q1
 obtain ⟨u,v,t,rfl,ra,rb,rc⟩ := vals3 r1
 cases (show u = .ref a from ra)
 cases (show v = .ref b from rb)
 cases (show t = .ref c from rc)
 obtain ⟨is1,_,p1,_⟩ := I1.list qa
 obtain ⟨is2,_,p2,_⟩ := I1.list qb
 obtain ⟨is3,_,p3,_⟩ := I1.list qc
 have lt1 : a < s1.heap.objs.size := by obtain ⟨o,ho,_⟩ := p1.isList; exact Heap.lt_size ho
 have lt2 : b < s1.heap.objs.size := by obtain ⟨o,ho,_⟩ := p2.isList; exact Heap.lt_size ho
 have lt3 : c < s1.heap.objs.size := by obtain ⟨o,ho,_⟩ := p3.isList; exact Heap.lt_size ho
 refine zfp p1.isList p2.isList p3.isList fun h' hz hk => ?_
 refine wpAny_pyIter_zip hz.z ?_
 have I2 : Inv X pins σ H1 { s1 with heap := h',toks := s1.toks } := I1.kept (t' := s1.toks) hk
 refine ⟨s1.heap.objs.size + 5,fp3 s1.heap.objs.size,_,It3 X.K a b c,H1,rfl,I2,zd2 lt1 lt2 lt3,hz,fun b hb => ?_,q⟩
 have hb' : s1.heap.objs.size ≤ b := by
  simp only [fp3,List.mem_cons,List.not_mem_nil,or_false] at hb
  rcases hb with rfl | rfl | rfl | rfl | rfl | rfl <;> first | exact Nat.le_add_right _ _ | exact Nat.le_refl _
 exact I1.fpOk hb' (I1.hok.fresh hb')
@[simp] noncomputable def zgx (f g h : FE) : FI := fun env => (f env).bind fun x => x.hold.bind fun d => (g env).bind fun y => y.hold.bind fun e => (h env).bind fun z => z.hold.bind fun c => match d,e,c with
  | .lst ds,.lst es,.lst cs => .ok (vB ds es cs)
  | _,_,_ => .bad
theorem zfh {X : Cx} {G₀ H₀ : Hp} {elts : List Expr} {kk : Nat} {pos p cpos : Pos} {e1 e2 e3 : Expr} {f g h : FE} (hm : X.mg "zip" = none) (h1 : DE X G₀ H₀ e1 f) (h2 : DE X G₀ H₀ e2 g) (h3 : DE X G₀ H₀ e3 h) (hg : Gl X "zip" := by rfl) (hs : starEach [e1,e2,e3] X.env = (false,eval e1 X.env) :: starEach [e2,e3] X.env := by rfl)
 (hs2 : starEach [e2,e3] X.env = (false,eval e2 X.env) :: starEach [e3] X.env := by rfl) (hs3 : starEach [e3] X.env = [(false,eval e3 X.env)] := by rfl) :
 DIt X G₀ H₀ (.Tuple elts kk pos) (.Call (.Name "zip" p) [e1,e2,e3] [] cpos) (zgx f g h) := (zhB hm (xg h1 (xg h2 (xg h3 wU hs3) hs2) hs) hg hs hs2 hs3).imp fun σ H R q => by
 obtain ⟨env,G,ds,I,e,k⟩ := q
 obtain ⟨x,ex,e⟩ := zn e
 obtain ⟨d,hx,e⟩ := zn e
 obtain ⟨y,ey,e⟩ := zn e
 obtain ⟨d',hy,e⟩ := zn e
 obtain ⟨z,ez,e⟩ := zn e
 obtain ⟨d'',hz,e⟩ := zn e
 refine ⟨env,G,x,I,ex,fun v1 G1 H1 g1 l1 o1 => ?_⟩
 obtain ⟨G2,g2,l2,r2⟩ := held g1 l1 o1 hx
 have I2 := I.grow g2 l2
 refine ⟨env,G2,y,I2,ey,fun v2 G3 H3 g3 l3 o3 => ?_⟩
 obtain ⟨G4,g4,l4,r4⟩ := held g3 l3 o3 hy
 have I4 := I2.grow g4 l4
 refine ⟨env,G4,z,I4,ez,fun v3 G5 H5 g5 l5 o5 => ?_⟩
 obtain ⟨G6,g6,l6,r6⟩ := held g5 l5 o5 hz
 split at e
 ·cases e
  obtain ⟨a,xs,rfl,ha,ra⟩ := (r2.mono g4.g).mono g6.g
  obtain ⟨b,ys,rfl,hb,rb⟩ := r4.mono g6.g
  obtain ⟨c,zs,rfl,hc,rc⟩ := r6
  exact ⟨a,b,c,rfl,⟨xs,SqL.of (l6 _ _ ha)⟩,⟨ys,SqL.of (l6 _ _ hb)⟩,⟨zs,SqL.of (l6 _ _ hc)⟩,k _ G6 _ ((g2.trans g4).trans g6) l6 (zgq (SqL.of ha) (SqL.of hb) (SqL.of hc) ra rb rc)⟩
 ·cases e
end DL
namespace DL
open PySem PySem.Spec PyProof.Rows L2
@[simp] noncomputable def zbb (i j : Nat) : FS := fun env => match env[i]?,env[j]? with
  | some (.own ds),some (.own es) => if ds.length < 100000 ∧ i ≠ j then (match es[es.length - 1]? with
    | some d => .ok (.next ((env.set j (.own es.dropLast)).set i (.own (ds ++ [d]))))
    | none => .bad) else .bad
  | _,_ => .bad
section
variable {X : Cx} {G₀ H₀ : Hp} {pos apos cpos p1 apos' cpos' p2 : Pos} {i j : Nat} {x y : Str}
theorem zff (hv : PE X (.Name x p1) (tVar i)) (hw : PE X (.Name y p2) (tVar j)) (hfew : ((backTo cpos (starEach [.Call (.Attribute (.Name y p2) "pop" apos') [] [] cpos'] X.env)).all (fun x => !x.1) && (backToKw cpos (keywordEach [] X.env)).all (fun x => x.1.isSome)
 && decide ([Expr.Call (.Attribute (.Name y p2) "pop" apos') [] [] cpos'].length + ([] : List Keyword).length + (if ([] : List Keyword).isEmpty then 0 else 1) < 30)) = true := by rfl)
 (hline : (apos.endLine == cpos.line) = true := by rfl) (hline' : (apos'.endLine == cpos'.line) = true := by rfl) (hs : starEach [.Call (.Attribute (.Name y p2) "pop" apos') [] [] cpos'] X.env = [(false,eval (.Call (.Attribute (.Name y p2) "pop" apos') [] [] cpos') X.env)] := by rfl) :
 DS X G₀ H₀ (.Expr (.Call (.Attribute (.Name x p1) "append" apos) [.Call (.Attribute (.Name y p2) "pop" apos') [] [] cpos'] [] cpos) pos) (zbb i j) :=
 (zaH (zhH PySem.F.plainAttrs_list PySem.F.slot_list_append PySem.F.type_list_append uR hv (xg (zgV PySem.F.plainAttrs_list PySem.F.slot_list_pop PySem.F.type_list_pop zgY hw rfl hline') wU hs) rfl hfew hline hs rfl) rfl).imp fun D σ H q => by
  obtain ⟨env,G,r,I,e,k⟩ := q
  unfold zbb at e
  split at e
  ·rename_i ds es hd he
   split at e
   ·rename_i hz
    split at e
    ·rename_i d hl
     cases e
     obtain ⟨a,vs,o⟩ := I.own hd
     obtain ⟨b,us,o2⟩ := I.own he
     have hlen := o2.rep.length
     have hlt : es.length - 1 < es.length := (List.getElem?_eq_some_iff.mp hl).1
     have hu : us[us.length - 1]? = some (us[us.length - 1]'(by lia)) := List.getElem?_eq_getElem (by lia)
     obtain ⟨d',hd',rd⟩ := o2.rep.get' hu
     have ed : d' = d := by
      rw [← hlen,hl] at hd'
      exact (Option.some.inj hd').symm
     subst ed
     have I1 := I.mut he o2 o2.rep.dropLast
     have hd1 : (env.set j (.own es.dropLast))[i]? = some (.own ds) := by rw [List.getElem?_set_ne (fun q => hz.2 q.symm)]; exact hd
     obtain ⟨a',vs',o'⟩ := I1.own hd1
     have z := o'.at_
     rw [o.at_] at z
     cases z
     exact ⟨.ref a,o.at_,.inl ⟨rfl,vs,SqL.of o.hp⟩,.ref b,o2.at_,.inl ⟨rfl,us,SqL.of o2.hp⟩,b,us,_,rfl,rfl,o2.hp,hu,a,vs',_,rfl,rfl,o'.hp,by rw [← o'.rep.length,sizeLine_eq]; lia,k σ G _ (Same.refl _) (I1.mut hd1 o' (o'.rep.append (RepL.cons rd RepL.nil)))⟩
    ·cases e
   ·cases e
  ·cases e
end
end DL
namespace DL
open PySem PySem.Spec PyProof.Rows L2
@[simp] noncomputable def gSlS : D → Option Int → Option Int → Out Val
  | .scr ns,lo,hi => .ok (.fresh (cutD (ns.map D.int) lo hi))
  | _,_,_ => .bad
@[simp] noncomputable def fSlS (fa : FE) (fl fh : FO) : FE := fun env => (fa env).bind fun x => (fl env).bind fun l => (fh env).bind fun h => gSlS x.d l h
theorem zg9 {X : Cx} {G₀ H₀ : Hp} {pos p2 : Pos} {a : Expr} {lo hi : Option Expr} {fa : FE} {fl fh : FO} (ha : DE X G₀ H₀ a fa) (hl : DO X G₀ H₀ lo fl) (hh : DO X G₀ H₀ hi fh) : DE X G₀ H₀ (.Subscript a (.Slice lo hi none p2) pos) (fSlS fa fl fh) :=
 (zc0 zef ha hl hh).imp fun σ H Q q => by
  obtain ⟨env,G,val,I,e,k⟩ := q
  obtain ⟨x,e1,e⟩ := zn e
  obtain ⟨l,e2,e⟩ := zn e
  obtain ⟨h,e3,e⟩ := zn e
  refine xQ I e1 fun v G1 H1 g1 l1 I1 o1 => ⟨env,G1,l,I1,e2,fun G2 H2 g2 l2 => ⟨env,G2,h,I1.grow g2 l2,e3,fun G3 H3 g3 l3 => ?_⟩⟩
  have I3 := (I1.grow g2 l2).grow g3 l3
  have o3 := (o1.mono g2.g).mono g3.g
  have g03 := (g1.trans g2).trans g3
  generalize x.d = dx at e o3
  cases dx with
  | scr ns =>
    cases e
    obtain ⟨a',ev,h1⟩ := Opd.scr I3 o3
    refine ⟨a',ns.map V.int,ev,h1,fun p hp => ?_⟩
    have g := Grow.laidL (o := .lst (cutV (ns.map V.int) l h)) l3 hp
    exact k _ G3 _ (g03.trans g.1) g.2 ((xD l3 hp (zcp l h (RepL.ints ns))).base g03.h)
  | lst ds => cases e
  | tup ds => cases e
  | non => cases e
  | bl b => cases e
  | int i => cases e
  | exc c p => cases e
@[simp] noncomputable def zcf : D → D → Out Val
  | .tup xs,.tup ys => if xs ≠ [] ∧ ys ≠ [] ∧ xs.length + ys.length ≤ 1000 then .ok (.pers (.tup (xs ++ ys))) else .bad
  | _,_ => .bad
theorem zhO {K : PySem.W.Frag} : OpD K (ziA K) zcf := by
 intro G₀ H₀ env σ G H v u d1 d2 val Q I o1 o2 e k
 unfold zcf at e
 split at e
 ·rename_i xs ys
  split at e
  ·rename_i hz
   cases e
   obtain ⟨a,vs,e1,h1,r1⟩ := Opd.tup I o1
   obtain ⟨b,us,e2,h2,r2⟩ := Opd.tup I o2
   refine ⟨a,b,vs,us,e1,e2,SqT.of h1,SqT.of h2,fun w => hz.1 (List.eq_nil_of_length_eq_zero (by rw [r1.length,w]; rfl)),uT (by rw [← r1.length,← r2.length]; lia),fun w => absurd (List.eq_nil_of_length_eq_zero (by rw [r2.length,w]; rfl)) hz.2.1,fun _ p hp => ?_⟩
   have g := Grow.laidT (o := .tup (vs ++ us)) I.le hp
   exact k _ _ _ g.1 g.2 (zdX I.le hp (r1.append r2))
  ·cases e
 ·cases e
theorem zh7 {X : Cx} {G₀ H₀ : Hp} {pos : Pos} {a b : Expr} {fa fb : FE} (ha : DE X G₀ H₀ a fa) (hb : DE X G₀ H₀ b fb) : DE X G₀ H₀ (.BinOp a .Add b pos) (f2 zcf fa fb) := zco zhK zhO ha hb
end DL
namespace My
open PySem PySem.Spec PyProof.Rows L2 DL
theorem zjA {α : Type} (xs : List α) (i : Int) (h : 0 ≤ i) : atI xs i = xs[i.toNat]? := by
 unfold atI ixN
 rw [if_pos h]
 split
 ·rfl
 ·rename_i h2
  rw [List.getElem?_eq_none (by lia)]
  rfl
theorem zbW {α : Type} (xs : List α) : atI xs (-1) = xs[xs.length - 1]? := by
 unfold atI ixN
 by_cases h : xs.length = 0
 ·have : xs = [] := List.eq_nil_of_length_eq_zero h
  subst this
  simp
 ·rw [if_neg (by lia),if_pos (by lia)]
  show xs[(-1 + (xs.length : Int)).toNat]? = _
  congr 1
  lia
theorem zbR {i j : Int} (h1 : -(2 ^ 64) < i) (h2 : i < 2 ^ 64) : cMul i j = true := by
 unfold cMul uD
 rw [decide_eq_true h1,decide_eq_true h2]
 rfl
theorem zdp {i j : Int} (h1 : -(2 ^ 64) < j) (h2 : j < 2 ^ 64) : cMul i j = true := by
 unfold cMul uD
 rw [decide_eq_true h1,decide_eq_true h2]
 simp
theorem zic {i j : Int} (h1 : 0 < j) (h2 : j < 2 ^ 250) : cDiv i j = true := by
 unfold cDiv
 rw [decide_eq_true h1,decide_eq_true h2]
 rfl
@[simp] theorem zfv (j : Int) (h1 : 0 ≤ j) (h2 : j ≤ 1000000) : cPow 10 j = true := by
  unfold cPow
  rw [decide_eq_true h1,decide_eq_true h2]
  decide
@[simp] theorem zaX (i j : Int) : eqD (.int i) (.int j) = (i == j) := rfl
@[simp] theorem eqD_nn : eqD .non .non = true := rfl
@[simp] theorem eqD_ni (i : Int) : eqD .non (.int i) = false := rfl
@[simp] theorem eqD_in (i : Int) : eqD (.int i) .non = false := rfl
@[simp] theorem eqD_bb (a b : Bool) : eqD (.bl a) (.bl b) = (a == b) := rfl
@[simp] theorem shal_int (n : Nat) (i : Int) : shal n (.int i) = true := by cases n <;> rfl
@[simp] theorem shal_non (n : Nat) : shal n .non = true := by cases n <;> rfl
@[simp] theorem shal_bl (n : Nat) (b : Bool) : shal n (.bl b) = true := by cases n <;> rfl
@[simp] theorem shal_tup (n : Nat) (ds : List D) : shal (n + 1) (.tup ds) = ds.all (shal n) := rfl
@[simp] theorem zfT (n : Nat) (ds : List D) : shal (n + 1) (.lst ds) = ds.all (shal n) := rfl
theorem ze8 (xs ys : List D) : eqD (.tup xs) (.tup ys) = eqDL xs ys := by simp only [eqD,eqDL,toPy,PyData.eqv]
theorem zaW (xs ys : List D) : eqD (.lst xs) (.lst ys) = eqDL xs ys := by simp only [eqD,eqDL,toPy,PyData.eqv]
theorem vv : eqDL [] [] = true := by simp only [eqDL,xp,PyData.eqvAll]
theorem xw (x y : D) (xs ys : List D) : eqDL (x :: xs) (y :: ys) = (eqD x y && eqDL xs ys) := by simp only [eqDL,eqD,xp,PyData.eqvAll]
theorem zh1 (y : D) (ys : List D) : eqDL [] (y :: ys) = false := by simp only [eqDL,xp,PyData.eqvAll]
theorem zaY (y : D) (ys : List D) : eqDL (y :: ys) [] = false := by simp only [eqDL,xp,PyData.eqvAll]
theorem zdg {α : Type} [DecidableEq α] (f : α → D) (h : ∀ x y,eqD (f x) (f y) = decide (x = y)) : ∀ xs ys : List α,eqDL (xs.map f) (ys.map f) = decide (xs = ys)
 | [],[] => by simp [vv]
 | [],y :: ys => by simp [zh1]
 | x :: xs,[] => by simp [zaY]
 | x :: xs,y :: ys => by
   rw [List.map_cons,List.map_cons,xw,h,zdg f h xs ys]
   by_cases h1 : x = y <;> by_cases h2 : xs = ys <;> simp [h1,h2]
theorem ur {g : D → Ev → Out Ev} {fb : FS} (P : Nat → Ev → Prop) : ∀ (ds : List D) (i : Nat) (env : Ev),P i env →
 (∀ (j : Nat) (d : D) (env : Ev),i ≤ j → ds[j - i]? = some d → P j env → ∃ env1 env2,g d env = .ok env1 ∧ fb env1 = .ok (.next env2) ∧ P (j + 1) env2) →
 ∃ env',forD g fb ds env = .ok (.next env') ∧ P (i + ds.length) env'
 | [],i,env,h,_ => ⟨env,rfl,h⟩
 | d :: ds,i,env,h,step => by
   obtain ⟨env1,env2,e1,e2,h2⟩ := step i d env (Nat.le_refl _) (by simp) h
   obtain ⟨env',e3,h3⟩ := ur P ds (i + 1) env2 h2 fun j d' env hj hd hp => step j d' env (by lia) (by
    have : j - i = (j - (i + 1)) + 1 := by lia
    rw [this]; simpa using hd) hp
   refine ⟨env',?_,?_⟩
   ·simp only [forD,e1,zi,e2]
    exact e3
   ·have : i + (d :: ds).length = i + 1 + ds.length := by simp; lia
    rw [this]; exact h3
theorem zeq {lo : Int} {n j : Nat} {d : D} (h : (rngD lo n)[j]? = some d) : j < n ∧ d = .int (lo + j) := by
 have hj : j < n := by
  have := (List.getElem?_eq_some_iff.mp h).1
  simpa [rngD] using this
 refine ⟨hj,?_⟩
 simp [rngD,hj] at h
 exact h.symm
@[simp] theorem zep (lo : Int) (n : Nat) : (rngD lo n).length = n := by simp [rngD]
theorem yR {α : Type} {g : D → Ev → Out Ev} {ft : FT} {fe : FE} (P : Ev → Prop) (f : α → D) (h : α → Option D) : ∀ (xs : List α) (env : Ev),P env →
 (∀ x env,x ∈ xs → P env → ∃ env1,g (f x) env = .ok env1 ∧ P env1 ∧ ((h x = none ∧ ft env1 = .ok false) ∨ ∃ y v,h x = some y ∧ ft env1 = .ok true ∧ fe env1 = .ok v ∧ v.hold = .ok y)) →
 compD g ft fe (xs.map f) env = .ok (xs.filterMap h)
 | [],env,_,_ => rfl
 | x :: xs,env,hp,step => by
   obtain ⟨env1,e1,p1,r⟩ := step x env (by simp) hp
   have ih := yR P f h xs env1 p1 fun x env hx => step x env (by simp [hx])
   rcases r with ⟨h1,h2⟩ | ⟨y,v,h1,h2,h3,h4⟩
   ·simp only [List.map_cons,compD,e1,zi,h2,List.filterMap_cons,h1]
    exact ih
   ·simp only [List.map_cons,compD,e1,zi,h2,List.filterMap_cons,h1,if_true,h3,h4,ih]
noncomputable def zv (l : Int × List Int) : D := .tup [.int l.1,.lst (l.2.map .int)]
theorem zcj (p q : Int × Int) : eqD (zd p) (zd q) = decide (p = q) := by
 unfold zd
 rw [ze8,xw,xw,vv,zaX,zaX]
 obtain ⟨a,b⟩ := p
 obtain ⟨c,d⟩ := q
 by_cases h1 : a = c <;> by_cases h2 : b = d <;> simp [h1,h2]
theorem zds (p : Int × Int) : ∀ ps : List (Int × Int),(ps.map zd).any (fun z => eqD z (zd p)) = decide (p ∈ ps)
 | [] => by simp
 | q :: ps => by
   rw [List.map_cons,List.any_cons,zds p ps,zcj]
   by_cases h1 : q = p
   ·simp [h1]
   ·have : ¬ p = q := fun h => h1 h.symm
    simp [h1,this]
theorem uF (n : Nat) (p : Int × Int) : shal (n + 1) (zd p) = true := by simp [zd]
theorem cut_take (l : List D) (i : Int) (n : Nat) (hi : i = n) : cutD l none (some i) = l.take n := by
 subst hi
 show (l.drop 0).take ((if (n : Int) < 0 then ((n : Int) + (l.length : Int)).toNat else min (n : Int).toNat l.length) - 0) = l.take n
 rw [if_neg (by lia),Int.toNat_natCast,List.drop_zero,Nat.sub_zero]
 by_cases h : n ≤ l.length
 ·rw [Nat.min_eq_left h]
 ·rw [Nat.min_eq_right (by lia),List.take_of_length_le (Nat.le_refl _),List.take_of_length_le (by lia)]
theorem za0 (l : List D) (i : Int) (n : Nat) (hi : i = n) : cutD l (some i) none = l.drop n := by
 subst hi
 show (l.drop (if (n : Int) < 0 then ((n : Int) + (l.length : Int)).toNat else min (n : Int).toNat l.length)).take (l.length - (if (n : Int) < 0 then ((n : Int) + (l.length : Int)).toNat else min (n : Int).toNat l.length)) = l.drop n
 rw [if_neg (by lia),Int.toNat_natCast,List.take_of_length_le (by rw [List.length_drop]; exact Nat.le_refl _)]
 by_cases h : n ≤ l.length
 ·rw [Nat.min_eq_left h]
 ·rw [Nat.min_eq_right (by lia),List.drop_of_length_le (Nat.le_refl _),List.drop_of_length_le (by lia)]
structure Frm where
 w : Int
 h : Int
 s : Int
 r : Int
 u : Int
structure FrmOk (f : Frm) : Prop where
 w1 : 1 ≤ f.w
 w2 : f.w ≤ 10 ^ 9
 h1 : 1 ≤ f.h
 h2 : f.h ≤ 10 ^ 18
 s1 : -3 ≤ f.s
 s2 : f.s ≤ 3
 r1 : -(10 ^ 30) ≤ f.r
 r2 : f.r ≤ 10 ^ 30
 u1 : -(10 ^ 30) ≤ f.u
 u2 : f.u ≤ 10 ^ 30
noncomputable def wD (ps : List (Int × Int)) : List (Int × List Int) := (ym (ps.map (·.1)).eraseDups).map fun x => (x,ym ((ps.filter fun p => p.1 == x).map (·.2)))
theorem vt : ∀ (n : Nat) (l : List Int),l.length ≤ n → l.eraseDups.length ≤ l.length
 | 0,l,h => by
   have : l = [] := List.eq_nil_of_length_eq_zero (by lia)
   subst this; simp
 | n + 1,[],h => by simp
 | n + 1,a :: l,h => by
   rw [List.eraseDups_cons]
   have h1 : (l.filter fun b => !b == a).length ≤ l.length := List.length_filter_le _ _
   have h2 := vt n (l.filter fun b => !b == a) (by simp at h; lia)
   simp only [List.length_cons]
   lia
theorem zfw (ps : List (Int × Int)) : (wD ps).length ≤ ps.length := by
 unfold wD
 rw [List.length_map,(zU _).length_eq]
 have := vt _ (ps.map (·.1)) (Nat.le_refl _)
 simpa using this
@[reducible] noncomputable def zcd : FS :=
 ifS (fTrB (f2 gEq (fVar 2) (fC (.int 1))))
 (setS 5 true (fTup (zw (fC (.int 4)) (zw (f2 gMod (fVar 4) (fC (.int 13))) (hNil)))))
 (nxtS)
@[reducible] noncomputable def zcb : FS :=
 ifS (fTrB (f2 gEq (fVar 2) (fC (.int 2))))
 (setS 5 true (fTup (zw (f2 gMul (fC (.int 2)) (f2 gMod (fVar 4) (fC (.int 3)))) (zw (f2 gMul (fC (.int 2)) (f2 gMod (f2 gDiv (fVar 4) (fC (.int 3))) (fC (.int 4)))) (hNil)))))
 (nxtS)
@[reducible] noncomputable def zaR : FS :=
 ifS (fTrB (f2 gNin (fVar 5) (fVar 1)))
 (appS 1 (fVar 5))
 (nxtS)
@[reducible] noncomputable def za9 : FS :=
 seqS (setS 4 true (f2 gIx (fVar 0) (f2 gAdd (fC (.int 2)) (fVar 3))))
 (seqS (setS 5 true (fTup (zw (f2 gMul (fC (.int 2)) (f2 gMod (fVar 4) (fC (.int 4)))) (zw (f2 gMod (f2 gDiv (fVar 4) (fC (.int 4))) (fC (.int 9))) (hNil)))))
 (seqS (zcd)
 (seqS (zcb)
 (zaR))))
noncomputable def zbH : FS :=
 seqS (setS 1 false (fLst (hNil)))
 (seqS (setS 2 true (f2 gMod (f2 gIx (fVar 0) (fC (.int 1))) (fC (.int 4))))
 (seqS (forS (zaV (zm (f2 gMod (f2 gIx (fVar 0) (fC (.int 0))) (fC (.int 7))) (fNil))) (gN 3)
 (za9))
 (retS (fVar 1))))
noncomputable def uQ : List D → Out Val := runD 6 zbH
theorem zeH : ∀ ds v,ds.length = 1 → uQ ds = .ok v → runD 6 zbH ds = .ok v := fun _ _ _ h => h
end My
namespace My
open PySem PySem.Spec PyProof.Rows L2 DL
structure Gate where
 x : Int
 lo : Option Int
 hi : Option Int
 w : Int
deriving DecidableEq
noncomputable def optD : Option Int → D
 | none => .non
 | some i => .int i
noncomputable def zh (g : Gate) : D := .tup [.int g.x,optD g.lo,optD g.hi,.int g.w]
theorem zg7 (a b : Option Int) : eqD (optD a) (optD b) = decide (a = b) := by
 cases a with
 | none => cases b <;> simp [optD]
 | some i =>
   cases b with
   | none => simp [optD]
   | some j => by_cases h : i = j <;> simp [optD,h]
theorem zfS (n : Nat) (a : Option Int) : shal n (optD a) = true := by cases a <;> simp [optD]
theorem zh0 (g h : Gate) : eqD (zh g) (zh h) = decide (g = h) := by
 unfold zh
 rw [ze8,xw,xw,xw,xw,vv,zaX,zaX,zg7,zg7]
 obtain ⟨a,b,c,d⟩ := g
 obtain ⟨a',b',c',d'⟩ := h
 by_cases h1 : a = a' <;> by_cases h2 : b = b' <;> by_cases h3 : c = c' <;> by_cases h4 : d = d' <;> simp [h1,h2,h3,h4]
theorem zeh (n : Nat) (g : Gate) : shal (n + 1) (zh g) = true := by simp [zh,zfS]
noncomputable def zig : D → Option (Option Int)
 | .non => some none
 | .int i => some (some i)
 | _ => none
noncomputable def zfC : D → Option Gate
 | .tup [.int x,lo,hi,.int w] => match zig lo,zig hi with
   | some l,some h => some ⟨x,l,h,w⟩
   | _,_ => none
 | _ => none
theorem zfB (a : Option Int) : zig (optD a) = some a := by cases a <;> rfl
theorem zcC (g : Gate) : zfC (zh g) = some g := by
 simp [zfC,zh,zfB]
noncomputable def zcB : List D → Option (List Gate)
 | [] => some []
 | d :: ds => match zfC d,zcB ds with
   | some g,some gs => some (g :: gs)
   | _,_ => none
theorem zcA : ∀ gs : List Gate,zcB (gs.map zh) = some gs
 | [] => rfl
 | g :: gs => by simp [zcB,zcC,zcA gs]
noncomputable def opp (g h : Gate) : Bool := decide (g.x = h.x ∧ g.lo = h.lo ∧ g.hi = h.hi) && !decide (g.w = h.w)
noncomputable def zit (st : List Gate) (g : Gate) : List Gate := match st.getLast? with
 | some t => if opp t g = true then st.dropLast else st ++ [g]
 | none => st ++ [g]
theorem zis (st : List Gate) (g : Gate) : (zit st g).length ≤ st.length + 1 := by
 unfold zit
 split
 ·split <;> simp
  lia
 ·simp
theorem zk {f g : FS} {env env' : Ev} (h : f env = .ok (.next env')) : seqS f g env = g env' := by
 simp only [seqS,h,zi]
theorem zaA {f g : FS} {env : Ev} {v : Val} (h : f env = .ok (.ret v)) : seqS f g env = .ok (.ret v) := by
 simp only [seqS,h,zi]
theorem sIx43 : ¬ (HT.sIx 4 0 none = 0 ∧ HT.sIx 4 4 (some 3) = 4) := by decide
theorem cut3 (a b c d : D) : cutD [a,b,c,d] none (some 3) = [a,b,c] := rfl
noncomputable def Path (n : Nat) : Int → List Gate → Prop
 | h,[] => 0 ≤ h ∧ h ≤ n
 | h,g :: gs => 0 ≤ h ∧ h ≤ n ∧ Path n (h + g.w) gs
noncomputable abbrev Spot := Int × Int
noncomputable def near (a b : Spot) : Prop := -(2 ^ 64) < b.1 - a.1 ∧ b.1 - a.1 < 2 ^ 64
theorem at0 (p : Spot) : atI [D.int p.1,D.int p.2] 0 = some (.int p.1) := rfl
theorem at1 (p : Spot) : atI [D.int p.1,D.int p.2] 1 = some (.int p.2) := rfl
noncomputable def strD (q : Spot × Spot) : D := .tup [zd q.1,zd q.2]
noncomputable def xb (a b p : Spot) : Int := (b.1 - a.1) * (p.2 - a.2) - (b.2 - a.2) * (p.1 - a.1)
noncomputable def xm (a b p : Spot) : Int := if 0 < b.1 - a.1 then xb a b p else -xb a b p
theorem ats0 (q : Spot × Spot) : atI [zd q.1,zd q.2] 0 = some (zd q.1) := rfl
theorem ats1 (q : Spot × Spot) : atI [zd q.1,zd q.2] 1 = some (zd q.2) := rfl
theorem wy {α β : Type} (p : α → Bool) (f : α → β) : ∀ l : List α,l.filterMap (fun x => if p x = true then some (f x) else none) = (l.filter p).map f
 | [] => rfl
 | x :: l => by
   cases h : p x <;> simp [List.filterMap_cons,List.filter_cons,h,wy p f l]
theorem zcK (h : Int → Int) (a : Int) : ∀ n : Nat,∃ m : Nat,m ≤ n ∧ (∀ k : Nat,k ≤ n → h (a + k) ≤ h (a + m)) ∧ (∀ k : Nat,k < m → h (a + k) < h (a + m))
 | 0 => ⟨0,by lia,fun k hk => by rw [show k = 0 by lia]; exact Int.le_refl _,fun k hk => by lia⟩
 | n + 1 => by
   obtain ⟨m,h1,h2,h3⟩ := zcK h a n
   by_cases hh : h (a + m) < h (a + (n + 1 : Nat))
   ·refine ⟨n + 1,by lia,fun k hk => ?_,fun k hk => ?_⟩
    ·by_cases z : k ≤ n
     ·have := h2 k z; lia
     ·rw [show k = n + 1 by lia]; exact Int.le_refl _
    ·have := h2 k (by lia); lia
   ·refine ⟨m,by lia,fun k hk => ?_,h3⟩
    by_cases z : k ≤ n
    ·exact h2 k z
    ·rw [show k = n + 1 by lia]; lia
noncomputable def dd (F : Int → Int) (x : Int) : Int := F (x + 1) + F (x - 1) - 2 * F x
theorem cmp {F G : Int → Int} {a b : Int} (ha : F a ≤ G a) (hb : F b ≤ G b) (hf : ∀ x,a < x → x < b → dd F x < 0 → F x ≤ G x) (hg : ∀ x,a < x → x < b → 0 < dd G x → F x ≤ G x) {x : Int} (h1 : a ≤ x) (h2 : x ≤ b) : F x ≤ G x := by
 obtain ⟨m,e1,e2,e3⟩ := zcK (fun x => F x - G x) a (b - a).toNat
 have hx := e2 (x - a).toNat (by lia)
 rw [show a + ((x - a).toNat : Int) = x by lia] at hx
 by_cases z : F x ≤ G x
 ·exact z
 have hm : 0 < F (a + m) - G (a + m) := by lia
 have m0 : m ≠ 0 := by
  intro z
  subst z
  simp at hm
  lia
 have mb : a + m ≠ b := by
  intro z
  rw [z] at hm
  lia
 have l := e3 (m - 1) (by lia)
 rw [show a + ((m - 1 : Nat) : Int) = a + m - 1 by lia] at l
 have r := e2 (m + 1) (by lia)
 rw [show a + ((m + 1 : Nat) : Int) = a + m + 1 by lia] at r
 have k1 := hf (a + m) (by lia) (by lia)
 have k2 := hg (a + m) (by lia) (by lia)
 unfold dd at k1 k2
 lia
structure Curve (D : Int) (run : List Gate) (a b : Spot) (F : Int → Int) : Prop where
 at_a : F a.1 = D * a.2
 at_b : F b.1 = D * b.2
 lo : ∀ g ∈ run,a.1 < g.x → g.x < b.1 → ∀ y,g.lo = some y → D * y ≤ F g.x
 hi : ∀ g ∈ run,a.1 < g.x → g.x < b.1 → ∀ y,g.hi = some y → F g.x ≤ D * y
 dn : ∀ x,a.1 < x → x < b.1 → dd F x < 0 → ∃ g ∈ run,g.x = x ∧ ∃ y,g.lo = some y ∧ F x = D * y
 up : ∀ x,a.1 < x → x < b.1 → 0 < dd F x → ∃ g ∈ run,g.x = x ∧ ∃ y,g.hi = some y ∧ F x = D * y
theorem Curve.le {D : Int} {run : List Gate} {a b : Spot} {F G : Int → Int} (h : Curve D run a b F) (k : Curve D run a b G) {x : Int} (h1 : a.1 ≤ x) (h2 : x ≤ b.1) : F x ≤ G x := by
 refine cmp (by rw [h.at_a,k.at_a]; exact Int.le_refl _) (by rw [h.at_b,k.at_b]; exact Int.le_refl _) (fun x q1 q2 q => ?_) (fun x q1 q2 q => ?_) h1 h2
 ·obtain ⟨g,hg,rfl,y,e,e'⟩ := h.dn x q1 q2 q
  rw [e']
  exact k.lo g hg q1 q2 y e
 ·obtain ⟨g,hg,rfl,y,e,e'⟩ := k.up x q1 q2 q
  rw [e']
  exact h.hi g hg q1 q2 y e
theorem Curve.uniq {D : Int} {run : List Gate} {a b : Spot} {F G : Int → Int} (h : Curve D run a b F) (k : Curve D run a b G) {x : Int} (h1 : a.1 ≤ x) (h2 : x ≤ b.1) : F x = G x := Int.le_antisymm (h.le k h1 h2) (k.le h h1 h2)
theorem Curve.below {D W : Int} {run : List Gate} {a b : Spot} {F A : Int → Int} (hW : 0 < W) (h : Curve D run a b F) (ha : W * (D * a.2) ≤ A a.1) (hb : W * (D * b.2) ≤ A b.1) (hA : ∀ x,dd A x = 0) (hl : ∀ g ∈ run,a.1 < g.x → g.x < b.1 → ∀ y,g.lo = some y → W * (D * y) ≤ A g.x) {x : Int} (h1 : a.1 ≤ x) (h2 : x ≤ b.1) : W * F x ≤ A x := by
 refine cmp (F := fun x => W * F x) (G := A) (a := a.1) (b := b.1) (by simp only [h.at_a]; exact ha) (by simp only [h.at_b]; exact hb) (fun x q1 q2 q => ?_) (fun x q1 q2 q => ?_) h1 h2
 ·have q' : dd F x < 0 := by
   have e : dd (fun x => W * F x) x = W * dd F x := by unfold dd; grind
   rw [e] at q
   by_cases z : dd F x < 0
   ·exact z
   ·have := Int.mul_nonneg (Int.le_of_lt hW) (Int.not_lt.mp z); lia
  obtain ⟨g,hg,rfl,y,e,e'⟩ := h.dn x q1 q2 q'
  simp only [e']
  exact hl g hg q1 q2 y e
 ·have := hA x; lia
theorem Curve.above {D W : Int} {run : List Gate} {a b : Spot} {F A : Int → Int} (hW : 0 < W) (h : Curve D run a b F) (ha : A a.1 ≤ W * (D * a.2)) (hb : A b.1 ≤ W * (D * b.2)) (hA : ∀ x,dd A x = 0) (hl : ∀ g ∈ run,a.1 < g.x → g.x < b.1 → ∀ y,g.hi = some y → A g.x ≤ W * (D * y)) {x : Int} (h1 : a.1 ≤ x) (h2 : x ≤ b.1) : A x ≤ W * F x := by
 refine cmp (G := fun x => W * F x) (F := A) (a := a.1) (b := b.1) (by simp only [h.at_a]; exact ha) (by simp only [h.at_b]; exact hb) (fun x q1 q2 q => ?_) (fun x q1 q2 q => ?_) h1 h2
 ·have := hA x; lia
 ·have q' : 0 < dd F x := by
   have e : dd (fun x => W * F x) x = W * dd F x := by unfold dd; grind
   rw [e] at q
   by_cases z : 0 < dd F x
   ·exact z
   ·have := Int.mul_nonneg (Int.le_of_lt hW) (show 0 ≤ - dd F x by lia)
    rw [Int.mul_neg] at this; lia
  obtain ⟨g,hg,rfl,y,e,e'⟩ := h.up x q1 q2 q'
  simp only [e']
  exact hl g hg q1 q2 y e
noncomputable def bw (a b : Spot) (x : Int) : Prop := (a.1 < x ∧ x < b.1) ∨ (b.1 < x ∧ x < a.1)
noncomputable def Bey (a b : Spot) (g : Gate) (p : Spot) (d : Int) : Prop := p.1 = g.x ∧ ((g.lo = some p.2 ∧ d = xm a b p) ∨ (g.hi = some p.2 ∧ d = -xm a b p))
inductive Pul (run : List Gate) : Spot → Spot → List Spot → Prop
 | stop {a b : Spot} : (∀ g ∈ run,bw a b g.x → ∀ p d,Bey a b g p d → d ≤ 0) → Pul run a b [b]
 | split {a b p : Spot} {d : Int} {g : Gate} {l1 l2 : List Spot} : g ∈ run → bw a b g.x → Bey a b g p d → 0 < d → (∀ g' ∈ run,bw a b g'.x → ∀ p' d',Bey a b g' p' d' → d' ≤ d) → Pul run a p l1 → Pul run p b l2 → Pul run a b (l1 ++ l2)
noncomputable def Lin (D : Int) (F : Int → Int) (u v : Spot) : Prop := u.1 < v.1 ∧ F u.1 = D * u.2 ∧ F v.1 = D * v.2 ∧ ∀ x,u.1 < x → x < v.1 → dd F x = 0
noncomputable def Pth (D : Int) (F : Int → Int) : Spot → List Spot → Spot → Prop
 | a,[],b => a = b
 | a,v :: r,b => Lin D F a v ∧ Pth D F v r b
theorem Pth.app {D : Int} {F : Int → Int} {p b : Spot} {l2 : List Spot} (h2 : Pth D F p l2 b) : ∀ {l1 : List Spot} {a : Spot},Pth D F a l1 p → Pth D F a (l1 ++ l2) b
 | [],a,h => by cases (show a = p from h); exact h2
 | v :: r,a,h => ⟨h.1,Pth.app h2 h.2⟩
theorem Pth.le {D : Int} {F : Int → Int} {b : Spot} : ∀ {l : List Spot} {a : Spot},Pth D F a l b → a.1 ≤ b.1
 | [],a,h => by cases (show a = b from h); exact Int.le_refl _
 | v :: r,a,h => by have := Pth.le h.2; have := h.1.1; lia
theorem Lin.congr {D : Int} {F F' : Int → Int} {u v : Spot} (h : Lin D F u v) (e : ∀ x,u.1 ≤ x → x ≤ v.1 → F' x = F x) : Lin D F' u v := by
 obtain ⟨h1,h2,h3,h4⟩ := h
 refine ⟨h1,by rw [e _ (by lia) (by lia),h2],by rw [e _ (by lia) (by lia),h3],fun x q1 q2 => ?_⟩
 have := h4 x q1 q2
 unfold dd at this ⊢
 rw [e _ (by lia) (by lia),e _ (by lia) (by lia),e _ (by lia) (by lia)]
 exact this
theorem Pth.congr {D : Int} {F F' : Int → Int} {b : Spot} : ∀ {l : List Spot} {a : Spot},Pth D F a l b → (∀ x,a.1 ≤ x → x ≤ b.1 → F' x = F x) → Pth D F' a l b
 | [],a,h,_ => h
 | v :: r,a,h,e => by
   have := Pth.le h.2
   have := h.1.1
   exact ⟨h.1.congr fun x q1 q2 => e x q1 (by lia),Pth.congr h.2 fun x q1 q2 => e x (by lia) q2⟩
noncomputable def xM (run : List Gate) : Prop := ∀ g ∈ run,∀ g' ∈ run,g.x = g'.x → ∀ u v,g.lo = some u → g'.hi = some v → u ≤ v
theorem t9 {a b p : Spot} (h : a.1 < b.1) : xm a b p = xb a b p := by
 unfold xm
 rw [if_pos (by lia)]
theorem zc6 {k x y : Int} (hk : 0 < k) (h : x ≤ y) : k * x ≤ k * y := Int.mul_le_mul_of_nonneg_left h (Int.le_of_lt hk)
theorem uN {k x y : Int} (hk : 0 < k) (h : k * x ≤ k * y) : x ≤ y := Int.le_of_mul_le_mul_left h hk
theorem zdz {D : Int} {run : List Gate} {a b : Spot} (hab : a.1 < b.1) (hD : 0 < D) (hd : (b.1 - a.1) ∣ D) (h : ∀ g ∈ run,bw a b g.x → ∀ p d,Bey a b g p d → d ≤ 0) : ∃ F,Curve D run a b F ∧ Pth D F a [b] b := by
 obtain ⟨k,hk⟩ := hd
 have hk0 : 0 < k := by
  by_cases z : 0 < k
  ·exact z
  ·have := Int.mul_nonneg (show 0 ≤ b.1 - a.1 by lia) (show 0 ≤ -k by lia)
   rw [Int.mul_neg] at this; lia
 have hdd : ∀ x,dd (fun x => D * a.2 + k * ((b.2 - a.2) * (x - a.1))) x = 0 := by intro x; unfold dd; grind
 have ea : D * a.2 + k * ((b.2 - a.2) * (a.1 - a.1)) = D * a.2 := by grind
 have eb : D * a.2 + k * ((b.2 - a.2) * (b.1 - a.1)) = D * b.2 := by grind
 refine ⟨fun x => D * a.2 + k * ((b.2 - a.2) * (x - a.1)),⟨ea,eb,fun g hg q1 q2 y e => ?_,fun g hg q1 q2 y e => ?_,fun x _ _ q => ?_,fun x _ _ q => ?_⟩,⟨hab,ea,eb,fun x _ _ => hdd x⟩,rfl⟩
 ·have := h g hg (.inl ⟨q1,q2⟩) (g.x,y) _ ⟨rfl,.inl ⟨e,rfl⟩⟩
  rw [t9 hab] at this
  have := zc6 hk0 this
  unfold xb at this
  simp only at this
  rw [hk]
  grind
 ·have := h g hg (.inl ⟨q1,q2⟩) (g.x,y) _ ⟨rfl,.inr ⟨e,rfl⟩⟩
  rw [t9 hab] at this
  have := zc6 hk0 this
  unfold xb at this
  simp only at this
  rw [hk]
  grind
 ·have := hdd x; lia
 ·have := hdd x; lia
noncomputable def glue (c : Int) (F1 F2 : Int → Int) (x : Int) : Int := if x ≤ c then F1 x else F2 x
theorem wx {c : Int} {F1 F2 : Int → Int} {x : Int} (h : x ≤ c) : glue c F1 F2 x = F1 x := if_pos h
theorem wY {c : Int} {F1 F2 : Int → Int} {x : Int} (e : F1 c = F2 c) (h : c ≤ x) : glue c F1 F2 x = F2 x := by
 unfold glue
 split
 ·rw [show x = c by lia,e]
 ·rfl
theorem zdn {F G : Int → Int} {x : Int} (h1 : F (x + 1) = G (x + 1)) (h2 : F (x - 1) = G (x - 1)) (h3 : F x = G x) : dd F x = dd G x := by
 unfold dd
 rw [h1,h2,h3]
theorem Curve.glue {D : Int} {run : List Gate} {a p b : Spot} {F1 F2 : Int → Int} (h : Curve D run a p F1) (k : Curve D run p b F2) (hap : a.1 < p.1) (hpb : p.1 < b.1)
 (hlo : ∀ g ∈ run,g.x = p.1 → ∀ y,g.lo = some y → y ≤ p.2) (hhi : ∀ g ∈ run,g.x = p.1 → ∀ y,g.hi = some y → p.2 ≤ y) (hD : 0 < D)
 (hp : (F2 (p.1 + 1) + F1 (p.1 - 1) - 2 * (D * p.2) ≤ 0 ∧ ∃ g ∈ run,g.x = p.1 ∧ g.lo = some p.2) ∨ (0 ≤ F2 (p.1 + 1) + F1 (p.1 - 1) - 2 * (D * p.2) ∧ ∃ g ∈ run,g.x = p.1 ∧ g.hi = some p.2)) :
 Curve D run a b (My.glue p.1 F1 F2) := by
 have e : F1 p.1 = F2 p.1 := by rw [h.at_b,k.at_a]
 have hat : My.glue p.1 F1 F2 p.1 = D * p.2 := by rw [wx (Int.le_refl _),h.at_b]
 have hdl : ∀ x,x < p.1 → dd (My.glue p.1 F1 F2) x = dd F1 x := fun x q => zdn (wx (by lia)) (wx (by lia)) (wx (by lia))
 have hdr : ∀ x,p.1 < x → dd (My.glue p.1 F1 F2) x = dd F2 x := fun x q => zdn (wY e (by lia)) (wY e (by lia)) (wY e (by lia))
 have hdm : dd (My.glue p.1 F1 F2) p.1 = F2 (p.1 + 1) + F1 (p.1 - 1) - 2 * (D * p.2) := by
  unfold dd
  rw [hat,wY e (by lia),wx (by lia)]
 refine ⟨by rw [wx (by lia),h.at_a],by rw [wY e (by lia),k.at_b],fun g hg q1 q2 y ey => ?_,fun g hg q1 q2 y ey => ?_,fun x q1 q2 q => ?_,fun x q1 q2 q => ?_⟩
 ·rcases Int.lt_trichotomy g.x p.1 with z | z | z
  ·rw [wx (by lia)]; exact h.lo g hg q1 z y ey
  ·rw [z,hat]; exact zc6 hD (hlo g hg z y ey)
  ·rw [wY e (by lia)]; exact k.lo g hg z q2 y ey
 ·rcases Int.lt_trichotomy g.x p.1 with z | z | z
  ·rw [wx (by lia)]; exact h.hi g hg q1 z y ey
  ·rw [z,hat]; exact zc6 hD (hhi g hg z y ey)
  ·rw [wY e (by lia)]; exact k.hi g hg z q2 y ey
 ·rcases Int.lt_trichotomy x p.1 with z | z | z
  ·rw [hdl x z] at q; rw [wx (by lia)]; exact h.dn x q1 z q
  ·subst z
   rw [hdm] at q
   rcases hp with ⟨_,g,hg,hx,hy⟩ | ⟨q',_⟩
   ·exact ⟨g,hg,hx,p.2,hy,hat⟩
   ·lia
  ·rw [hdr x z] at q; rw [wY e (by lia)]; exact k.dn x z q2 q
 ·rcases Int.lt_trichotomy x p.1 with z | z | z
  ·rw [hdl x z] at q; rw [wx (by lia)]; exact h.up x q1 z q
  ·subst z
   rw [hdm] at q
   rcases hp with ⟨q',_⟩ | ⟨_,g,hg,hx,hy⟩
   ·lia
   ·exact ⟨g,hg,hx,p.2,hy,hat⟩
  ·rw [hdr x z] at q; rw [wY e (by lia)]; exact k.up x z q2 q
noncomputable def wP (D d : Int) (a b : Spot) (x : Int) : Int := D * ((b.1 - a.1) * a.2 + (b.2 - a.2) * (x - a.1) + d)
theorem vM (D d : Int) (a b : Spot) (x : Int) : dd (wP D d a b) x = 0 := by
 unfold dd wP
 grind
theorem zaO {D d : Int} {a b q : Spot} : wP D d a b q.1 = (b.1 - a.1) * (D * q.2) + D * (d - xb a b q) := by
 unfold wP xb
 grind
theorem zg3 {D d : Int} {a b : Spot} : wP D d a b a.1 = (b.1 - a.1) * (D * a.2) + D * d := by
 unfold wP
 grind
theorem zg2 {D d : Int} {a b : Spot} : wP D d a b b.1 = (b.1 - a.1) * (D * b.2) + D * d := by
 unfold wP
 grind
theorem zaf {k x : Int} (hk : 0 < k) (h : k * x ≤ 0) : x ≤ 0 := uN hk (by lia)
theorem zb2 {D : Int} {run : List Gate} (ok : xM run) {a b p : Spot} {d : Int} {g : Gate} {F1 F2 : Int → Int} (hg : g ∈ run) (hap : a.1 < p.1) (hpb : p.1 < b.1) (hB : Bey a b g p d) (hd : 0 < d)
 (far : ∀ g' ∈ run,bw a b g'.x → ∀ p' d',Bey a b g' p' d' → d' ≤ d) (hD : 0 < D) (h : Curve D run a p F1) (k : Curve D run p b F2) : Curve D run a b (glue p.1 F1 F2) := by
 have hab : a.1 < b.1 := by lia
 have hW : 0 < b.1 - a.1 := by lia
 obtain ⟨hx,hB⟩ := hB
 have hDd : 0 < D * d := Int.mul_pos hD hd
 have farL : ∀ g' ∈ run,a.1 < g'.x → g'.x < b.1 → ∀ y,g'.lo = some y → xb a b (g'.x,y) ≤ d := fun g' hg' q1 q2 y ey => by
  have := far g' hg' (.inl ⟨q1,q2⟩) (g'.x,y) _ ⟨rfl,.inl ⟨ey,rfl⟩⟩
  rwa [t9 hab] at this
 have farH : ∀ g' ∈ run,a.1 < g'.x → g'.x < b.1 → ∀ y,g'.hi = some y → -xb a b (g'.x,y) ≤ d := fun g' hg' q1 q2 y ey => by
  have := far g' hg' (.inl ⟨q1,q2⟩) (g'.x,y) _ ⟨rfl,.inr ⟨ey,rfl⟩⟩
  rwa [t9 hab] at this
 rcases hB with ⟨hy,hdE⟩ | ⟨hy,hdE⟩
 ·rw [t9 hab] at hdE
  have lowA : ∀ g' ∈ run,a.1 < g'.x → g'.x < b.1 → ∀ y,g'.lo = some y → (b.1 - a.1) * (D * y) ≤ wP D d a b g'.x := fun g' hg' q1 q2 y ey => by
   have := farL g' hg' q1 q2 y ey
   have e := zaO (D := D) (d := d) (a := a) (b := b) (q := (g'.x,y))
   simp only at e
   have : 0 ≤ D * (d - xb a b (g'.x,y)) := Int.mul_nonneg (by lia) (by lia)
   lia
  have hpA : wP D d a b p.1 = (b.1 - a.1) * (D * p.2) := by
   rw [zaO,hdE,Int.sub_self,Int.mul_zero,Int.add_zero]
  have l := h.below hW (A := wP D d a b) (by rw [zg3]; lia) (by rw [hpA]; exact Int.le_refl _) (vM D d a b) (fun g' hg' q1 q2 => lowA g' hg' q1 (by lia)) (x := p.1 - 1) (by lia) (by lia)
  have r := k.below hW (A := wP D d a b) (by rw [hpA]; exact Int.le_refl _) (by rw [zg2]; lia) (vM D d a b) (fun g' hg' q1 q2 => lowA g' hg' (by lia) q2) (x := p.1 + 1) (by lia) (by lia)
  have m := vM D d a b p.1
  unfold dd at m
  refine h.glue k hap hpb (fun g' hg' z y ey => ?_) (fun g' hg' z y ey => ok g hg g' hg' (by lia) _ _ hy ey) hD (.inl ⟨zaf hW ?_,g,hg,hx.symm,hy⟩)
  ·have := farL g' hg' (by lia) (by lia) y ey
   rw [hdE,z] at this
   unfold xb at this
   simp only at this
   have : (b.1 - a.1) * (y - a.2) ≤ (b.1 - a.1) * (p.2 - a.2) := by lia
   have := uN hW this
   lia
  ·have e : (b.1 - a.1) * (F2 (p.1 + 1) + F1 (p.1 - 1) - 2 * (D * p.2)) = (b.1 - a.1) * F2 (p.1 + 1) + (b.1 - a.1) * F1 (p.1 - 1) - 2 * ((b.1 - a.1) * (D * p.2)) := by grind
   lia
 ·rw [t9 hab] at hdE
  have hiA : ∀ g' ∈ run,a.1 < g'.x → g'.x < b.1 → ∀ y,g'.hi = some y → wP D (-d) a b g'.x ≤ (b.1 - a.1) * (D * y) := fun g' hg' q1 q2 y ey => by
   have := farH g' hg' q1 q2 y ey
   have e := zaO (D := D) (d := -d) (a := a) (b := b) (q := (g'.x,y))
   simp only at e
   have : 0 ≤ D * (d + xb a b (g'.x,y)) := Int.mul_nonneg (by lia) (by lia)
   have : D * (-d - xb a b (g'.x,y)) = - (D * (d + xb a b (g'.x,y))) := by grind
   lia
  have hpA : wP D (-d) a b p.1 = (b.1 - a.1) * (D * p.2) := by
   rw [zaO,hdE,Int.neg_neg,Int.sub_self,Int.mul_zero,Int.add_zero]
  have hn : D * -d = - (D * d) := Int.mul_neg _ _
  have l := h.above hW (A := wP D (-d) a b) (by rw [zg3]; lia) (by rw [hpA]; exact Int.le_refl _) (vM D (-d) a b) (fun g' hg' q1 q2 => hiA g' hg' q1 (by lia)) (x := p.1 - 1) (by lia) (by lia)
  have r := k.above hW (A := wP D (-d) a b) (by rw [hpA]; exact Int.le_refl _) (by rw [zg2]; lia) (vM D (-d) a b) (fun g' hg' q1 q2 => hiA g' hg' (by lia) q2) (x := p.1 + 1) (by lia) (by lia)
  have m := vM D (-d) a b p.1
  unfold dd at m
  refine h.glue k hap hpb (fun g' hg' z y ey => ok g' hg' g hg (by lia) _ _ ey hy) (fun g' hg' z y ey => ?_) hD (.inr ⟨?_,g,hg,hx.symm,hy⟩)
  ·have := farH g' hg' (by lia) (by lia) y ey
   rw [hdE,z] at this
   unfold xb at this
   simp only at this
   have : (b.1 - a.1) * (p.2 - a.2) ≤ (b.1 - a.1) * (y - a.2) := by lia
   have := uN hW this
   lia
  ·have e : (b.1 - a.1) * (F2 (p.1 + 1) + F1 (p.1 - 1) - 2 * (D * p.2)) = (b.1 - a.1) * F2 (p.1 + 1) + (b.1 - a.1) * F1 (p.1 - 1) - 2 * ((b.1 - a.1) * (D * p.2)) := by grind
   have := zaf hW (x := -(F2 (p.1 + 1) + F1 (p.1 - 1) - 2 * (D * p.2))) (by rw [Int.mul_neg]; lia)
   lia
theorem zew {run : List Gate} (ok : xM run) {a b : Spot} {l : List Spot} (h : Pul run a b l) {D : Int} (hD : 0 < D) : a.1 < b.1 → (∀ k,0 < k → k ≤ b.1 - a.1 → k ∣ D) → ∃ F,Curve D run a b F ∧ Pth D F a l b := by
 induction h with
 | stop h => exact fun hab hd => zdz hab hD (hd _ (by lia) (Int.le_refl _)) h
 | @split a b p d g l1 l2 hg hb hB hd far _ _ ih1 ih2 =>
   intro hab hdv
   have hx := hB.1
   have h1 : a.1 < p.1 ∧ p.1 < b.1 := by
    rcases hb with z | z <;> lia
   obtain ⟨F1,C1,P1⟩ := ih1 h1.1 fun k q1 q2 => hdv k q1 (by lia)
   obtain ⟨F2,C2,P2⟩ := ih2 h1.2 fun k q1 q2 => hdv k q1 (by lia)
   have e : F1 p.1 = F2 p.1 := by rw [C1.at_b,C2.at_a]
   exact ⟨glue p.1 F1 F2,zb2 ok hg h1.1 h1.2 hB hd far hD C1 C2,Pth.app (P2.congr fun x q1 q2 => wY e q1) (P1.congr fun x q1 q2 => wx q2)⟩
noncomputable def straight (o m n : Spot) : Bool := decide ((m.1 - o.1) * (n.2 - m.2) = (m.2 - o.2) * (n.1 - m.1)) && decide (0 < (m.1 - o.1) * (n.1 - m.1) + (m.2 - o.2) * (n.2 - m.2))
theorem z8 {o m n : Spot} : straight o m n = true ↔ (m.1 - o.1) * (n.2 - m.2) = (m.2 - o.2) * (n.1 - m.1) ∧ 0 < (m.1 - o.1) * (n.1 - m.1) + (m.2 - o.2) * (n.2 - m.2) := by
 unfold straight
 rw [Bool.and_eq_true,decide_eq_true_eq,decide_eq_true_eq]
theorem yM (o m n : Spot) : straight o m n = straight n m o := by
 rw [Bool.eq_iff_iff,z8,z8]
 constructor <;> rintro ⟨h1,h2⟩ <;> constructor <;> grind
noncomputable def inner : List Spot → List Spot
 | o :: m :: n :: r => (if straight o m n = true then [] else [m]) ++ inner (m :: n :: r)
 | _ => []
theorem zam (o m n : Spot) : ∀ l : List Spot,inner (l ++ [o,m,n]) = inner (l ++ [o,m]) ++ (if straight o m n = true then [] else [m])
 | [] => by simp [inner]
 | [x] => by simp [inner]
 | [x,y] => by simp [inner]
 | x :: y :: z :: r => by
   have ih := zam o m n (y :: z :: r)
   simp only [List.cons_append] at ih ⊢
   rw [inner,inner,ih,List.append_assoc]
theorem vq : ∀ l : List Spot,inner l.reverse = (inner l).reverse
 | [] => rfl
 | [x] => rfl
 | [x,y] => rfl
 | o :: m :: n :: r => by
   have ih := vq (m :: n :: r)
   rw [inner,List.reverse_append,← ih]
   simp only [List.reverse_cons,List.append_assoc,List.cons_append,List.nil_append]
   rw [zam,yM n m o]
   congr 1
   split <;> rfl
noncomputable def hdS (o : Spot) : List Spot → Bool
 | a :: v :: _ => straight o a v
 | _ => true
structure LegEq (L L' : List Spot) : Prop where
 hd : ∀ o,hdS o L = hdS o L'
 tl : ∀ o,hdS o L.reverse = hdS o L'.reverse
 inn : inner L = inner L'
theorem LegEq.rev {L L' : List Spot} (h : LegEq L L') : LegEq L.reverse L'.reverse := ⟨h.tl,by simpa using h.hd,by rw [vq,vq,h.inn]⟩
theorem zeR {F : Int → Int} {u v : Int} (h : ∀ x,u < x → x < v → dd F x = 0) : ∀ k : Nat,u + k < v → F (u + k + 1) - F (u + k) = F (u + 1) - F u
 | 0,_ => by simp
 | k + 1,hk => by
   have ih := zeR h k (by lia)
   have := h (u + (k + 1 : Nat)) (by lia) hk
   unfold dd at this
   rw [show u + ((k + 1 : Nat) : Int) - 1 = u + k by lia] at this
   rw [show u + ((k + 1 : Nat) : Int) = u + k + 1 by lia] at this ⊢
   lia
theorem zg4 {F : Int → Int} {u v : Int} (h : ∀ x,u < x → x < v → dd F x = 0) : ∀ k : Nat,u + k ≤ v → F (u + k) = F u + k * (F (u + 1) - F u)
 | 0,_ => by simp
 | k + 1,hk => by
   have ih := zg4 h k (by lia)
   have := zeR h k (by lia)
   rw [show u + ((k + 1 : Nat) : Int) = u + k + 1 by lia]
   have e : ((k + 1 : Nat) : Int) * (F (u + 1) - F u) = k * (F (u + 1) - F u) + (F (u + 1) - F u) := by
    rw [show ((k + 1 : Nat) : Int) = (k : Int) + 1 by lia,Int.add_mul,Int.one_mul]
   lia
theorem Lin.first {D : Int} {F : Int → Int} {u v : Spot} (h : Lin D F u v) : D * (v.2 - u.2) = (v.1 - u.1) * (F (u.1 + 1) - F u.1) := by
 obtain ⟨h1,h2,h3,h4⟩ := h
 have := zg4 h4 (v.1 - u.1).toNat (by lia)
 rw [show u.1 + ((v.1 - u.1).toNat : Int) = v.1 by lia,show (((v.1 - u.1).toNat : Nat) : Int) = v.1 - u.1 by lia,h3] at this
 rw [Int.mul_sub,← h2]
 lia
theorem Lin.last {D : Int} {F : Int → Int} {u v : Spot} (h : Lin D F u v) : F v.1 - F (v.1 - 1) = F (u.1 + 1) - F u.1 := by
 obtain ⟨h1,h2,h3,h4⟩ := h
 have := zeR h4 (v.1 - 1 - u.1).toNat (by lia)
 rw [show u.1 + ((v.1 - 1 - u.1).toNat : Int) = v.1 - 1 by lia,show v.1 - 1 + 1 = v.1 by lia] at this
 exact this
theorem xq {k x y : Int} (hk : 0 < k) : k * x = k * y ↔ x = y := ⟨fun h => Int.eq_of_mul_eq_mul_left (by lia) h,fun h => by rw [h]⟩
theorem xr {k x : Int} (hk : 0 < k) : 0 < k * x ↔ 0 < x := by
 constructor
 ·intro h
  by_cases z : 0 < x
  ·exact z
  ·have := Int.mul_nonneg (Int.le_of_lt hk) (show 0 ≤ -x by lia)
   rw [Int.mul_neg] at this; lia
 ·exact Int.mul_pos hk
theorem zd9 {D : Int} {F : Int → Int} {o m n : Spot} (hD : 0 < D) (h : Lin D F m n) : straight o m n = true ↔ (m.1 - o.1) * (F (m.1 + 1) - F m.1) = (m.2 - o.2) * D ∧ 0 < (m.1 - o.1) * D + (m.2 - o.2) * (F (m.1 + 1) - F m.1) := by
 have e := h.first
 have hk : 0 < n.1 - m.1 := by have := h.1; lia
 generalize F (m.1 + 1) - F m.1 = s at *
 rw [z8,← xq hD,← xr (x := (m.1 - o.1) * (n.1 - m.1) + (m.2 - o.2) * (n.2 - m.2)) hD,← xq (x := (m.1 - o.1) * s) hk,← xr (x := (m.1 - o.1) * D + (m.2 - o.2) * s) hk]
 have e1 : D * ((m.1 - o.1) * (n.2 - m.2)) = (n.1 - m.1) * ((m.1 - o.1) * s) := by
  rw [Int.mul_left_comm D,e,Int.mul_left_comm]
 have e2 : D * ((m.2 - o.2) * (n.1 - m.1)) = (n.1 - m.1) * ((m.2 - o.2) * D) := by grind
 have e3 : D * ((m.1 - o.1) * (n.1 - m.1) + (m.2 - o.2) * (n.2 - m.2)) = (n.1 - m.1) * ((m.1 - o.1) * D + (m.2 - o.2) * s) := by
  rw [Int.mul_add,Int.mul_left_comm D (m.2 - o.2),e]
  grind
 rw [e1,e2,e3]
theorem zea {D : Int} {F : Int → Int} {o m n : Spot} (hD : 0 < D) (h : Lin D F o m) : straight o m n = true ↔ (n.1 - m.1) * (F m.1 - F (m.1 - 1)) = (n.2 - m.2) * D ∧ 0 < (n.1 - m.1) * D + (n.2 - m.2) * (F m.1 - F (m.1 - 1)) := by
 have e := h.first
 rw [← h.last] at e
 have hk : 0 < m.1 - o.1 := by have := h.1; lia
 generalize F m.1 - F (m.1 - 1) = s at *
 rw [z8,← xq hD,← xr (x := (m.1 - o.1) * (n.1 - m.1) + (m.2 - o.2) * (n.2 - m.2)) hD,← xq (x := (n.1 - m.1) * s) hk,← xr (x := (n.1 - m.1) * D + (n.2 - m.2) * s) hk]
 have e1 : D * ((m.2 - o.2) * (n.1 - m.1)) = (m.1 - o.1) * ((n.1 - m.1) * s) := by
  rw [← Int.mul_assoc,e]
  grind
 have e2 : D * ((m.1 - o.1) * (n.2 - m.2)) = (m.1 - o.1) * ((n.2 - m.2) * D) := by grind
 have e3 : D * ((m.1 - o.1) * (n.1 - m.1) + (m.2 - o.2) * (n.2 - m.2)) = (m.1 - o.1) * ((n.1 - m.1) * D + (n.2 - m.2) * s) := by
  rw [Int.mul_add,← Int.mul_assoc D (m.2 - o.2),e]
  grind
 rw [e1,e2,e3]
 exact ⟨fun h => ⟨h.1.symm,h.2⟩,fun h => ⟨h.1.symm,h.2⟩⟩
theorem uB (s : Int) : 0 ≤ s * s := by
 rcases Int.le_total 0 s with z | z
 ·exact Int.mul_nonneg z z
 ·have := Int.mul_nonneg (show 0 ≤ -s by lia) (show 0 ≤ -s by lia)
  rwa [Int.neg_mul_neg] at this
theorem zhk {D : Int} {F : Int → Int} {o m n : Spot} (hD : 0 < D) (h : Lin D F o m) (k : Lin D F m n) : straight o m n = true ↔ dd F m.1 = 0 := by
 have e := k.first
 have hk : 0 < n.1 - m.1 := by have := k.1; lia
 rw [zea hD h]
 have hdd : dd F m.1 = (F (m.1 + 1) - F m.1) - (F m.1 - F (m.1 - 1)) := by unfold dd; lia
 rw [hdd]
 generalize F (m.1 + 1) - F m.1 = s2 at *
 generalize F m.1 - F (m.1 - 1) = s1 at *
 have e' : (n.2 - m.2) * D = (n.1 - m.1) * s2 := by rw [Int.mul_comm,e]
 rw [e',xq hk]
 constructor
 ·rintro ⟨h1,_⟩; lia
 ·intro h1
  have h1 : s1 = s2 := by lia
  subst h1
  refine ⟨rfl,?_⟩
  rw [← xr hD]
  have : D * ((n.1 - m.1) * D + (n.2 - m.2) * s1) = (n.1 - m.1) * (D * D + s1 * s1) := by
   rw [Int.mul_add,← Int.mul_assoc D (n.2 - m.2),e]
   grind
  rw [this]
  have := Int.mul_pos hD hD
  have := uB s1
  exact Int.mul_pos hk (by lia)
noncomputable def kk (D : Int) (F : Int → Int) : Nat → Int → List Spot
 | 0,_ => []
 | n + 1,x => (if dd F (x + 1) = 0 then [] else [(x + 1,F (x + 1) / D)]) ++ kk D F n (x + 1)
theorem zg5 (D : Int) (F : Int → Int) (m : Nat) : ∀ (n : Nat) (x : Int),kk D F (n + m) x = kk D F n x ++ kk D F m (x + n)
 | 0,x => by simp [kk]
 | n + 1,x => by
   rw [show n + 1 + m = (n + m) + 1 by lia,kk,kk,zg5 D F m n (x + 1),List.append_assoc,show x + 1 + (n : Int) = x + ((n + 1 : Nat) : Int) by lia]
theorem zeV {D : Int} {F : Int → Int} : ∀ (n : Nat) (x : Int),(∀ y,x < y → y ≤ x + n → dd F y = 0) → kk D F n x = []
 | 0,x,_ => rfl
 | n + 1,x,h => by
   have e := zeV (D := D) n (x + 1) fun y q1 q2 => h y (by lia) (by lia)
   rw [kk,if_pos (h (x + 1) (by lia) (by lia)),e]
   rfl
theorem zaQ {D : Int} {F : Int → Int} (hD : 0 < D) {b : Spot} : ∀ {l : List Spot} {a : Spot},Pth D F a l b → inner (a :: l) = kk D F (b.1 - a.1 - 1).toNat a.1
 | [],a,h => by
   cases (show a = b from h)
   rw [show (b.1 - b.1 - 1).toNat = 0 by lia]
   rfl
 | [v],a,h => by
   cases (show v = b from h.2)
   have := h.1.1
   have e := zeV (D := D) (b.1 - a.1 - 1).toNat a.1 fun y q1 q2 => h.1.2.2.2 y q1 (by lia)
   rw [e]
   rfl
 | v :: w :: r,a,h => by
   have ih := zaQ hD h.2
   have h1 := h.1.1
   have h2 := h.2.1.1
   have h3 := Pth.le h.2.2
   have en := zeV (D := D) (v.1 - a.1 - 1).toNat a.1 fun y q1 q2 => h.1.2.2.2 y q1 (by lia)
   rw [inner,ih,show (b.1 - a.1 - 1).toNat = (v.1 - a.1 - 1).toNat + ((b.1 - v.1 - 1).toNat + 1) by lia,zg5,en,List.nil_append,kk,show a.1 + ((v.1 - a.1 - 1).toNat : Int) + 1 = v.1 by lia]
   congr 1
   have e := zhk hD h.1 h.2.1
   have ev : F v.1 / D = v.2 := by rw [h.2.1.2.1]; exact Int.mul_ediv_cancel_left _ (by lia)
   by_cases z : dd F v.1 = 0
   ·rw [if_pos z,if_pos (e.mpr z)]
   ·rw [if_neg z,if_neg fun q => z (e.mp q),ev]
theorem uo {D : Int} {F : Int → Int} {b : Spot} : ∀ {l : List Spot} {a : Spot},Pth D F a l b → l ≠ [] → ∃ q r,(a :: l).reverse = b :: q :: r ∧ Lin D F q b
 | [],a,_,z => absurd rfl z
 | [v],a,h,_ => by
   cases (show v = b from h.2)
   exact ⟨a,[],rfl,h.1⟩
 | v :: w :: r,a,h,_ => by
   obtain ⟨q,r',e,k⟩ := uo h.2 (by simp)
   exact ⟨q,r' ++ [a],by rw [List.reverse_cons,e]; rfl,k⟩
theorem ziF {D : Int} {F : Int → Int} (hD : 0 < D) {a b : Spot} {l l' : List Spot} (hab : a.1 < b.1) (h : Pth D F a l b) (h' : Pth D F a l' b) : LegEq (a :: l) (a :: l') := by
 have n1 : l ≠ [] := fun z => by rw [z] at h; cases (show a = b from h); lia
 have n2 : l' ≠ [] := fun z => by rw [z] at h'; cases (show a = b from h'); lia
 refine ⟨fun o => ?_,fun o => ?_,by rw [zaQ hD h,zaQ hD h']⟩
 ·cases l with
  | nil => exact absurd rfl n1
  | cons v r =>
    cases l' with
    | nil => exact absurd rfl n2
    | cons v' r' =>
      show straight o a v = straight o a v'
      rw [Bool.eq_iff_iff,zd9 hD h.1,zd9 hD h'.1]
 ·obtain ⟨q,r,e,k⟩ := uo h n1
  obtain ⟨q',r',e',k'⟩ := uo h' n2
  rw [e,e']
  show straight o b q = straight o b q'
  rw [yM,yM o,Bool.eq_iff_iff,zea hD k,zea hD k']
theorem zcw {a b : Spot} {x : Int} : bw a b x ↔ bw b a x := Or.comm
theorem zeg {a b : Spot} (p : Spot) (h : a.1 ≠ b.1) : xm a b p = xm b a p := by
 unfold xm
 have e : xb b a p = -xb a b p := by unfold xb; grind
 rw [e]
 by_cases z : 0 < b.1 - a.1
 ·rw [if_pos z,if_neg (by lia),Int.neg_neg]
 ·rw [if_neg z,if_pos (by lia)]
theorem zdR {a b : Spot} {x : Int} (h : bw a b x) : a.1 ≠ b.1 := by
 rcases h with z | z <;> lia
theorem za6 {a b : Spot} {g : Gate} {p : Spot} {d : Int} (h : a.1 ≠ b.1) (k : Bey a b g p d) : Bey b a g p d := by
 obtain ⟨h1,h2⟩ := k
 rw [zeg p h] at h2
 exact ⟨h1,h2⟩
theorem zaG {run : List Gate} {a b : Spot} {l : List Spot} (h : Pul run a b l) : ∃ l',Pul run b a l' ∧ b :: l' = (a :: l).reverse := by
 induction h with
 | @stop a b h => exact ⟨[a],.stop fun g hg hb p d k => h g hg (zcw.mp hb) p d (za6 (zdR hb) k),rfl⟩
 | @split a b p d g l1 l2 hg hb hB hd far _ _ ih1 ih2 =>
   obtain ⟨l1',h1,e1⟩ := ih1
   obtain ⟨l2',h2,e2⟩ := ih2
   have ne := zdR hb
   refine ⟨l2' ++ l1',.split hg (zcw.mp hb) (za6 ne hB) hd (fun g' hg' hb' p' d' k => far g' hg' (zcw.mp hb') p' d' (za6 ne.symm k)) h2 h1,?_⟩
   rw [← List.cons_append,e2,List.reverse_cons,List.append_assoc,List.singleton_append,e1,← List.cons_append,List.reverse_append]
theorem zgS {run : List Gate} {a b : Spot} {l : List Spot} (h : Pul run a b l) (e : a.1 = b.1) : l = [b] := by
 cases h with
 | stop _ => rfl
 | split hg hb _ _ _ _ _ => exact absurd e (zdR hb)
noncomputable def fac : Nat → Int
 | 0 => 1
 | n + 1 => ((n + 1 : Nat) : Int) * fac n
theorem zch : ∀ n,0 < fac n
 | 0 => by decide
 | n + 1 => Int.mul_pos (by lia) (zch n)
theorem zfb {k : Int} (h : 0 < k) : ∀ n : Nat,k ≤ n → k ∣ fac n
 | 0,z => by lia
 | n + 1,z => by
   by_cases q : k ≤ n
   ·exact Int.dvd_trans (zfb h n q) (Int.dvd_mul_left _ _)
   ·rw [show k = ((n + 1 : Nat) : Int) by lia]
    exact Int.dvd_mul_right _ _
theorem zgT {D : Int} {F : Int → Int} {b : Spot} : ∀ {l : List Spot} {a : Spot},Pth D F a l b → (a :: l).Pairwise fun u v => u.1 < v.1
 | [],a,_ => by simp
 | v :: r,a,h => by
   have ih := zgT h.2
   have h1 := h.1.1
   refine List.pairwise_cons.mpr ⟨fun u hu => ?_,ih⟩
   rcases List.mem_cons.mp hu with rfl | hu
   ·exact h1
   ·have := (List.pairwise_cons.mp ih).1 u hu
    lia
theorem uK {run : List Gate} (ok : xM run) {a b : Spot} {l : List Spot} (h : Pul run a b l) (hab : a.1 < b.1) : ∃ F,Curve (fac (b.1 - a.1).toNat) run a b F ∧ Pth (fac (b.1 - a.1).toNat) F a l b :=
 zew ok h (zch _) hab fun k q1 q2 => zfb q1 _ (by lia)
structure Leg (a b : Spot) (l : List Spot) : Prop where
 ne : (a :: l).Pairwise fun u v => u.1 ≠ v.1
 last : ∃ q r,(a :: l).reverse = b :: q :: r
theorem Leg.right {run : List Gate} (ok : xM run) {a b : Spot} {l : List Spot} (h : Pul run a b l) (hab : a.1 < b.1) : Leg a b l := by
 obtain ⟨F,_,P⟩ := uK ok h hab
 have n1 : l ≠ [] := fun z => by rw [z] at P; cases (show a = b from P); lia
 obtain ⟨q,r,e,_⟩ := uo P n1
 exact ⟨(zgT P).imp fun h => by lia,q,r,e⟩
theorem zcZ {run : List Gate} (ok : xM run) {a b : Spot} {l l' : List Spot} (h : Pul run a b l) (h' : Pul run a b l') (hab : a.1 < b.1) : LegEq (a :: l) (a :: l') := by
 obtain ⟨F,C,P⟩ := uK ok h hab
 obtain ⟨F',C',P'⟩ := uK ok h' hab
 exact ziF (zch _) hab P (P'.congr fun x q1 q2 => C.uniq C' q1 q2)
theorem zev {run : List Gate} (ok : xM run) {a b : Spot} {l : List Spot} (h : Pul run a b l) (hab : a.1 ≠ b.1) : Leg a b l := by
 rcases Int.lt_or_gt_of_ne hab with z | z
 ·exact Leg.right ok h z
 ·obtain ⟨l',h',e⟩ := zaG h
  have L := Leg.right ok h' z
  have n := L.ne
  rw [e,List.pairwise_reverse] at n
  refine ⟨n.imp fun q => Ne.symm q,?_⟩
  rw [← e]
  obtain ⟨q,r,e'⟩ := L.last
  cases l' with
  | nil => cases e'
  | cons v r => exact ⟨v,r,rfl⟩
theorem ziE {run : List Gate} (ok : xM run) {a b : Spot} {l l' : List Spot} (h : Pul run a b l) (h' : Pul run a b l') (hab : a.1 ≠ b.1) : LegEq (a :: l) (a :: l') := by
 rcases Int.lt_or_gt_of_ne hab with z | z
 ·exact zcZ ok h h' z
 ·obtain ⟨m,k,e⟩ := zaG h
  obtain ⟨m',k',e'⟩ := zaG h'
  have := (zcZ ok k k' z).rev
  rwa [e,e',List.reverse_reverse,List.reverse_reverse] at this
noncomputable def co : Option Spot → List Spot → List Spot
 | none,_ => []
 | some o,L => if hdS o L = true then [] else L.take 1
noncomputable def bnd : Option Spot → Spot → List Spot → List Spot
 | _,_,[] => []
 | o,a,v :: r => if v = a then bnd o a r else co o [a,v] ++ bnd (some a) v r
theorem zcy : ∀ {l : List Spot} {o : Option Spot} {a b q : Spot} {r rest : List Spot},(a :: l).Pairwise (fun u v => u.1 ≠ v.1) → (a :: l).reverse = b :: q :: r → bnd o a (l ++ rest) = co o (a :: l) ++ inner (a :: l) ++ bnd (some q) b rest
 | [],o,a,b,q,r,rest,_,e => by simp at e
 | [v],o,a,b,q,r,rest,n,e => by
   simp at e
   obtain ⟨rfl,rfl,rfl⟩ := e
   have : v ≠ a := fun z => by subst z; simp at n
   show (if v = a then bnd o a rest else co o [a,v] ++ bnd (some a) v rest) = co o [a,v] ++ [] ++ _
   rw [if_neg this,List.append_nil]
 | v :: w :: s,o,a,b,q,r,rest,n,e => by
   have hv : v ≠ a := fun z => (List.pairwise_cons.mp n).1 v (by simp) (by rw [z])
   obtain ⟨r',e'⟩ : ∃ r',(v :: w :: s).reverse = b :: q :: r' := by
    rw [List.reverse_cons] at e
    generalize hL : (v :: w :: s).reverse = L at e
    have hlen : L.length = s.length + 2 := by rw [← hL]; simp
    match L,hlen with
    | x :: y :: t,_ =>
      simp only [List.cons_append,List.cons.injEq] at e
      exact ⟨t,by rw [e.1,e.2.1]⟩
   have ih := zcy (o := some a) (rest := rest) (List.pairwise_cons.mp n).2 e'
   show (if v = a then bnd o a (w :: s ++ rest) else co o [a,v] ++ bnd (some a) v (w :: s ++ rest)) = _
   rw [if_neg hv,ih]
   have c1 : co o [a,v] = co o (a :: v :: w :: s) := by cases o <;> rfl
   have c2 : inner (a :: v :: w :: s) = co (some a) (v :: w :: s) ++ inner (v :: w :: s) := by
    rw [inner]
    rfl
   rw [c1,c2]
   simp only [List.append_assoc]
inductive Tot : Spot → List (List Gate × Spot) → List Spot → Prop
 | nil {a : Spot} : Tot a [] []
 | cons {a b : Spot} {run : List Gate} {l l' : List Spot} {legs : List (List Gate × Spot)} : Pul run a b l → Tot b legs l' → Tot a ((run,b) :: legs) (l ++ l')
noncomputable def zfG (a : Spot) : Option Spot → Option Spot → Prop
 | none,none => True
 | some o,some o' => ∀ n,straight o a n = straight o' a n
 | _,_ => False
theorem zfl {a v : Spot} {r r' : List Spot} {v' : Spot} {o o' : Option Spot} (s : zfG a o o') (h : ∀ o,hdS o (a :: v :: r) = hdS o (a :: v' :: r')) : co o (a :: v :: r) = co o' (a :: v' :: r') := by
 match o,o',s with
 | none,none,_ => rfl
 | some o,some o',s =>
   show (if hdS o (a :: v :: r) = true then [] else [a]) = (if hdS o' (a :: v' :: r') = true then [] else [a])
   rw [h o]
   show (if straight o a v' = true then [] else [a]) = (if straight o' a v' = true then [] else [a])
   rw [s v']
theorem zax : ∀ {legs : List (List Gate × Spot)} {a : Spot} {l l' : List Spot} {o o' : Option Spot},(∀ p ∈ legs,xM p.1) → Tot a legs l → Tot a legs l' → zfG a o o' → bnd o a l = bnd o' a l'
 | [],a,l,l',o,o',_,h,h',s => by
   cases h; cases h'
   rfl
 | (run,b) :: legs,a,l,l',o,o',ok,h,h',s => by
   cases h with
   | @cons _ _ _ m n _ h1 h2 =>
     cases h' with
     | @cons _ _ _ m' n' _ k1 k2 =>
       have ok' : ∀ p ∈ legs,xM p.1 := fun p hp => ok p (List.mem_cons_of_mem _ hp)
       by_cases e : a.1 = b.1
       ·rw [zgS h1 e,zgS k1 e]
        show (if b = a then bnd o a n else co o [a,b] ++ bnd (some a) b n) = (if b = a then bnd o' a n' else co o' [a,b] ++ bnd (some a) b n')
        by_cases z : b = a
        ·rw [if_pos z,if_pos z]
         subst z
         exact zax ok' h2 k2 s
        ·rw [if_neg z,if_neg z,zfl (r := []) (r' := []) (v' := b) s fun _ => rfl,zax ok' h2 k2 (o := some a) (o' := some a) fun _ => rfl]
       ·have okr := ok (run,b) (by simp)
        have L := zev okr h1 e
        have L' := zev okr k1 e
        have E := ziE okr h1 k1 e
        obtain ⟨q,r,er⟩ := L.last
        obtain ⟨q',r',er'⟩ := L'.last
        rw [zcy L.ne er,zcy L'.ne er',E.inn]
        have s' : zfG b (some q) (some q') := fun n => by
         have := E.tl n
         rw [er,er'] at this
         have : straight n b q = straight n b q' := this
         rw [yM q,yM q',this]
        rw [zax ok' h2 k2 s']
        congr 2
        have hd := E.hd
        cases m with
        | nil => simp at er
        | cons v t =>
          cases m' with
          | nil => simp at er'
          | cons v' t' => exact zfl s hd
structure Mp (f : Spot → Spot) (g : Gate → Gate) : Prop where
 bwp : ∀ a b G,bw (f a) (f b) (g G).x ↔ bw a b G.x
 bey : ∀ a b G p d,a.1 ≠ b.1 → Bey a b G p d → Bey (f a) (f b) (g G) (f p) d
 inv : ∀ a b G p' d,a.1 ≠ b.1 → Bey (f a) (f b) (g G) p' d → ∃ p,p' = f p ∧ Bey a b G p d
 inj : ∀ a b,f a = f b → a = b
 str : ∀ o m n,o ≠ m → m ≠ n → straight (f o) (f m) (f n) = straight o m n
theorem zhv {f : Spot → Spot} {g : Gate → Gate} (M : Mp f g) {run : List Gate} {a b : Spot} {l : List Spot} (h : Pul run a b l) : Pul (run.map g) (f a) (f b) (l.map f) := by
 induction h with
 | @stop a b h =>
   refine .stop fun G' hG' hb p' d k => ?_
   obtain ⟨G,hG,rfl⟩ := List.mem_map.mp hG'
   have hb' := (M.bwp a b G).mp hb
   obtain ⟨p,_,k'⟩ := M.inv a b G p' d (zdR hb') k
   exact h G hG hb' p d k'
 | @split a b p d G l1 l2 hg hb hB hd far _ _ ih1 ih2 =>
   rw [List.map_append]
   refine .split (List.mem_map_of_mem hg) ((M.bwp a b G).mpr hb) (M.bey a b G p d (zdR hb) hB) hd (fun G' hG' hb' p' d' k => ?_) ih1 ih2
   obtain ⟨G1,hG1,rfl⟩ := List.mem_map.mp hG'
   have hb1 := (M.bwp a b G1).mp hb'
   obtain ⟨p1,_,k'⟩ := M.inv a b G1 p' d' (zdR hb1) k
   exact far G1 hG1 hb1 p1 d' k'
noncomputable def mapL (f : Spot → Spot) (g : Gate → Gate) (legs : List (List Gate × Spot)) : List (List Gate × Spot) := legs.map fun p => (p.1.map g,f p.2)
theorem zhh {f : Spot → Spot} {g : Gate → Gate} (M : Mp f g) {a : Spot} {legs : List (List Gate × Spot)} {l : List Spot} (h : Tot a legs l) : Tot (f a) (mapL f g legs) (l.map f) := by
 induction h with
 | nil => exact .nil
 | cons h1 _ ih => rw [List.map_append]; exact .cons (zhv M h1) ih
theorem zcx {f : Spot → Spot} {g : Gate → Gate} (M : Mp f g) : ∀ (l : List Spot) (o : Option Spot) (a : Spot),(∀ x,o = some x → x ≠ a) → bnd (o.map f) (f a) (l.map f) = (bnd o a l).map f
 | [],o,a,_ => by cases o <;> rfl
 | v :: r,o,a,h => by
   show (if f v = f a then bnd (o.map f) (f a) (r.map f) else co (o.map f) [f a,f v] ++ bnd (some (f a)) (f v) (r.map f)) = (if v = a then bnd o a r else co o [a,v] ++ bnd (some a) v r).map f
   by_cases z : v = a
   ·rw [if_pos (by rw [z]),if_pos z,zcx M r o a h]
   ·rw [if_neg fun q => z (M.inj _ _ q),if_neg z,List.map_append,← zcx M r (some a) v fun x e => by cases e; exact fun q => z q.symm]
    congr 1
    cases o with
    | none => rfl
    | some o =>
      show (if straight (f o) (f a) (f v) = true then [] else [f a]) = (if straight o a v = true then [] else [a]).map f
      rw [M.str o a v (h o rfl) fun q => z q.symm]
      split <;> rfl
theorem zfg {a1 a2 b1 b2 : Int} (c : a1 * b2 = a2 * b1) (hu : ¬ (a1 = 0 ∧ a2 = 0)) (hv : ¬ (b1 = 0 ∧ b2 = 0)) : 0 < a1 * b1 + a2 * b2 ↔ 0 < a1 * b1 ∨ (a1 = 0 ∧ b1 = 0 ∧ 0 < a2 * b2) := by
 by_cases z : a1 = 0
 ·subst z
  have hb : b1 = 0 := by
   have : a2 * b1 = 0 := by lia
   rcases Int.mul_eq_zero.mp this with q | q
   ·exact absurd ⟨rfl,q⟩ hu
   ·exact q
  subst hb
  simp
 ·have hp : 0 < a1 * a1 := by
   have h1 := uB a1
   have h2 : a1 * a1 ≠ 0 := fun q => by rcases Int.mul_eq_zero.mp q with q | q <;> exact z q
   exact (Int.lt_or_eq_of_le h1).resolve_right fun q => h2 q.symm
  have hq : 0 < a1 * a1 + a2 * a2 := by have := uB a2; lia
  have e : (a1 * a1) * (a1 * b1 + a2 * b2) = (a1 * a1 + a2 * a2) * (a1 * b1) := by grind
  rw [← xr hp,e,xr hq]
  constructor
  ·exact .inl
  ·rintro (q | q)
   ·exact q
   ·exact absurd q.1 z
theorem zeK {o m : Spot} (h : o ≠ m) : ¬ (m.1 - o.1 = 0 ∧ m.2 - o.2 = 0) := fun z => h (Prod.ext (by lia) (by lia))
noncomputable def mirS (p : Spot) : Spot := (-p.1,p.2)
noncomputable def mirG (g : Gate) : Gate := ⟨-g.x,g.lo,g.hi,-g.w⟩
theorem zc8 {a b p : Spot} (h : a.1 ≠ b.1) : xm (mirS a) (mirS b) (mirS p) = xm a b p := by
 unfold xm
 have e : xb (mirS a) (mirS b) (mirS p) = -xb a b p := by unfold xb mirS; simp only; grind
 rw [e]
 unfold mirS
 simp only
 by_cases z : 0 < b.1 - a.1
 ·rw [if_pos z,if_neg (by lia),Int.neg_neg]
 ·rw [if_neg z,if_pos (by lia)]
theorem zi9 : Mp mirS mirG where
 bwp := fun a b G => by unfold bw mirS mirG; simp only; lia
 bey := fun a b G p d h ⟨k1,k2⟩ => by
  refine ⟨by unfold mirS mirG; simp only; lia,?_⟩
  rw [zc8 h]
  exact k2
 inv := fun a b G p' d h ⟨k1,k2⟩ => by
  have e : p' = mirS (mirS p') := by unfold mirS; simp
  rw [e,zc8 h] at k2
  exact ⟨mirS p',e,by unfold mirS mirG at *; simp only at *; lia,k2⟩
 inj := fun a b h => by
  unfold mirS at h
  simp only [Prod.mk.injEq] at h
  exact Prod.ext (by lia) h.2
 str := fun o m n _ _ => by
  rw [Bool.eq_iff_iff,z8,z8]
  unfold mirS
  simp only
  constructor <;> rintro ⟨h1,h2⟩ <;> constructor <;> grind
noncomputable def slaS (k : Int) (p : Spot) : Spot := (p.1,p.2 + k * p.1)
noncomputable def slaG (k : Int) (g : Gate) : Gate := ⟨g.x,g.lo.map (· + k * g.x),g.hi.map (· + k * g.x),g.w⟩
theorem zcM {k : Int} {a b p : Spot} : xm (slaS k a) (slaS k b) (slaS k p) = xm a b p := by
 unfold xm
 have e : xb (slaS k a) (slaS k b) (slaS k p) = xb a b p := by unfold xb slaS; simp only; grind
 rw [e]
 rfl
theorem zi8 (k : Int) : Mp (slaS k) (slaG k) where
 bwp := fun a b G => Iff.rfl
 bey := fun a b G p d h ⟨k1,k2⟩ => by
  refine ⟨k1,?_⟩
  rw [zcM]
  rcases k2 with ⟨q1,q2⟩ | ⟨q1,q2⟩
  ·refine .inl ⟨?_,q2⟩
   show G.lo.map _ = some (p.2 + k * p.1)
   rw [q1,k1]; rfl
  ·refine .inr ⟨?_,q2⟩
   show G.hi.map _ = some (p.2 + k * p.1)
   rw [q1,k1]; rfl
 inv := fun a b G p' d h ⟨k1,k2⟩ => by
  have e : p' = slaS k (p'.1,p'.2 - k * p'.1) := by unfold slaS; exact Prod.ext rfl (by simp only; lia)
  refine ⟨(p'.1,p'.2 - k * p'.1),e,k1,?_⟩
  have hx : p'.1 = G.x := k1
  rw [e,zcM] at k2
  rcases k2 with ⟨q1,q2⟩ | ⟨q1,q2⟩
  ·refine .inl ⟨?_,q2⟩
   obtain ⟨y,ey,e2⟩ := Option.map_eq_some_iff.mp (show G.lo.map (· + k * G.x) = some _ from q1)
   rw [ey]
   congr 1
   show y = p'.2 - k * p'.1
   have : y + k * G.x = p'.2 - k * p'.1 + k * p'.1 := e2
   rw [hx] at this ⊢
   lia
  ·refine .inr ⟨?_,q2⟩
   obtain ⟨y,ey,e2⟩ := Option.map_eq_some_iff.mp (show G.hi.map (· + k * G.x) = some _ from q1)
   rw [ey]
   congr 1
   show y = p'.2 - k * p'.1
   have : y + k * G.x = p'.2 - k * p'.1 + k * p'.1 := e2
   rw [hx] at this ⊢
   lia
 inj := fun a b h => by
  unfold slaS at h
  simp only [Prod.mk.injEq] at h
  have h2 := h.2
  rw [h.1] at h2
  exact Prod.ext h.1 (by lia)
 str := fun o m n h1 h2 => by
  rw [Bool.eq_iff_iff,z8,z8]
  have u := zeK h1
  have v := zeK h2
  unfold slaS
  simp only
  have c : (m.1 - o.1) * (n.2 + k * n.1 - (m.2 + k * m.1)) = (m.2 + k * m.1 - (o.2 + k * o.1)) * (n.1 - m.1) ↔ (m.1 - o.1) * (n.2 - m.2) = (m.2 - o.2) * (n.1 - m.1) := by constructor <;> intro h <;> grind
  rw [c]
  refine and_congr_right fun hc => ?_
  rw [zfg (c.mpr hc) (fun z => u ?_) (fun z => v ?_),zfg hc u v]
  ·refine or_congr_right (and_congr_right fun z1 => and_congr_right fun z2 => ?_)
   rw [show m.2 + k * m.1 - (o.2 + k * o.1) = m.2 - o.2 by grind,show n.2 + k * n.1 - (m.2 + k * m.1) = n.2 - m.2 by grind]
  ·obtain ⟨z1,z2⟩ := z
   exact ⟨z1,by grind⟩
  ·obtain ⟨z1,z2⟩ := z
   exact ⟨z1,by grind⟩
theorem Pul.mem {run run' : List Gate} (h1 : ∀ g ∈ run,∃ g' ∈ run',g'.x = g.x ∧ g'.lo = g.lo ∧ g'.hi = g.hi) (h2 : ∀ g ∈ run',∃ g' ∈ run,g'.x = g.x ∧ g'.lo = g.lo ∧ g'.hi = g.hi) {a b : Spot} {l : List Spot} (h : Pul run a b l) : Pul run' a b l := by
 have cv : ∀ {a b p : Spot} {d : Int} {g g' : Gate},g'.x = g.x → g'.lo = g.lo → g'.hi = g.hi → Bey a b g p d → Bey a b g' p d := fun e1 e2 e3 ⟨k1,k2⟩ => ⟨by rw [e1]; exact k1,by rw [e2,e3]; exact k2⟩
 induction h with
 | @stop a b h =>
   refine .stop fun g hg hb p d k => ?_
   obtain ⟨g',hg',e1,e2,e3⟩ := h2 g hg
   exact h g' hg' (by rw [e1]; exact hb) p d (cv e1 e2 e3 k)
 | @split a b p d g l1 l2 hg hb hB hd far _ _ ih1 ih2 =>
   obtain ⟨g',hg',e1,e2,e3⟩ := h1 g hg
   refine .split hg' (by rw [e1]; exact hb) (cv e1 e2 e3 hB) hd (fun g1 hg1 hb1 p1 d1 k => ?_) ih1 ih2
   obtain ⟨g2,hg2,f1,f2,f3⟩ := h2 g1 hg1
   exact far g2 hg2 (by rw [f1]; exact hb1) p1 d1 (cv f1 f2 f3 k)
noncomputable def negG (g : Gate) : Gate := ⟨g.x,g.lo,g.hi,-g.w⟩
noncomputable def revR (run : List Gate) : List Gate := (run.map negG).reverse
theorem ul {run : List Gate} {a b : Spot} {l : List Spot} (h : Pul run a b l) : ∃ l',Pul (revR run) b a l' ∧ b :: l' = (a :: l).reverse := by
 obtain ⟨l',k,e⟩ := zaG h
 refine ⟨l',k.mem (fun g hg => ⟨negG g,?_,rfl,rfl,rfl⟩) (fun g hg => ?_),e⟩
 ·unfold revR
  rw [List.mem_reverse]
  exact List.mem_map_of_mem hg
 ·unfold revR at hg
  rw [List.mem_reverse] at hg
  obtain ⟨g',hg',rfl⟩ := List.mem_map.mp hg
  exact ⟨g',hg',rfl,rfl,rfl⟩
noncomputable def zV (g h : Gate) : Bool := match g.hi,h.lo with
 | some u,some v => decide (u ≤ v)
 | _,_ => false
noncomputable def zL (g h : Gate) : Spot × Spot := if zV g h = true then ((g.x,g.hi.getD 0),(g.x,h.lo.getD 0)) else ((g.x,g.lo.getD 0),(g.x,h.hi.getD 0))
noncomputable def zB (R : List Gate) : Gate := R.getLastD ⟨0,none,none,0⟩
noncomputable def xT (R : List Gate) : Gate := R.headD ⟨0,none,none,0⟩
noncomputable def yA : List (List Gate) → Spot → List (List Gate × Spot)
 | [],e => [([],e)]
 | [R],e => [(R,e)]
 | R :: S :: rs,e => (R,(zL (zB R) (xT S)).1) :: ([],(zL (zB R) (xT S)).2) :: yA (S :: rs) e
theorem zbx : ∀ (rs : List (List Gate)) (R S : List Gate) (e : Spot),yA (rs ++ [R,S]) e = yA (rs ++ [R]) (zL (zB R) (xT S)).1 ++ [([],(zL (zB R) (xT S)).2),(S,e)]
 | [],R,S,e => rfl
 | [Q],R,S,e => rfl
 | Q :: P :: rs,R,S,e => by
   have ih := zbx (P :: rs) R S e
   simp only [List.cons_append] at ih ⊢
   rw [yA,ih,yA]
   rfl
theorem Tot.app {b : Spot} {legs2 : List (List Gate × Spot)} {l2 : List Spot} (h2 : Tot b legs2 l2) : ∀ {legs1 : List (List Gate × Spot)} {a : Spot} {l1 : List Spot},Tot a legs1 l1 → (a :: legs1.map (·.2)).getLast? = some b → Tot a (legs1 ++ legs2) (l1 ++ l2)
 | [],a,l1,h,e => by
   cases h
   simp at e
   subst e
   exact h2
 | (run,c) :: legs,a,l1,h,e => by
   cases h with
   | cons h1 h3 =>
     rw [List.append_assoc]
     refine .cons h1 (Tot.app h2 h3 ?_)
     simpa using e
theorem zbz : ∀ (rs : List (List Gate)) (a e : Spot),(a :: (yA rs e).map (·.2)).getLast? = some e
 | [],a,e => rfl
 | [R],a,e => rfl
 | R :: S :: rs,a,e => by
   have := zbz (S :: rs) (zL (zB R) (xT S)).2 e
   simp only [yA,List.map_cons]
   rw [List.getLast?_cons_cons,List.getLast?_cons_cons]
   exact this
structure TurnOk (t g : Gate) : Prop where
 x : t.x = g.x
 one : (∃ u v,t.hi = some u ∧ g.lo = some v ∧ u ≤ v) ∨ (∃ u v,g.hi = some u ∧ t.lo = some v ∧ u ≤ v)
 tw : ∀ u v,t.lo = some u → t.hi = some v → u < v
 gw : ∀ u v,g.lo = some u → g.hi = some v → u < v
theorem zaw {t g : Gate} (h : TurnOk t g) : zL (negG g) (negG t) = ((zL t g).2,(zL t g).1) := by
 have e1 : zV (negG g) (negG t) = zV g t := rfl
 have n : zV t g = true → zV g t = false := by
  intro q
  cases hh : zV g t with
  | false => rfl
  | true =>
    unfold zV at q hh
    cases a : t.hi with
    | none => rw [a] at q; cases q
    | some u =>
      cases b : g.lo with
      | none => rw [a,b] at q; cases q
      | some v =>
        cases c : g.hi with
        | none => rw [c] at hh; cases hh
        | some u' =>
          cases d : t.lo with
          | none => rw [c,d] at hh; cases hh
          | some v' =>
            rw [a,b] at q
            rw [c,d] at hh
            have q := of_decide_eq_true q
            have hh := of_decide_eq_true hh
            have := h.tw _ _ d a
            have := h.gw _ _ b c
            lia
 have y : zV t g = true ∨ zV g t = true := by
  rcases h.one with ⟨u,v,e,e',l⟩ | ⟨u,v,e,e',l⟩
  ·left; unfold zV; rw [e,e']; exact decide_eq_true l
  ·right; unfold zV; rw [e,e']; exact decide_eq_true l
 unfold zL
 rw [e1]
 cases q : zV t g with
 | true =>
   rw [n q,if_neg Bool.false_ne_true,if_pos rfl]
   show ((g.x,g.lo.getD 0),(g.x,t.hi.getD 0)) = _
   rw [← h.x]
 | false =>
   rw [q] at y
   rcases y with y | y
   ·cases y
   ·rw [y,if_pos rfl,if_neg Bool.false_ne_true]
    show ((g.x,g.hi.getD 0),(g.x,t.lo.getD 0)) = _
    rw [← h.x]
noncomputable def wG : List (List Gate) → Prop
 | R :: S :: rs => TurnOk (zB R) (xT S) ∧ R ≠ [] ∧ S ≠ [] ∧ wG (S :: rs)
 | _ => True
theorem zeU {R : List Gate} (h : R ≠ []) : zB (revR R) = negG (xT R) := by
 cases R with
 | nil => exact absurd rfl h
 | cons g r =>
   unfold zB revR xT
   rw [List.map_cons,List.reverse_cons,List.getLastD_eq_getLast?,List.getLast?_concat]
   rfl
theorem zbD {R : List Gate} (h : R ≠ []) : xT (revR R) = negG (zB R) := by
 unfold zB revR xT
 rw [List.headD_eq_head?_getD,List.head?_reverse,List.getLast?_map,List.getLastD_eq_getLast?,List.getLast?_eq_some_getLast h]
 rfl
theorem zd7 : ∀ (rs : List (List Gate)) (s e : Spot) (T : List Spot),wG rs → Tot s (yA rs e) T → ∃ T',Tot e (yA (rs.map revR).reverse s) T' ∧ e :: T' = (s :: T).reverse
 | [],s,e,T,_,h => by
   cases h with
   | cons h1 h2 =>
     cases h2
     obtain ⟨l',k,q⟩ := ul h1
     refine ⟨l' ++ [],.cons k .nil,?_⟩
     rw [List.append_nil,List.append_nil]
     exact q
 | [R],s,e,T,_,h => by
   cases h with
   | cons h1 h2 =>
     cases h2
     obtain ⟨l',k,q⟩ := ul h1
     refine ⟨l' ++ [],.cons k .nil,?_⟩
     rw [List.append_nil,List.append_nil]
     exact q
 | R :: S :: rs,s,e,T,ok,h => by
   obtain ⟨ht,hR,hS,ok'⟩ := ok
   cases h with
   | @cons _ _ _ l1 _ _ h1 h2 =>
     cases h2 with
     | @cons _ _ _ l2 T2 _ h2 h3 =>
       obtain ⟨T2',k3,q3⟩ := zd7 (S :: rs) _ e T2 ok' h3
       obtain ⟨l1',k1,q1⟩ := ul h1
       obtain ⟨l2',k2,q2⟩ := ul h2
       have et := zaw ht
       rw [← zeU hS,← zbD hR] at et
       have el : yA ((R :: S :: rs).map revR).reverse s = yA ((S :: rs).map revR).reverse (zL (zB R) (xT S)).2 ++ [([],(zL (zB R) (xT S)).1),(revR R,s)] := by
        simp only [List.map_cons,List.reverse_cons,List.append_assoc,List.cons_append,List.nil_append]
        rw [zbx,et]
       rw [el]
       refine ⟨T2' ++ (l2' ++ (l1' ++ [])),Tot.app ?_ k3 (zbz _ _ _),?_⟩
       ·exact .cons k2 (.cons k1 .nil)
       ·rw [List.append_nil,← List.cons_append,q3]
        simp only [List.reverse_cons,List.reverse_append,List.append_assoc] at q1 q2 ⊢
        simp only [List.cons_append,List.nil_append]
        rw [← List.cons_append,q2,List.append_assoc,List.singleton_append,q1]
noncomputable def unr : List Spot → List Spot
 | [] => []
 | [a] => [a]
 | a :: b :: r => if b = a then unr (a :: r) else a :: unr (b :: r)
termination_by l => l.length
theorem yu (a : Spot) (r : List Spot) : unr (a :: a :: r) = unr (a :: r) := by rw [unr,if_pos rfl]
theorem xE {a b : Spot} (r : List Spot) (h : b ≠ a) : unr (a :: b :: r) = a :: unr (b :: r) := by rw [unr,if_neg h]
theorem xI (a : Spot) : unr [a] = [a] := by rw [unr]
theorem zcJ : ∀ (r : List Spot) (a : Spot),∃ t,unr (a :: r) = a :: t
 | [],a => ⟨[],xI a⟩
 | b :: r,a => by
   by_cases z : b = a
   ·subst z
    obtain ⟨t,e⟩ := zcJ r b
    exact ⟨t,by rw [yu,e]⟩
   ·exact ⟨_,xE r z⟩
theorem za5 : ∀ (l : List Spot) (o a : Spot),bnd (some o) a l = inner (o :: unr (a :: l))
 | [],o,a => by rw [xI]; rfl
 | v :: r,o,a => by
   show (if v = a then bnd (some o) a r else co (some o) [a,v] ++ bnd (some a) v r) = _
   by_cases z : v = a
   ·subst z
    rw [if_pos rfl,za5 r o v,yu]
   ·rw [if_neg z,za5 r a v,xE r z]
    obtain ⟨t,e⟩ := zcJ r v
    rw [e,inner]
    rfl
theorem uv : ∀ (l : List Spot) (a : Spot),bnd none a l = inner (unr (a :: l))
 | [],a => by rw [xI]; rfl
 | v :: r,a => by
   show (if v = a then bnd none a r else [] ++ bnd (some a) v r) = _
   by_cases z : v = a
   ·subst z
    rw [if_pos rfl,uv r v,yu]
   ·rw [if_neg z,List.nil_append,za5,xE r z]
theorem vg (b : Spot) : ∀ (l : List Spot) (a : Spot),unr (l ++ [a,b]) = if b = a then unr (l ++ [a]) else unr (l ++ [a]) ++ [b]
 | [],a => by
   by_cases z : b = a
   ·subst z
    rw [if_pos rfl]
    exact yu b []
   ·rw [if_neg z]
    show unr (a :: b :: []) = unr [a] ++ [b]
    rw [xE [] z,xI,xI]
    rfl
 | [x],a => by
   show unr (x :: a :: [b]) = if b = a then unr (x :: a :: []) else unr (x :: a :: []) ++ [b]
   have ih := vg b [] a
   simp only [List.nil_append] at ih
   by_cases q : a = x
   ·subst q
    rw [yu,yu,ih]
   ·rw [xE _ q,xE _ q,ih]
    split <;> simp
 | x :: y :: l,a => by
   simp only [List.cons_append]
   by_cases q : y = x
   ·subst q
    rw [yu,yu]
    exact vg b (y :: l) a
   ·have ih := vg b (y :: l) a
    simp only [List.cons_append] at ih
    rw [xE _ q,xE _ q,ih]
    split <;> simp
termination_by l => l.length
theorem zd1 : ∀ l : List Spot,unr l.reverse = (unr l).reverse
 | [] => by simp [unr]
 | [a] => by simp [unr]
 | a :: b :: r => by
   have ih := zd1 (b :: r)
   rw [List.reverse_cons] at ih
   simp only [List.reverse_cons,List.append_assoc,List.cons_append,List.nil_append]
   rw [vg]
   by_cases z : b = a
   ·subst z
    rw [if_pos rfl,yu,ih]
   ·rw [if_neg fun q => z q.symm,xE r z,ih,List.reverse_cons]
termination_by l => l.length
theorem zid {a b : Spot} {l l' : List Spot} (h : b :: l' = (a :: l).reverse) : bnd none b l' = (bnd none a l).reverse := by
 rw [uv,uv,h,zd1,vq]
noncomputable def x9 (s : Spot) (rs : List (List Gate)) (e : Spot) (out : List Spot) : Prop := ∃ T,Tot s (yA rs e) T ∧ out = s :: (bnd none s T ++ [e])
noncomputable def v4 (rs : List (List Gate)) : Prop := ∀ R ∈ rs,xM R
theorem zgX : xM [] := fun g hg => absurd hg (by simp)
theorem zeS : ∀ {rs : List (List Gate)} {e : Spot},v4 rs → ∀ p ∈ yA rs e,xM p.1
 | [],e,_,p,hp => by
   rw [List.mem_singleton.mp hp]
   exact zgX
 | [R],e,h,p,hp => by
   rw [List.mem_singleton.mp hp]
   exact h R (by simp)
 | R :: S :: rs,e,h,p,hp => by
   rcases List.mem_cons.mp hp with rfl | hp
   ·exact h R (by simp)
   ·rcases List.mem_cons.mp hp with rfl | hp
    ·exact zgX
    ·exact zeS (fun Q hQ => h Q (List.mem_cons_of_mem _ hQ)) p hp
theorem uJ {s e : Spot} {rs : List (List Gate)} {out out' : List Spot} (ok : v4 rs) (h : x9 s rs e out) (h' : x9 s rs e out') : out = out' := by
 obtain ⟨T,t,rfl⟩ := h
 obtain ⟨T',t',rfl⟩ := h'
 rw [zax (o := none) (o' := none) (zeS ok) t t' trivial]
theorem zdD {R : List Gate} (h : xM R) : xM (revR R) := by
 intro g hg g' hg' hx u v e1 e2
 unfold revR at hg hg'
 obtain ⟨g1,k1,rfl⟩ := List.mem_map.mp (List.mem_reverse.mp hg)
 obtain ⟨g2,k2,rfl⟩ := List.mem_map.mp (List.mem_reverse.mp hg')
 exact h g1 k1 g2 k2 hx u v e1 e2
theorem zdF {s e : Spot} {rs : List (List Gate)} {out out' : List Spot} (ok : v4 rs) (tn : wG rs) (h : x9 s rs e out) (h' : x9 e (rs.map revR).reverse s out') : out' = out.reverse := by
 obtain ⟨T,t,rfl⟩ := h
 obtain ⟨T1,t1,q⟩ := zd7 rs s e T tn t
 have ok' : v4 (rs.map revR).reverse := fun R hR => by
  obtain ⟨Q,hQ,rfl⟩ := List.mem_map.mp (List.mem_reverse.mp hR)
  exact zdD (ok Q hQ)
 rw [uJ ok' h' ⟨T1,t1,rfl⟩,zid q]
 simp
theorem zae {f : Spot → Spot} {g : Gate → Gate} (M : Mp f g) (hr : ∀ R,xM R → xM (R.map g)) (ht : ∀ t h,TurnOk t h → zL (g t) (g h) = (f (zL t h).1,f (zL t h).2)) {s e : Spot} {rs : List (List Gate)} {out out' : List Spot}
 (ok : v4 rs) (tn : wG rs) (h : x9 s rs e out) (h' : x9 (f s) (rs.map (List.map g)) (f e) out') : out' = out.map f := by
 obtain ⟨T,t,rfl⟩ := h
 have hl : ∀ rs : List (List Gate),wG rs → mapL f g (yA rs e) = yA (rs.map (List.map g)) (f e) := by
  intro rs
  induction rs with
  | nil => intro _; rfl
  | cons R rs ih =>
    cases rs with
    | nil => intro _; rfl
    | cons S rs =>
      rintro ⟨k1,k2,k3,k4⟩
      have e1 : zB (R.map g) = g (zB R) := by
       unfold zB
       rw [List.getLastD_eq_getLast?,List.getLastD_eq_getLast?,List.getLast?_map,List.getLast?_eq_some_getLast k2]
       rfl
      have e2 : xT (S.map g) = g (xT S) := by
       cases S with
       | nil => exact absurd rfl k3
       | cons z r => rfl
      have := ih k4
      simp only [List.map_cons] at this ⊢
      simp only [yA]
      rw [e1,e2,ht _ _ k1,← this]
      rfl
 have t1 := zhh M t
 rw [hl rs tn] at t1
 have ok' : v4 (rs.map (List.map g)) := fun R hR => by
  obtain ⟨Q,hQ,rfl⟩ := List.mem_map.mp hR
  exact hr Q (ok Q hQ)
 rw [uJ ok' h' ⟨_,t1,rfl⟩]
 have := zcx M T none s (fun x e => by cases e)
 simp only [Option.map_none] at this
 rw [this]
 simp
theorem zgh (R : List Gate) (h : xM R) : xM (R.map mirG) := by
 intro g hg g' hg' hx u v e1 e2
 obtain ⟨g1,k1,rfl⟩ := List.mem_map.mp hg
 obtain ⟨g2,k2,rfl⟩ := List.mem_map.mp hg'
 refine h g1 k1 g2 k2 ?_ u v e1 e2
 have : -g1.x = -g2.x := hx
 lia
theorem zgg (t h : Gate) (_ : TurnOk t h) : zL (mirG t) (mirG h) = (mirS (zL t h).1,mirS (zL t h).2) := by
 unfold zL
 have : zV (mirG t) (mirG h) = zV t h := rfl
 rw [this]
 split <;> rfl
theorem zfR (k : Int) (R : List Gate) (h : xM R) : xM (R.map (slaG k)) := by
 intro g hg g' hg' hx u v e1 e2
 obtain ⟨g1,k1,rfl⟩ := List.mem_map.mp hg
 obtain ⟨g2,k2,rfl⟩ := List.mem_map.mp hg'
 have hx : g1.x = g2.x := hx
 obtain ⟨y,q1,q2⟩ := Option.map_eq_some_iff.mp (show g1.lo.map (· + k * g1.x) = some u from e1)
 obtain ⟨z,q3,q4⟩ := Option.map_eq_some_iff.mp (show g2.hi.map (· + k * g2.x) = some v from e2)
 have := h g1 k1 g2 k2 hx y z q1 q3
 rw [hx] at q2
 lia
theorem zfQ (k : Int) (t h : Gate) (ok : TurnOk t h) : zL (slaG k t) (slaG k h) = (slaS k (zL t h).1,slaS k (zL t h).2) := by
 have hx := ok.x
 have eb : zV (slaG k t) (slaG k h) = zV t h := by
  unfold zV slaG
  simp only
  cases a : t.hi with
  | none => rfl
  | some u =>
    cases b : h.lo with
    | none => rfl
    | some v =>
      simp only [Option.map_some]
      rw [hx]
      exact decide_eq_decide.mpr (by lia)
 unfold zL
 rw [eb]
 cases q : zV t h with
 | true =>
   rw [if_pos rfl,if_pos rfl]
   unfold zV at q
   cases a : t.hi with
   | none => rw [a] at q; cases q
   | some u =>
     cases b : h.lo with
     | none => rw [a,b] at q; cases q
     | some v =>
       unfold slaG slaS
       simp only [a,b,hx,Option.map_some,Option.getD_some]
 | false =>
   rw [if_neg Bool.false_ne_true,if_neg Bool.false_ne_true]
   rcases ok.one with ⟨u,v,e1,e2,e3⟩ | ⟨u,v,e1,e2,e3⟩
   ·unfold zV at q
    rw [e1,e2] at q
    exact absurd e3 (of_decide_eq_false q)
   ·unfold slaG slaS
    simp only [e1,e2,hx,Option.map_some,Option.getD_some]
noncomputable def yv : List Gate → List (List Gate)
 | [] => []
 | g :: r => match yv r with
   | (h :: R) :: rs => if g.w = h.w then (g :: h :: R) :: rs else [g] :: (h :: R) :: rs
   | _ => [[g]]
noncomputable def Up (a b : Gate) : Prop := a.w = b.w ∧ (a.w = 1 → a.x < b.x) ∧ (a.w ≠ 1 → b.x < a.x)
theorem Up.trans {a b c : Gate} (h : Up a b) (k : Up b c) : Up a c := by
 obtain ⟨h1,h2,h3⟩ := h
 obtain ⟨k1,k2,k3⟩ := k
 refine ⟨h1.trans k1,fun z => ?_,fun z => ?_⟩
 ·have := h2 z; have := k2 (by rw [← h1]; exact z); lia
 ·have := h3 z; have := k3 (by rw [← h1]; exact z); lia
noncomputable def Walk : List Gate → Prop
 | t :: g :: r => (t.w = g.w → Up t g) ∧ (t.w ≠ g.w → TurnOk t g) ∧ Walk (g :: r)
 | _ => True
noncomputable def GateOk (g : Gate) : Prop := ∀ u v,g.lo = some u → g.hi = some v → u < v
noncomputable def Spl : List (List Gate) → Prop
 | [] => True
 | [R] => R ≠ [] ∧ R.Pairwise Up
 | R :: S :: rs => R ≠ [] ∧ R.Pairwise Up ∧ (zB R).w ≠ (xT S).w ∧ TurnOk (zB R) (xT S) ∧ Spl (S :: rs)
theorem yP {g h : Gate} {r R : List Gate} {rs : List (List Gate)} (e : yv r = (h :: R) :: rs) : yv (g :: r) = if g.w = h.w then (g :: h :: R) :: rs else [g] :: (h :: R) :: rs := by
 rw [yv,e]
theorem wv : ∀ row : List Gate,(yv row).flatten = row
 | [] => rfl
 | g :: r => by
   have ih := wv r
   cases hr : yv r with
   | nil =>
     rw [hr] at ih
     rw [yv,hr,← ih]
     rfl
   | cons R rs =>
     cases R with
     | nil =>
       rw [hr] at ih
       exfalso
       cases r with
       | nil => cases hr
       | cons x r =>
         rw [yv] at hr
         split at hr
         ·split at hr <;> cases hr
         ·cases hr
     | cons h R =>
       rw [hr] at ih
       rw [yP hr]
       split
       ·rw [List.flatten_cons,List.cons_append,← ih,List.flatten_cons]
       ·rw [List.flatten_cons,← ih]
        rfl
theorem wu : ∀ (g : Gate) (r : List Gate),∃ R rs,yv (g :: r) = (g :: R) :: rs := by
 intro g r
 rw [yv]
 split
 ·split
  ·exact ⟨_,_,rfl⟩
  ·exact ⟨_,_,rfl⟩
 ·exact ⟨_,_,rfl⟩
theorem uj : ∀ row : List Gate,Walk row → Spl (yv row)
 | [],_ => trivial
 | [g],_ => ⟨by simp,by simp⟩
 | g :: h :: r,⟨w1,w2,w3⟩ => by
   have ih := uj (h :: r) w3
   obtain ⟨R,rs,e⟩ := wu h r
   rw [yP e]
   rw [e] at ih
   split
   ·rename_i hw
    have u := w1 hw
    have pw : ∀ Q : List Gate,(h :: Q).Pairwise Up → (g :: h :: Q).Pairwise Up := fun Q hQ => List.pairwise_cons.mpr ⟨fun x hx => by
     rcases List.mem_cons.mp hx with rfl | hx
     ·exact u
     ·exact u.trans ((List.pairwise_cons.mp hQ).1 x hx),hQ⟩
    cases rs with
    | nil => exact ⟨by simp,pw R ih.2⟩
    | cons S rs =>
      obtain ⟨_,i2,i3,i4,i5⟩ := ih
      have el : zB (g :: h :: R) = zB (h :: R) := by
       unfold zB
       rw [List.getLastD_eq_getLast?,List.getLastD_eq_getLast?,List.getLast?_cons_cons]
      exact ⟨by simp,pw R i2,by rw [el]; exact i3,by rw [el]; exact i4,i5⟩
   ·rename_i hw
    exact ⟨by simp,by simp,hw,w2 hw,ih⟩
theorem uC : ∀ rs : List (List Gate),Spl rs → wG rs
 | [],_ => trivial
 | [R],_ => trivial
 | R :: S :: rs,⟨h1,_,_,h4,h5⟩ => ⟨h4,h1,by
     cases rs with
     | nil => exact h5.1
     | cons _ _ => exact h5.1,uC (S :: rs) h5⟩
theorem zb3 : ∀ {rs : List (List Gate)},Spl rs → ∀ R ∈ rs,R ≠ [] ∧ R.Pairwise Up
 | [],_,R,h => absurd h (by simp)
 | [Q],s,R,h => by rw [List.mem_singleton.mp h]; exact s
 | Q :: S :: rs,s,R,h => by
   rcases List.mem_cons.mp h with rfl | h
   ·exact ⟨s.1,s.2.1⟩
   ·exact zb3 s.2.2.2.2 R h
theorem up_ok {R : List Gate} (h : R.Pairwise Up) (k : ∀ g ∈ R,GateOk g) : xM R := by
 intro g hg g' hg' hx u v e1 e2
 have : g = g' := by
  by_cases z : g = g'
  ·exact z
  ·exfalso
   have hne : ∀ a b : Gate,Up a b → a.x ≠ b.x := fun a b ⟨_,h2,h3⟩ => by
    by_cases q : a.w = 1
    ·have := h2 q; lia
    ·have := h3 q; lia
   have h' : R.Pairwise fun a b => a.x ≠ b.x := h.imp fun {a b} q => hne a b q
   rw [List.pairwise_iff_getElem] at h'
   obtain ⟨i,hi,rfl⟩ := List.getElem_of_mem hg
   obtain ⟨j,hj,rfl⟩ := List.getElem_of_mem hg'
   rcases Nat.lt_trichotomy i j with q | q | q
   ·exact h' i j hi hj q hx
   ·subst q; exact z rfl
   ·exact h' j i hj hi q hx.symm
 subst this
 have := k g hg u v e1 e2
 lia
theorem zhp {row : List Gate} (h : Walk row) (k : ∀ g ∈ row,GateOk g) : v4 (yv row) := by
 intro R hR
 refine up_ok (zb3 (uj row h) R hR).2 fun g hg => k g ?_
 rw [← wv row]
 exact List.mem_flatten.mpr ⟨R,hR,hg⟩
theorem zaC {g : Gate → Gate} (hw : ∀ a b,(g a).w = (g b).w ↔ a.w = b.w) : ∀ row : List Gate,yv (row.map g) = (yv row).map (List.map g)
 | [] => rfl
 | [x] => rfl
 | x :: y :: r => by
   have ih := zaC hw (y :: r)
   obtain ⟨R,rs,e⟩ := wu y r
   rw [e] at ih
   rw [yP e,List.map_cons,yP ih]
   by_cases z : x.w = y.w
   ·rw [if_pos z,if_pos ((hw x y).mpr z)]; rfl
   ·rw [if_neg z,if_neg fun q => z ((hw x y).mp q)]; rfl
theorem uk {R : List Gate} (hu : R.Pairwise Up) : ∀ (hR : R ≠ []) {r : List Gate},(∀ h ∈ r.head?,(zB R).w ≠ h.w) → yv (R ++ r) = R :: yv r := by
 induction R with
 | nil => exact fun z => absurd rfl z
 | cons g R ih =>
   intro _ r hr
   cases R with
   | nil =>
     cases r with
     | nil => rfl
     | cons h r =>
       obtain ⟨Q,rs,e⟩ := wu h r
       show yv (g :: h :: r) = _
       rw [yP e,if_neg (show ¬ g.w = h.w from hr h (by simp)),e]
   | cons g' R =>
     have el : zB (g :: g' :: R) = zB (g' :: R) := by
      unfold zB
      rw [List.getLastD_eq_getLast?,List.getLastD_eq_getLast?,List.getLast?_cons_cons]
     rw [el] at hr
     have := ih (List.pairwise_cons.mp hu).2 (by simp) hr
     have hw := ((List.pairwise_cons.mp hu).1 g' (by simp)).1
     show yv (g :: (g' :: R ++ r)) = _
     rw [yP this,if_pos hw]
theorem zes {R : List Gate} (h : R.Pairwise Up) (hw : ∀ g ∈ R,g.w = 1 ∨ g.w = -1) : (revR R).Pairwise Up := by
 unfold revR
 rw [List.pairwise_reverse,List.pairwise_map]
 refine h.imp_of_mem fun {a b} ha hb ⟨h1,h2,h3⟩ => ⟨?_,fun z => ?_,fun z => ?_⟩
 ·show -b.w = -a.w
  lia
 ·have z : -b.w = 1 := z
  exact h3 (by lia)
 ·have z : -b.w ≠ 1 := z
  refine h2 ?_
  rcases hw b hb with q | q <;> lia
theorem zcS : ∀ {rs : List (List Gate)},Spl rs → (∀ R ∈ rs,∀ g ∈ R,g.w = 1 ∨ g.w = -1) → yv (revR rs.flatten) = (rs.map revR).reverse
 | [],_,_ => rfl
 | [R],s,hw => by
   have := uk (r := []) (zes s.2 (hw R (by simp))) (by unfold revR; simpa using s.1) (by simp)
   rw [List.append_nil] at this
   simp only [List.flatten_cons,List.flatten_nil,List.append_nil]
   rw [this]
   rfl
 | R :: S :: rs,s,hw => by
   obtain ⟨h1,h2,h3,h4,h5⟩ := s
   have ih := zcS h5 fun Q hQ => hw Q (List.mem_cons_of_mem _ hQ)
   have hS := (zb3 h5 S (by simp))
   have key : ∀ (l : List Gate) (rs' : List (List Gate)),yv l = rs' → (∀ x ∈ l.getLast?,x.w ≠ (xT (revR R)).w) → yv (l ++ revR R) = rs' ++ [revR R] := by
    intro l
    have hRr : revR R ≠ [] := by unfold revR; simpa using h1
    have hRu := zes h2 (hw R (by simp))
    have e0 : yv (revR R) = [revR R] := by
     have := uk (r := []) hRu hRr (by simp)
     rwa [List.append_nil] at this
    induction l with
    | nil => rintro rs' rfl _; exact e0
    | cons g l ihl =>
      rintro rs' rfl hl
      cases l with
      | nil =>
        obtain ⟨y,t,ey⟩ := List.exists_cons_of_ne_nil hRr
        rw [ey] at e0 hl ⊢
        show yv (g :: y :: t) = _
        rw [yP e0,if_neg (show ¬ g.w = y.w from hl g (by simp))]
        rfl
      | cons h l =>
        have := ihl _ rfl (by simpa using hl)
        obtain ⟨Q,qs,e⟩ := wu h l
        rw [e] at this
        show yv (g :: (h :: l ++ revR R)) = _
        rw [yP this,yP e]
        split <;> rfl
   rw [List.flatten_cons]
   have er : revR (R ++ (S :: rs).flatten) = revR (S :: rs).flatten ++ revR R := by
    unfold revR
    rw [List.map_append,List.reverse_append]
   rw [er,key _ _ ih]
   ·simp
   ·intro x hx
    unfold revR at hx
    rw [List.getLast?_reverse,List.head?_map,List.flatten_cons] at hx
    cases S with
    | nil => exact absurd rfl hS.1
    | cons g S =>
      simp only [List.cons_append,List.head?_cons,Option.map_some,Option.mem_some_iff] at hx
      subst hx
      rw [zbD h1]
      show -g.w ≠ -(zB R).w
      have : (zB R).w ≠ g.w := h3
      lia
noncomputable def PegOf (row : List Gate) (p : Spot) : Prop := ∃ g ∈ row,p.1 = g.x ∧ (g.lo = some p.2 ∨ g.hi = some p.2)
theorem PegOf.mono {row row' : List Gate} {p : Spot} (h : PegOf row p) (k : ∀ g ∈ row,g ∈ row') : PegOf row' p := by
 obtain ⟨g,hg,e⟩ := h
 exact ⟨g,k g hg,e⟩
theorem um {run : List Gate} {a b : Spot} {l : List Spot} (h : Pul run a b l) : ∃ m,l = m ++ [b] ∧ ∀ p ∈ m,PegOf run p := by
 induction h with
 | stop _ => exact ⟨[],rfl,by simp⟩
 | @split a b p d g l1 l2 hg hb hB _ _ _ _ ih1 ih2 =>
   obtain ⟨m1,rfl,h1⟩ := ih1
   obtain ⟨m2,rfl,h2⟩ := ih2
   refine ⟨m1 ++ [p] ++ m2,by simp,fun q hq => ?_⟩
   simp only [List.mem_append,List.mem_singleton] at hq
   rcases hq with (hq | rfl) | hq
   ·exact h1 q hq
   ·exact ⟨g,hg,hB.1,hB.2.imp (·.1) (·.1)⟩
   ·exact h2 q hq
theorem zd3 {t g : Gate} (h : TurnOk t g) : PegOf [t] (zL t g).1 ∧ PegOf [g] (zL t g).2 := by
 unfold zL
 by_cases z : zV t g = true
 ·rw [if_pos z]
  unfold zV at z
  cases a : t.hi with
  | none => rw [a] at z; cases z
  | some u =>
    cases b : g.lo with
    | none => rw [a,b] at z; cases z
    | some v => exact ⟨⟨t,by simp,rfl,.inr (by simpa using a)⟩,⟨g,by simp,h.x,.inl (by simpa using b)⟩⟩
 ·rw [if_neg z]
  rcases h.one with ⟨u,v,e1,e2,l⟩ | ⟨u,v,e1,e2,l⟩
  ·unfold zV at z
   rw [e1,e2] at z
   exact absurd (decide_eq_true l) z
  ·exact ⟨⟨t,by simp,rfl,.inl (by rw [e2]; rfl)⟩,⟨g,by simp,h.x,.inr (by rw [e1]; rfl)⟩⟩
theorem zby : ∀ (rs : List (List Gate)) (s e : Spot) (T : List Spot),wG rs → Tot s (yA rs e) T → ∃ m,T = m ++ [e] ∧ ∀ p ∈ m,PegOf rs.flatten p
 | [],s,e,T,_,h => by
   cases h with
   | cons P t =>
     cases t
     obtain ⟨m,rfl,k⟩ := um P
     exact ⟨m,by simp,fun p hp => k p hp⟩
 | [R],s,e,T,_,h => by
   cases h with
   | cons P t =>
     cases t
     obtain ⟨m,rfl,k⟩ := um P
     exact ⟨m,by simp,fun p hp => (k p hp).mono fun g hg => by simpa using hg⟩
 | R :: S :: rs,s,e,T,⟨k1,k2,k3,k4⟩,h => by
   cases h with
   | cons P t =>
     cases t with
     | cons P2 t =>
       obtain ⟨m1,rfl,h1⟩ := um P
       obtain ⟨m2,rfl,h2⟩ := um P2
       obtain ⟨m3,rfl,h3⟩ := zby (S :: rs) _ e _ k4 t
       obtain ⟨q1,q2⟩ := zd3 k1
       have lm : zB R ∈ R := by
        unfold zB
        rw [List.getLastD_eq_getLast?,List.getLast?_eq_some_getLast k2]
        exact List.getLast_mem k2
       have hm : xT S ∈ S := by
        cases S with
        | nil => exact absurd rfl k3
        | cons z r => exact List.mem_cons_self
       refine ⟨m1 ++ [(zL (zB R) (xT S)).1] ++ m2 ++ [(zL (zB R) (xT S)).2] ++ m3,by simp,fun p hp => ?_⟩
       simp only [List.mem_append,List.mem_singleton] at hp
       rcases hp with (((hp | rfl) | hp) | rfl) | hp
       ·exact (h1 p hp).mono fun g hg => List.mem_flatten.mpr ⟨R,by simp,hg⟩
       ·exact q1.mono fun g hg => by rw [List.mem_singleton.mp hg]; exact List.mem_flatten.mpr ⟨R,by simp,lm⟩
       ·obtain ⟨g,hg,_⟩ := h2 p hp
        simp at hg
       ·exact q2.mono fun g hg => by rw [List.mem_singleton.mp hg]; exact List.mem_flatten.mpr ⟨S,by simp,hm⟩
       ·exact (h3 p hp).mono fun g hg => by
         obtain ⟨Q,hQ,hg⟩ := List.mem_flatten.mp hg
         exact List.mem_flatten.mpr ⟨Q,by simp [List.mem_cons.mp hQ],hg⟩
noncomputable def w5 (k : List Spot) (p : Spot) : List Spot := match k.getLast? with
 | some t => if t = p then k else k ++ [p]
 | none => k ++ [p]
theorem vC : ∀ (l k : List Spot) (a : Spot),l.foldl w5 (k ++ [a]) = k ++ unr (a :: l)
 | [],k,a => by rw [xI]; rfl
 | p :: l,k,a => by
   have e : w5 (k ++ [a]) p = if a = p then k ++ [a] else k ++ [a] ++ [p] := by
    unfold w5
    rw [List.getLast?_concat]
   rw [List.foldl_cons,e]
   by_cases z : a = p
   ·subst z
    rw [if_pos rfl,vC l k a,yu]
   ·rw [if_neg z,vC l (k ++ [a]) p,xE l (fun q => z q.symm),List.append_assoc]
    rfl
theorem ux (l : List Spot) : l.foldl w5 [] = unr l := by
 cases l with
 | nil => rw [unr]; rfl
 | cons a l => exact vC l [] a
theorem zbZ : ∀ (l : List Spot) (a p : Spot),p ∈ unr (a :: l) → p ∈ a :: l
 | [],a,p,h => by rw [xI] at h; exact h
 | b :: l,a,p,h => by
   by_cases z : b = a
   ·subst z
    rw [yu] at h
    exact List.mem_cons_of_mem _ (zbZ l b p h)
   ·rw [xE l z] at h
    rcases List.mem_cons.mp h with rfl | h
    ·simp
    ·exact List.mem_cons_of_mem _ (zbZ l b p h)
theorem zdY {l : List Spot} {p : Spot} (h : p ∈ l.foldl w5 []) : p ∈ l := by
 rw [ux] at h
 cases l with
 | nil => rw [unr] at h; exact h
 | cons a l => exact zbZ l a p h
theorem zb0 : ∀ (l : List Spot) (a : Spot),(unr (a :: l)).length ≤ l.length + 1
 | [],a => by rw [xI]; simp
 | b :: l,a => by
   by_cases z : b = a
   ·subst z
    rw [yu]
    have := zb0 l b
    simp only [List.length_cons]
    lia
   ·rw [xE l z]
    have := zb0 l b
    simp only [List.length_cons]
    lia
theorem zgu (l : List Spot) : (l.foldl w5 []).length ≤ l.length := by
 rw [ux]
 cases l with
 | nil => rw [unr]; simp
 | cons a l => exact zb0 l a
theorem zhf {s e : Spot} {m : List Spot} (h1 : ∀ p ∈ m,p ≠ s) (h2 : ∀ p ∈ m,p ≠ e) : inner (s :: (m.foldl w5 [] ++ [e])) = bnd none s (m ++ [e]) := by
 rw [uv,ux]
 cases m with
 | nil =>
   have e0 : unr [] = [] := by rw [unr]
   rw [e0]
   show inner [s,e] = inner (unr [s,e])
   by_cases z : e = s
   ·subst z
    rw [yu,xI]
    rfl
   ·rw [xE _ z,xI]
 | cons p r =>
   rw [List.cons_append,xE _ (h1 p (by simp))]
   have hne : p :: r ≠ [] := by simp
   obtain ⟨q,z,hq⟩ : ∃ q z,p :: r = q ++ [z] := ⟨(p :: r).dropLast,(p :: r).getLast hne,(List.dropLast_concat_getLast hne).symm⟩
   have e1 : p :: (r ++ [e]) = q ++ [z,e] := by
    rw [← List.cons_append,hq,List.append_assoc]
    rfl
   have hz : e ≠ z := fun w => h2 z (by rw [hq]; simp) w.symm
   rw [e1,vg,if_neg hz,hq]
noncomputable def yG : List Spot → List (Spot × Spot × Spot)
 | o :: m :: n :: r => (o,m,n) :: yG (m :: n :: r)
 | _ => []
theorem zbA : ∀ l : List Spot,inner l = (yG l).filterMap fun t => if straight t.1 t.2.1 t.2.2 = true then none else some t.2.1
 | [] => rfl
 | [_] => rfl
 | [_,_] => rfl
 | o :: m :: n :: r => by
   rw [inner,yG,List.filterMap_cons,zbA (m :: n :: r)]
   cases straight o m n <;> rfl
theorem zd5 : ∀ {l : List Spot} {t : Spot × Spot × Spot},t ∈ yG l → t.1 ∈ l ∧ t.2.1 ∈ l ∧ t.2.2 ∈ l
 | [],_,h => by simp [yG] at h
 | [_],_,h => by simp [yG] at h
 | [_,_],_,h => by simp [yG] at h
 | o :: m :: n :: r,t,h => by
   rcases List.mem_cons.mp h with rfl | h
   ·simp
   ·obtain ⟨a,b,c⟩ := zd5 h
    exact ⟨List.mem_cons_of_mem _ a,List.mem_cons_of_mem _ b,List.mem_cons_of_mem _ c⟩
theorem uZ : ∀ l : List Spot,(inner l).length ≤ l.length
 | [] => Nat.le_refl _
 | [_] => by simp [inner]
 | [_,_] => by simp [inner]
 | o :: m :: n :: r => by
   rw [inner,List.length_append]
   have := uZ (m :: n :: r)
   simp only [List.length_cons] at this ⊢
   split <;> simp <;> lia
theorem zc4 : ∀ {l xs : List Int},l.Nodup → (∀ x ∈ l,x ∈ xs) → l.length ≤ xs.length
 | [],xs,_,_ => Nat.zero_le _
 | a :: l,xs,h,k => by
   have ha := k a (by simp)
   obtain ⟨h1,h2⟩ := List.nodup_cons.mp h
   have := zc4 (l := l) (xs := xs.erase a) h2 (fun x hx => (List.mem_erase_of_ne (show x ≠ a from fun e => h1 (by rw [← e]; exact hx))).mpr (k x (by simp [hx])))
   rw [List.length_erase_of_mem ha] at this
   have := List.length_pos_of_mem ha
   simp only [List.length_cons]
   lia
theorem zgL {R : List Gate} {xs : List Int} (h : R.Pairwise Up) (k : ∀ g ∈ R,g.x ∈ xs) : R.length ≤ xs.length := by
 rw [← List.length_map (f := Gate.x)]
 refine zc4 ?_ fun x hx => ?_
 ·rw [List.Nodup,List.pairwise_map]
  refine h.imp fun {a b} u => ?_
  obtain ⟨_,u1,u2⟩ := u
  by_cases z : a.w = 1
  ·have := u1 z; lia
  ·have := u2 z; lia
 ·obtain ⟨g,hg,rfl⟩ := List.mem_map.mp hx
  exact k g hg
noncomputable def tM (l : Int × List Int) (g : Gate) : Prop := g.x = l.1 ∧ ∃ k,k ≤ l.2.length ∧ g.lo = (if k = 0 then none else l.2[k - 1]?) ∧ g.hi = l.2[k]?
noncomputable def tK (B : List (Int × List Int)) (h : Int) (g : Gate) : Prop := ∃ l,tM l g ∧ ∃ i : Nat,B[i]? = some l ∧ ((g.w = 1 ∧ (i : Int) = h) ∨ (g.w = -1 ∧ (i : Int) = h - 1))
noncomputable def tL (B : List (Int × List Int)) : Int → List Gate → Prop
 | _,[] => True
 | h,g :: gs => tK B h g ∧ tL B (h + g.w) gs
noncomputable def Red : List Gate → Prop
 | t :: g :: r => g ≠ negG t ∧ Red (g :: r)
 | _ => True
structure BoardOk (B : List (Int × List Int)) : Prop where
 up : B.Pairwise fun a b => a.1 < b.1
 hs : ∀ l ∈ B,l.2.Pairwise (· < ·)
theorem zcX {α : Type} {R : α → α → Prop} {l : List α} (h : l.Pairwise R) {i j : Nat} {a b : α} (ha : l[i]? = some a) (hb : l[j]? = some b) (hij : i < j) : R a b := by
 obtain ⟨h1,rfl⟩ := List.getElem?_eq_some_iff.mp ha
 obtain ⟨h2,rfl⟩ := List.getElem?_eq_some_iff.mp hb
 exact List.pairwise_iff_getElem.mp h i j h1 h2 hij
theorem tM.ok {l : Int × List Int} {g : Gate} (h : tM l g) (s : l.2.Pairwise (· < ·)) : GateOk g := by
 obtain ⟨_,k,hk,e1,e2⟩ := h
 intro u v h1 h2
 rw [e1] at h1
 rw [e2] at h2
 by_cases z : k = 0
 ·rw [if_pos z] at h1; cases h1
 ·rw [if_neg z] at h1
  exact zcX s h1 h2 (by lia)
theorem tM.turn {l : Int × List Int} {t g : Gate} (h : tM l t) (h' : tM l g) (s : l.2.Pairwise (· < ·)) (hw : t.w ≠ g.w) (w1 : t.w = 1 ∨ t.w = -1) (w2 : g.w = 1 ∨ g.w = -1) (n : g ≠ negG t) : TurnOk t g := by
 refine ⟨h.1.trans h'.1.symm,?_,h.ok s,h'.ok s⟩
 obtain ⟨x1,k,hk,e1,e2⟩ := h
 obtain ⟨x2,j,hj,f1,f2⟩ := h'
 have hkj : k ≠ j := fun z => n (by
  subst z
  obtain ⟨a,b,c,d⟩ := t
  obtain ⟨a',b',c',d'⟩ := g
  simp only [negG,Gate.mk.injEq] at *
  refine ⟨x2.trans x1.symm,f1.trans e1.symm,f2.trans e2.symm,?_⟩
  lia)
 have le : ∀ {i j : Nat} {u v : Int},l.2[i]? = some u → l.2[j]? = some v → i ≤ j → u ≤ v := fun {i j u v} a b hij => by
  rcases Nat.lt_or_eq_of_le hij with q | q
  ·exact Int.le_of_lt (zcX s a b q)
  ·subst q; rw [a] at b; cases b; exact Int.le_refl _
 rcases Nat.lt_or_gt_of_ne hkj with q | q
 ·left
  have a : k < l.2.length := by lia
  have b : j - 1 < l.2.length := by lia
  refine ⟨l.2[k],l.2[j - 1],by rw [e2,List.getElem?_eq_getElem a],by rw [f1,if_neg (by lia),List.getElem?_eq_getElem b],?_⟩
  exact le (List.getElem?_eq_getElem a) (List.getElem?_eq_getElem b) (by lia)
 ·right
  have a : j < l.2.length := by lia
  have b : k - 1 < l.2.length := by lia
  refine ⟨l.2[j],l.2[k - 1],by rw [f2,List.getElem?_eq_getElem a],by rw [e1,if_neg (by lia),List.getElem?_eq_getElem b],?_⟩
  exact le (List.getElem?_eq_getElem a) (List.getElem?_eq_getElem b) (by lia)
theorem tK.way {B : List (Int × List Int)} {h : Int} {g : Gate} (s : tK B h g) : g.w = 1 ∨ g.w = -1 := by
 obtain ⟨l,_,i,_,k⟩ := s
 exact k.imp (·.1) (·.1)
theorem tK.ok {B : List (Int × List Int)} (ok : BoardOk B) {h : Int} {g : Gate} (s : tK B h g) : GateOk g := by
 obtain ⟨l,q,i,e,_⟩ := s
 exact q.ok (ok.hs l (List.mem_of_getElem? e))
theorem zeb {B : List (Int × List Int)} (ok : BoardOk B) {h : Int} {t g : Gate} (s : tK B h t) (s' : tK B (h + t.w) g) (n : g ≠ negG t) : (t.w = g.w → Up t g) ∧ (t.w ≠ g.w → TurnOk t g) := by
 have w1 := s.way
 have w2 := s'.way
 obtain ⟨l,q,i,e,k⟩ := s
 obtain ⟨l',q',i',e',k'⟩ := s'
 refine ⟨fun z => ?_,fun z => ?_⟩
 ·refine ⟨z,fun w => ?_,fun w => ?_⟩
  ·rw [q.1,q'.1]
   exact zcX ok.up e e' (by lia)
  ·rw [q.1,q'.1]
   exact zcX ok.up e' e (by lia)
 ·have hi : i = i' := by lia
  subst hi
  rw [e] at e'
  cases e'
  exact q.turn q' (ok.hs l (List.mem_of_getElem? e)) z w1 w2 n
theorem zau {B : List (Int × List Int)} (ok : BoardOk B) : ∀ (gs : List Gate) (h : Int),tL B h gs → Red gs → Walk gs
 | [],_,_,_ => trivial
 | [_],_,_,_ => trivial
 | t :: g :: r,h,⟨p1,p2,p3⟩,⟨r1,r2⟩ => by
   obtain ⟨a,b⟩ := zeb ok p1 p2 r1
   exact ⟨a,b,zau ok (g :: r) (h + t.w) ⟨p2,p3⟩ r2⟩
noncomputable def sumG : List Gate → Int
 | [] => 0
 | g :: gs => g.w + sumG gs
theorem uz (g : Gate) : ∀ gs : List Gate,sumG (gs ++ [g]) = sumG gs + g.w
 | [] => by simp [sumG]
 | t :: gs => by
   have := uz g gs
   simp only [List.cons_append,sumG,this]
   lia
theorem uL {B : List (Int × List Int)} {g : Gate} : ∀ {gs : List Gate} {h : Int},tL B h (gs ++ [g]) ↔ tL B h gs ∧ tK B (h + sumG gs) g
 | [],h => by simp [tL,sumG]
 | t :: gs,h => by
   have := uL (B := B) (g := g) (gs := gs) (h := h + t.w)
   simp only [List.cons_append,tL,this,sumG,Int.add_assoc,and_assoc]
theorem uq {B : List (Int × List Int)} {g : Gate} : ∀ {gs : List Gate} {h : Int},tL B h gs → g ∈ gs → ∃ h',tK B h' g
 | t :: gs,h,⟨p1,p2⟩,hg => by
   rcases List.mem_cons.mp hg with rfl | hg
   ·exact ⟨h,p1⟩
   ·exact uq p2 hg
theorem zcU {t g : Gate} (n : g ≠ negG t) : ∀ {gs : List Gate},Red (gs ++ [t]) → Red (gs ++ [t] ++ [g])
 | [],_ => ⟨n,trivial⟩
 | [a],h => ⟨h.1,n,trivial⟩
 | a :: b :: gs,h => ⟨h.1,zcU (gs := b :: gs) n h.2⟩
theorem zcV {t : Gate} : ∀ {gs : List Gate},Red (gs ++ [t]) → Red gs
 | [],_ => trivial
 | [a],_ => trivial
 | a :: b :: gs,h => ⟨h.1,zcV (gs := b :: gs) h.2⟩
noncomputable def zaE (st : List Gate) (g : Gate) : List Gate := match st.getLast? with
 | some t => if t = negG g then st.dropLast else st ++ [g]
 | none => st ++ [g]
theorem zeJ (g : Gate) : negG (negG g) = g := by
 obtain ⟨a,b,c,d⟩ := g
 simp [negG]
theorem zfZ {B : List (Int × List Int)} {h : Int} {st : List Gate} {g : Gate} (p : tL B h st) (r : Red st) (s : tK B (h + sumG st) g) : tL B h (zaE st g) ∧ Red (zaE st g) ∧ h + sumG (zaE st g) = h + sumG st + g.w ∧ (zaE st g).length ≤ st.length + 1 := by
 unfold zaE
 cases q : st.getLast? with
 | none =>
   have : st = [] := List.getLast?_eq_none_iff.mp q
   subst this
   refine ⟨⟨by simpa [sumG] using s,trivial⟩,trivial,by simp [sumG],by simp⟩
 | some t =>
   have hne : st ≠ [] := fun z => by subst z; cases q
   obtain ⟨m,rfl⟩ : ∃ m,st = m ++ [t] := by
    refine ⟨st.dropLast,?_⟩
    have := List.dropLast_concat_getLast hne
    rw [List.getLast?_eq_some_getLast hne] at q
    cases q
    exact this.symm
   simp only [List.dropLast_concat]
   by_cases z : t = negG g
   ·rw [if_pos z]
    refine ⟨(uL.mp p).1,zcV r,?_,by simp; lia⟩
    rw [uz]
    have : t.w = -g.w := by rw [z]; rfl
    lia
   ·rw [if_neg z]
    refine ⟨uL.mpr ⟨p,s⟩,zcU (fun w => z (by rw [w,zeJ])) r,by rw [uz]; lia,by simp⟩
theorem zbf {t g : Gate} (s : (t.w = g.w → Up t g) ∧ (t.w ≠ g.w → TurnOk t g)) : ∀ {gs : List Gate},Walk (gs ++ [t]) → Walk (gs ++ [t] ++ [g])
 | [],_ => ⟨s.1,s.2,trivial⟩
 | [a],h => ⟨h.1,h.2.1,s.1,s.2,trivial⟩
 | a :: b :: gs,h => ⟨h.1,h.2.1,zbf (gs := b :: gs) s h.2.2⟩
theorem zhl {t g : Gate} (w1 : t.w = 1 ∨ t.w = -1) (w2 : g.w = 1 ∨ g.w = -1) (s : (t.w = g.w → Up t g) ∧ (t.w ≠ g.w → TurnOk t g)) : ((negG g).w = (negG t).w → Up (negG g) (negG t)) ∧ ((negG g).w ≠ (negG t).w → TurnOk (negG g) (negG t)) := by
 refine ⟨fun z => ?_,fun z => ?_⟩
 ·have z' : t.w = g.w := by simp only [negG] at z; lia
  obtain ⟨_,u1,u2⟩ := s.1 z'
  refine ⟨z,fun w => ?_,fun w => ?_⟩
  ·simp only [negG] at w ⊢
   exact u2 (by lia)
  ·simp only [negG] at w ⊢
   exact u1 (by lia)
 ·have z' : t.w ≠ g.w := by simp only [negG] at z; lia
  have T := s.2 z'
  refine ⟨T.x.symm,?_,T.gw,T.tw⟩
  rcases T.one with ⟨u,v,e1,e2,l⟩ | ⟨u,v,e1,e2,l⟩
  ·exact .inr ⟨u,v,e1,e2,l⟩
  ·exact .inl ⟨u,v,e1,e2,l⟩
theorem zcH : ∀ {gs : List Gate},(∀ g ∈ gs,g.w = 1 ∨ g.w = -1) → Walk gs → Walk (revR gs)
 | [],_,_ => trivial
 | [_],_,_ => trivial
 | t :: g :: r,w,⟨a,b,c⟩ => by
   have ih := zcH (gs := g :: r) (fun x hx => w x (List.mem_cons_of_mem _ hx)) c
   have e1 : revR (g :: r) = revR r ++ [negG g] := by simp [revR]
   have e2 : revR (t :: g :: r) = revR r ++ [negG g] ++ [negG t] := by simp [revR]
   rw [e2]
   rw [e1] at ih
   exact zbf (zhl (w t (by simp)) (w g (by simp)) ⟨a,b⟩) ih
theorem zcI : ∀ {gs : List Gate},(∀ g ∈ gs,g.w = 1 ∨ g.w = -1) → Walk gs → Walk (gs.map mirG)
 | [],_,_ => trivial
 | [_],_,_ => trivial
 | t :: g :: r,w,⟨a,b,c⟩ => by
   have w1 := w t (by simp)
   have w2 := w g (by simp)
   refine ⟨fun z => ?_,fun z => ?_,zcI (gs := g :: r) (fun x hx => w x (List.mem_cons_of_mem _ hx)) c⟩
   ·have z' : t.w = g.w := by simp only [mirG] at z; lia
    obtain ⟨_,u1,u2⟩ := a z'
    refine ⟨z,fun q => ?_,fun q => ?_⟩
    ·simp only [mirG] at q ⊢
     have := u2 (by lia)
     lia
    ·simp only [mirG] at q ⊢
     have := u1 (by lia)
     lia
   ·have z' : t.w ≠ g.w := by simp only [mirG] at z; lia
    have T := b z'
    exact ⟨by simp only [mirG,T.x],T.one,T.tw,T.gw⟩
theorem zcG (k : Int) : ∀ {gs : List Gate},Walk gs → Walk (gs.map (slaG k))
 | [],_ => trivial
 | [_],_ => trivial
 | t :: g :: r,⟨a,b,c⟩ => by
   refine ⟨fun z => a z,fun z => ?_,zcG k (gs := g :: r) c⟩
   have T := b z
   refine ⟨T.x,?_,fun u v h1 h2 => ?_,fun u v h1 h2 => ?_⟩
   ·simp only [slaG]
    rcases T.one with ⟨u,v,e1,e2,l⟩ | ⟨u,v,e1,e2,l⟩
    ·exact .inl ⟨u + k * t.x,v + k * g.x,by rw [e1]; rfl,by rw [e2]; rfl,by rw [T.x]; lia⟩
    ·exact .inr ⟨u + k * g.x,v + k * t.x,by rw [e1]; rfl,by rw [e2]; rfl,by rw [T.x]; lia⟩
   ·simp only [slaG,Option.map_eq_some_iff] at h1 h2
    obtain ⟨p,h1,rfl⟩ := h1
    obtain ⟨q,h2,rfl⟩ := h2
    have := T.tw p q h1 h2
    lia
   ·simp only [slaG,Option.map_eq_some_iff] at h1 h2
    obtain ⟨p,h1,rfl⟩ := h1
    obtain ⟨q,h2,rfl⟩ := h2
    have := T.gw p q h1 h2
    lia
noncomputable def SD (u v : Int × Int) : Prop := ∃ a b : Int,0 < a ∧ 0 < b ∧ a * u.1 = b * v.1 ∧ a * u.2 = b * v.2
noncomputable def vec (p q : Spot) : Int × Int := (q.1 - p.1,q.2 - p.2)
noncomputable def crs (u v : Int × Int) : Int := u.1 * v.2 - u.2 * v.1
noncomputable def dot (u v : Int × Int) : Int := u.1 * v.1 + u.2 * v.2
noncomputable def tn (o z n : Spot) : Int := crs (vec o z) (vec z n)
noncomputable def Wi (g : Gate) (y : Int) : Prop := (∀ l,g.lo = some l → l ≤ y) ∧ ∀ h,g.hi = some h → y ≤ h
noncomputable def Cr (p z : Spot) (g : Gate) : Prop := bw p z g.x ∧ (∀ y,g.lo = some y → xm p z (g.x,y) ≤ 0) ∧ ∀ y,g.hi = some y → 0 ≤ xm p z (g.x,y)
noncomputable def hand (p : Spot) (g : Gate) : Int := if g.x ≠ p.1 then 0 else if g.hi = some p.2 then g.w else if g.lo = some p.2 then -g.w else 0
structure BendOk (o z n : Spot) (V : List Gate) : Prop where
 ne : V ≠ []
 h : ∃ t : Int,(t = 1 ∨ t = -1) ∧ (∀ g ∈ V,hand z g = t) ∧ (V.length = 1 → 0 < tn o z n * t ∨ (tn o z n = 0 ∧ o.1 = z.1 ∧ ∀ g ∈ V,if g.lo = some z.2 then 0 < z.2 - o.2 else 0 < o.2 - z.2))
 back : tn o z n = 0 → dot (vec o z) (vec z n) < 0
noncomputable def nearE (s : Int) (g : Gate) : Option Int := if s = 1 then g.lo else g.hi
noncomputable def VS (s x zy : Int) : Int → Bool → List Gate → Prop
 | _,_,[] => True
 | b,st,g :: r => ∃ y,g.x = x ∧ Wi g y ∧ s * y < s * zy ∧ s * b ≤ s * y ∧ (nearE s g = some y ∨ (y = b ∧ st = false)) ∧ (st = true → s * b < s * y) ∧ VS s x zy y false r
structure Upr (p : Spot) (E : List Gate) (z : Spot) (V : List Gate) (s : Int) : Prop where
 x : p.1 = z.1
 s1 : s = 1 ∨ s = -1
 up : s * p.2 < s * z.2
 vs : VS s p.1 z.2 p.2 true E
 fst : ∃ g r,V = g :: r ∧ nearE s g = some z.2
structure Slp (p : Spot) (E : List Gate) (z : Spot) : Prop where
 x : p.1 ≠ z.1
 cr : ∀ g ∈ E,Cr p z g
 pw : E.Pairwise fun g h => 0 ≤ (h.x - g.x) * (z.1 - p.1)
structure EdgeOk (p : Spot) (E : List Gate) (z : Spot) (V : List Gate) : Prop where
 at_z : ∀ g ∈ V,g.x = z.1 ∧ Wi g z.2
 e : Slp p E z ∨ ∃ s,Upr p E z V s
noncomputable abbrev Itm := List Gate × Spot × List Gate
noncomputable def AOk : Spot → (Spot → Prop) → List Itm → Prop
 | _,_,[] => False
 | p,need,[(E,z,V)] => EdgeOk p E z V ∧ need z ∧ V = []
 | p,need,(E,z,V) :: i :: r => EdgeOk p E z V ∧ need z ∧ AOk z (fun n => BendOk p z n V) (i :: r)
noncomputable def ziu (L : List Itm) : List Spot := L.map fun i => i.2.1
noncomputable def zjo (L : List Itm) : List Gate := L.flatMap fun i => i.1 ++ i.2.2
structure St (p o z : Spot) (E V : List Gate) : Prop where
 e : EdgeOk p E z V
 d : SD (vec o z) (vec p z)
 ne : o ≠ z
structure BendH (o z n : Spot) (V : List Gate) : Prop where
 ne : V ≠ []
 h : ∃ t : Int,(t = 1 ∨ t = -1) ∧ (∀ g ∈ V,hand z g = t) ∧ (V.length = 1 → 0 < tn o z n * t ∨ (tn o z n = 0 ∧ o.1 = z.1 ∧ ∀ g ∈ V,if g.lo = some z.2 then 0 < z.2 - o.2 else 0 < o.2 - z.2))
inductive LA (w : Int) : Spot → List Spot → List Gate → List Gate → Prop
 | last {a b : Spot} {E V : List Gate} : EdgeOk a E b V → 0 < w * (b.1 - a.1) → LA w a [b] E V
 | cons {a v v' : Spot} {r : List Spot} {E V G W : List Gate} : EdgeOk a E v V → 0 < w * (v.1 - a.1) → (¬ straight a v v' = true → BendH a v v' V) → LA w v (v' :: r) G W → LA w a (v :: v' :: r) (E ++ V ++ G) W
noncomputable def Fin (w : Int) (b : Spot) (W : List Gate) (rest : List Spot) (e : Spot) (G' : List Gate) : Prop := ∀ (p m : Spot) (need : Spot → Prop) (E : List Gate),St p m b E W → (∀ x,SD (vec p x) (vec p b) → need x) → 0 < w * (b.1 - m.1) → ∃ L,AOk p need L ∧ ziu L = bnd (some m) b rest ++ [e] ∧ zjo L = E ++ G'
structure GC (D : Int) (F : Int → Int) (g : Gate) : Prop where
 w : g.w = 1
 ok : GateOk g
 lo : ∀ y,g.lo = some y → D * y ≤ F g.x
 hi : ∀ y,g.hi = some y → F g.x ≤ D * y
structure LegIn (w : Int) (R : List Gate) (a b : Spot) (G W : List Gate) : Prop where
 up : R.Pairwise Up
 ok : ∀ g ∈ R,GateOk g
 ways : ∀ g ∈ R,g.w = w
 dir : 0 < w * (b.1 - a.1)
 sub : ∀ g ∈ G,g ∈ R
 all : ∀ g ∈ R,w * g.x ≤ w * a.1 ∨ g ∈ G ∨ w * b.1 ≤ w * g.x
 bet : ∀ g ∈ G,w * a.1 < w * g.x ∧ w * g.x < w * b.1
 pw : G.Pairwise fun g h => w * g.x < w * h.x
 atb : ∀ g ∈ W,g.x = b.1 ∧ Wi g b.2
structure Arr (o z : Spot) (V : List Gate) (h : Gate) : Prop where
 hands : ∃ t : Int,(t = 1 ∨ t = -1) ∧ ∀ g ∈ V ++ [h],hand z g = t
 one : V = [] → o.1 = z.1 ∧ ((o.2 < z.2 ∧ h.lo = some z.2) ∨ (z.2 < o.2 ∧ h.hi = some z.2))
noncomputable def zdV (e : Spot) : List (List Gate) → Prop
 | [] => True
 | [R] => 0 < (zB R).w * (e.1 - (zB R).x)
 | _ :: S :: rs => zdV e (S :: rs)
theorem ag0 (a b c d : D) : atI [a,b,c,d] 0 = some a := rfl
theorem ag1 (a b c d : D) : atI [a,b,c,d] 1 = some b := rfl
theorem ag2 (a b c d : D) : atI [a,b,c,d] 2 = some c := rfl
noncomputable def wk (R : List Gate) (a b : Spot) : List Gate :=
 if a.1 < b.1 then R.filter fun l => decide (a.1 < l.x) && decide (l.x < b.1) else R.reverse.filter fun l => decide (b.1 < l.x) && decide (l.x < a.1)
theorem wM {R : List Gate} {a b : Spot} {g : Gate} : g ∈ wk R a b ↔ g ∈ R ∧ bw a b g.x := by
 unfold wk bw
 split
 ·rw [List.mem_filter,Bool.and_eq_true,decide_eq_true_eq,decide_eq_true_eq]
  refine and_congr_right fun _ => ?_
  lia
 ·rw [List.mem_filter,List.mem_reverse,Bool.and_eq_true,decide_eq_true_eq,decide_eq_true_eq]
  refine and_congr_right fun _ => ?_
  lia
noncomputable def beyV (a b : Spot) (g : Gate) : List (Int × Spot) := (match g.lo with | some y => [(xm a b (g.x,y),(g.x,y))] | none => []) ++ (match g.hi with | some y => [(-xm a b (g.x,y),(g.x,y))] | none => [])
theorem za7 {a b : Spot} {g : Gate} {d : Int} {p : Spot} : (d,p) ∈ beyV a b g ↔ Bey a b g p d := by
 unfold beyV Bey
 rw [List.mem_append]
 constructor
 ·rintro (h | h)
  ·split at h
   ·rename_i y e
    simp only [List.mem_singleton,Prod.mk.injEq] at h
    obtain ⟨rfl,rfl⟩ := h
    exact ⟨rfl,.inl ⟨e,rfl⟩⟩
   ·simp at h
  ·split at h
   ·rename_i y e
    simp only [List.mem_singleton,Prod.mk.injEq] at h
    obtain ⟨rfl,rfl⟩ := h
    exact ⟨rfl,.inr ⟨e,rfl⟩⟩
   ·simp at h
 ·obtain ⟨p1,p2⟩ := p
  rintro ⟨e,⟨h1,h2⟩ | ⟨h1,h2⟩⟩
  ·left
   simp only at e h1
   subst e h2
   rw [h1]
   simp
  ·right
   simp only at e h1
   subst e h2
   rw [h1]
   simp
noncomputable def xX (st : Option Spot × Int) (q : Int × Spot) : Option Spot × Int := if st.2 < q.1 then (some q.2,q.1) else st
noncomputable def farV (R : List Gate) (a b : Spot) : Option Spot := (((wk R a b).flatMap (beyV a b)).foldl xX (none,0)).1
theorem zaT : ∀ (l : List (Int × Spot)) (st : Option Spot × Int),st.2 ≤ (l.foldl xX st).2 ∧ (∀ q ∈ l,q.1 ≤ (l.foldl xX st).2) ∧ (l.foldl xX st = st ∨ ∃ q ∈ l,st.2 < q.1 ∧ l.foldl xX st = (some q.2,q.1))
 | [],st => ⟨Int.le_refl _,by simp,.inl rfl⟩
 | q :: l,st => by
   obtain ⟨h1,h2,h3⟩ := zaT l (xX st q)
   rw [List.foldl_cons]
   unfold xX at h1 h3 ⊢
   by_cases z : st.2 < q.1
   ·simp only [z,if_true] at h1 h2 h3 ⊢
    refine ⟨by lia,fun r hr => ?_,.inr ?_⟩
    ·rcases List.mem_cons.mp hr with rfl | hr
     ·exact h1
     ·have := h2 r hr
      unfold xX at this
      simpa [z] using this
    ·rcases h3 with e | ⟨r,hr,lt,e⟩
     ·exact ⟨q,by simp,z,e⟩
     ·exact ⟨r,by simp [hr],by lia,e⟩
   ·simp only [z,if_false] at h1 h2 h3 ⊢
    refine ⟨h1,fun r hr => ?_,?_⟩
    ·rcases List.mem_cons.mp hr with rfl | hr
     ·lia
     ·have := h2 r hr
      unfold xX at this
      simpa [z] using this
    ·rcases h3 with e | ⟨r,hr,lt,e⟩
     ·exact .inl e
     ·exact .inr ⟨r,by simp [hr],lt,e⟩
theorem zgw {R : List Gate} {a b : Spot} (h : farV R a b = none) : ∀ g ∈ R,bw a b g.x → ∀ p d,Bey a b g p d → d ≤ 0 := by
 intro g hg hb p d k
 unfold farV at h
 obtain ⟨_,h2,h3⟩ := zaT ((wk R a b).flatMap (beyV a b)) (none,0)
 have hm := h2 (d,p) (List.mem_flatMap.mpr ⟨g,wM.mpr ⟨hg,hb⟩,za7.mpr k⟩)
 rcases h3 with e | ⟨q,_,_,e⟩
 ·rw [e] at hm; exact hm
 ·rw [e] at h; cases h
theorem zgv {R : List Gate} {a b p : Spot} (h : farV R a b = some p) : ∃ g d,g ∈ R ∧ bw a b g.x ∧ Bey a b g p d ∧ 0 < d ∧ ∀ g' ∈ R,bw a b g'.x → ∀ p' d',Bey a b g' p' d' → d' ≤ d := by
 unfold farV at h
 obtain ⟨_,h2,h3⟩ := zaT ((wk R a b).flatMap (beyV a b)) (none,0)
 rcases h3 with e | ⟨q,hq,lt,e⟩
 ·rw [e] at h; cases h
 ·rw [e] at h h2
  cases h
  obtain ⟨g,hg,hm⟩ := List.mem_flatMap.mp hq
  obtain ⟨k1,k2⟩ := wM.mp hg
  refine ⟨g,q.1,k1,k2,za7.mp hm,lt,fun g' hg' hb' p' d' k' => ?_⟩
  exact h2 (d',p') (List.mem_flatMap.mpr ⟨g',wM.mpr ⟨hg',hb'⟩,za7.mpr k'⟩)
@[reducible] noncomputable def vK : FE :=
 fC (.int 0)
@[reducible] noncomputable def vI : FS :=
 ifS (fTrB (f2 gGt (fB gLen (zm (fVar 0) (fNil))) (fC (.int 0))))
 (setS 4 true (f2 gMod (f2 gIx (fVar 0) (f2 gMod (fVar 3) (fB v8 (zm (fB gLen (zm (fVar 0) (fNil))) (zm (fC (.int 63)) (fNil)))))) (f2 gAdd (f2 gPow (fC (.int 10)) (fC (.int 60))) (fC (.int 7)))))
 (nxtS)
@[reducible] noncomputable def wO : FS :=
 seqS (setS 4 true (fC (.int 0)))
 (seqS (vI)
 (seqS (setS 5 true (f2 gMod (fVar 3) (fVar 1)))
 (putS 2 (fVar 5) (f2 gMod (f2 gAdd (f2 gAdd (f2 gMul (f2 gIx (fVar 2) (fVar 5)) (fC (.int 48271))) (fVar 4)) (f2 gMul (fVar 3) (fVar 3))) (f2 gAdd (f2 gPow (fC (.int 10)) (fC (.int 60))) (fC (.int 7)))))))
noncomputable def wA : FS :=
 seqS (setS 2 false (yq [] 1 (zaV (zm (fVar 1) (fNil))) (gN 0) (fYes) (vK)))
 (seqS (forS (zaV (zm (fB ze3 (zm (fVar 1) (zm (fB v8 (zm (fB gLen (zm (fVar 0) (fNil))) (zm (fC (.int 63)) (fNil)))) (fNil)))) (fNil))) (gN 3)
 (wO))
 (retS (fVar 2)))
noncomputable def xS : List D → Out Val := runD 6 wA
theorem zbs : ∀ ds v,ds.length = 2 → xS ds = .ok v → runD 6 wA ds = .ok v := fun _ _ _ h => h
@[reducible] noncomputable def vw : FE :=
 f2 gIx (fVar 0) (fC (.int 0))
@[reducible] noncomputable def xF : FT :=
 fTrB (f2 gEq (f2 gIx (fVar 1) (fC (.int 0))) (fVar 0))
@[reducible] noncomputable def x6 : FE :=
 f2 gIx (fVar 1) (fC (.int 1))
@[reducible] noncomputable def zba : FS :=
 appS 1 (fTup (zw (fVar 2) (zw (fB vJ (zm (yq [2] 1 (fItL (fVar 0)) (gN 1) (xF) (x6)) (fNil))) (hNil))))
noncomputable def u9 : FS :=
 seqS (setS 1 false (fLst (hNil)))
 (seqS (forS (fItL (f1 wJ (yq [] 1 (fItL (fVar 0)) (gN 0) (fYes) (vw)))) (gN 2)
 (zba))
 (retS (fVar 1)))
noncomputable def vH : List D → Out Val := runD 3 u9
theorem zdK : ∀ ds v,ds.length = 1 → vH ds = .ok v → runD 3 u9 ds = .ok v := fun _ _ _ h => h
@[reducible] noncomputable def zce : FS :=
 ifS (fTrB (f2 gGt (fVar 5) (fC (.int 0))))
 (setS 6 true (f2 gIx (fVar 4) (f2 gSub (fVar 5) (fC (.int 1)))))
 (nxtS)
@[reducible] noncomputable def zaS : FS :=
 ifS (fTrB (f2 gLt (fVar 5) (fB gLen (zm (fVar 4) (fNil)))))
 (setS 7 true (f2 gIx (fVar 4) (fVar 5)))
 (nxtS)
noncomputable def zbI : FS :=
 seqS (asgS (gT [3,4]) (fVar 0))
 (seqS (setS 5 true (f2 gMod (fVar 1) (f2 gAdd (fB gLen (zm (fVar 4) (fNil))) (fC (.int 1)))))
 (seqS (setS 6 true (fC .non))
 (seqS (setS 7 true (fC .non))
 (seqS (zce)
 (seqS (zaS)
 (retS (fTup (zw (fVar 3) (zw (fVar 6) (zw (fVar 7) (zw (fVar 2) (hNil))))))))))))
noncomputable def zag : List D → Out Val := runD 8 zbI
theorem zeI : ∀ ds v,ds.length = 3 → zag ds = .ok v → runD 8 zbI ds = .ok v := fun _ _ _ h => h
@[reducible] noncomputable def zdd : FS :=
 ifS (fOr (fTrB (f2 gEq (fVar 4) (fB gLen (zm (fVar 0) (fNil))))) (fAnd (fTrB (f2 gGt (fVar 4) (fC (.int 0)))) (fTrB (f2 gEq (f2 gMod (fVar 5) (fC (.int 2))) (fC (.int 1))))))
 (setS 6 true (f1 gNeg (fC (.int 1))))
 (nxtS)
@[reducible] noncomputable def zbC : FS :=
 ifS (fAnd (fTrB (f2 gNe (fVar 3) (fLst (hNil)))) (fTrB (f2 gEq (f2 gIx (fVar 3) (f1 gNeg (fC (.int 1)))) (f2 zcf (fSl (fVar 7) (fNo) (fSo (fC (.int 3)))) (fTup (zw (f2 gSub (fC (.int 0)) (fVar 6)) (hNil)))))))
 (popS 3)
 (appS 3 (fVar 7))
@[reducible] noncomputable def zdr : FS :=
 seqS (setS 6 true (fC (.int 1)))
 (seqS (zdd)
 (seqS (setS 7 true (zI zag (zm (f2 gIx (fVar 0) (fB v8 (zm (fVar 4) (zm (f2 gSub (f2 gAdd (fVar 4) (fVar 6)) (fB gInt (zm (f2 gEq (fVar 6) (fC (.int 1))) (fNil)))) (fNil))))) (zm (f2 gDiv (fVar 5) (fC (.int 2))) (zm (fVar 6) (fNil))))))
 (seqS (setS 4 true (f2 gAdd (fVar 4) (fVar 6)))
 (zbC))))
noncomputable def ze5 : FS :=
 seqS (setS 3 false (fLst (hNil)))
 (seqS (setS 4 true (fVar 1))
 (seqS (forS (fItL (fVar 2)) (gN 5)
 (zdr))
 (frzS 3 (retS (fTup (zw (fVar 3) (zw (fVar 4) (hNil))))))))
noncomputable def zdL : List D → Out Val := runD 8 ze5
theorem zgd : ∀ ds v,ds.length = 3 → zdL ds = .ok v → runD 8 ze5 ds = .ok v := fun _ _ _ h => h
@[reducible] noncomputable def zcc : FS :=
 ifS (fTrB (f2 gEq (fVar 0) (fLst (hNil))))
 (retS (fTup (zw (f2 gMod (fVar 2) (fC (.int 9))) (zw (f2 gSub (f2 gMod (f2 gDiv (fVar 2) (fC (.int 9))) (fC (.int 11))) (fC (.int 1))) (hNil)))))
 (nxtS)
@[reducible] noncomputable def zca : FS :=
 ifS (fTrB (f2 gLt (fVar 1) (fB gLen (zm (fVar 0) (fNil)))))
 (retS (fTup (zw (f2 gSub (f2 gIx (f2 gIx (fVar 0) (fVar 1)) (fC (.int 0))) (fC (.int 1))) (zw (f2 gSub (f2 gMod (fVar 2) (fC (.int 11))) (fC (.int 1))) (hNil)))))
 (nxtS)
noncomputable def vX : FS :=
 seqS (zcc)
 (seqS (zca)
 (retS (fTup (zw (f2 gAdd (f2 gIx (f2 gIx (fVar 0) (f1 gNeg (fC (.int 1)))) (fC (.int 0))) (fC (.int 1))) (zw (f2 gSub (f2 gMod (fVar 2) (fC (.int 11))) (fC (.int 1))) (hNil))))))
noncomputable def vW : List D → Out Val := runD 3 vX
theorem zeG : ∀ ds v,ds.length = 3 → vW ds = .ok v → runD 3 vX ds = .ok v := fun _ _ _ h => h
@[reducible] noncomputable def u7 : FS :=
 ifS (fOr (fNot (fTr (fVar 1))) (fTrB (f2 gNe (f2 gIx (fVar 1) (f1 gNeg (fC (.int 1)))) (fVar 2))))
 (appS 1 (fVar 2))
 (nxtS)
@[reducible] noncomputable def xA : FS :=
 u7
noncomputable def yB : FS :=
 seqS (setS 1 false (fLst (hNil)))
 (seqS (forS (fItL (fVar 0)) (gN 2)
 (xA))
 (retS (fVar 1)))
noncomputable def zW : List D → Out Val := runD 3 yB
theorem vE : ∀ ds v,ds.length = 1 → zW ds = .ok v → runD 3 yB ds = .ok v := fun _ _ _ h => h
theorem zdZ (k : List Spot) (p : Spot) : (w5 k p).length ≤ k.length + 1 := by
 unfold w5
 split
 ·split
  ·lia
  ·simp
 ·simp
theorem zbg (s0 : Slot) : ∀ (ps k : List Spot) (s2 : Slot),k.length + ps.length ≤ 10000 → ∃ s2',forD (gN 2) xA (ps.map zd) [s0,.own (k.map zd),s2] = .ok (.next [s0,.own ((ps.foldl w5 k).map zd),s2'])
 | [],k,s2,_ => ⟨s2,rfl⟩
 | p :: ps,k,s2,hl => by
   have hu := zdZ k p
   obtain ⟨s2',e⟩ := zbg s0 ps (w5 k p) (.pers (zd p)) (by simp at hl; lia)
   refine ⟨s2',?_⟩
   have hg : gN 2 (zd p) [s0,.own (k.map zd),s2] = .ok [s0,.own (k.map zd),.pers (zd p)] := rfl
   have hlt : k.length < 100000 := by simp at hl; lia
   have hb : xA [s0,.own (k.map zd),.pers (zd p)] = .ok (.next [s0,.own ((w5 k p).map zd),.pers (zd p)]) := by
    have hap : appS 1 (fVar 2) [s0,.own (k.map zd),.pers (zd p)] = .ok (.next [s0,.own ((k ++ [p]).map zd),.pers (zd p)]) := by simp [hlt]
    unfold w5
    cases q : k.getLast? with
    | none =>
      have : k = [] := List.getLast?_eq_none_iff.mp q
      subst this
      rfl
    | some t =>
      have hne : k ≠ [] := fun z => by subst z; cases q
      have hat : atI (k.map zd) (-1) = some (zd t) := by
       rw [zbW,List.length_map,List.getElem?_map,← List.getLast?_eq_getElem?,q]
       rfl
      have c : fOr (fNot (fTr (fVar 1))) (fTrB (f2 gNe (f2 gIx (fVar 1) (f1 gNeg (fC (.int 1)))) (fVar 2))) [s0,.own (k.map zd),.pers (zd p)] = .ok (decide (t ≠ p)) := by
       have t1 : fTr (fVar 1) [s0,.own (k.map zd),.pers (zd p)] = .ok true := by
        cases k with
        | nil => exact absurd rfl hne
        | cons x r => rfl
       have t2 : fTrB (f2 gNe (f2 gIx (fVar 1) (f1 gNeg (fC (.int 1)))) (fVar 2)) [s0,.own (k.map zd),.pers (zd p)] = .ok (decide (t ≠ p)) := by
        have : f2 gNe (f2 gIx (fVar 1) (f1 gNeg (fC (.int 1)))) (fVar 2) [s0,.own (k.map zd),.pers (zd p)] = gNe (zd t) (zd p) := by
         have e1 : f2 gIx (fVar 1) (f1 gNeg (fC (.int 1))) [s0,.own (k.map zd),.pers (zd p)] = .ok (.pers (zd t)) := by
          show gIx (.lst (k.map zd)) (.int (-1)) = _
          simp only [gIx,hat]
         show ((f2 gIx (fVar 1) (f1 gNeg (fC (.int 1))) [s0,.own (k.map zd),.pers (zd p)]).bind _) = _
         rw [e1]
         rfl
        unfold fTrB
        rw [this]
        simp [uF,zcj]
       simp only [fOr,fNot,t1,t2,zi]
       rfl
      by_cases z : t = p
      ·rw [decide_eq_false (fun w => w z)] at c
       simp only [ifS,c,zi,Bool.false_eq_true,if_false,z,if_true]
       rfl
      ·rw [decide_eq_true z] at c
       simp only [ifS,c,zi,if_true,z,if_false]
       exact hap
   rw [List.map_cons,forD,hg,zi,hb,zi]
   exact e
theorem zfN {ps : List Spot} (hl : ps.length ≤ 10000) : zW [.lst (ps.map zd)] = .ok (.fresh ((ps.foldl w5 []).map zd)) := by
 obtain ⟨s2,e⟩ := zbg (.pers (.lst (ps.map zd))) ps [] .un (by simpa using hl)
 unfold zW
 show ((yB [.pers (.lst (ps.map zd)),.un,.un]).bind _) = _
 unfold yB
 rw [zk (env' := [.pers (.lst (ps.map zd)),.own [],.un]) rfl]
 rw [zk (by
  have hi : fItL (fVar 0) [.pers (.lst (ps.map zd)),.own [],.un] = .ok (ps.map zd) := rfl
  simp only [forS,hi,zi]
  exact e)]
 rfl
noncomputable def yD : FS :=
 retS (ze6 (f2 wR (f2 gIx (fVar 0) (fC (.int 2))) (fC .non)) (ze6 (f2 wR (f2 gIx (fVar 1) (fC (.int 1))) (fC .non)) (f2 gLe (f2 gIx (fVar 0) (fC (.int 2))) (f2 gIx (fVar 1) (fC (.int 1))))))
noncomputable def zX : List D → Out Val := runD 2 yD
theorem vG : ∀ ds v,ds.length = 2 → zX ds = .ok v → runD 2 yD ds = .ok v := fun _ _ _ h => h
theorem zgJ (g h : Gate) : zX [zh g,zh h] = .ok (.pers (.bl (zV g h))) := by
 unfold zX
 show ((yD [.pers (zh g),.pers (zh h)]).bind _) = _
 unfold yD zV
 have e1 : f2 gIx (fVar 0) (fC (.int 2)) [.pers (zh g),.pers (zh h)] = .ok (.pers (optD g.hi)) := rfl
 have e2 : f2 gIx (fVar 1) (fC (.int 1)) [.pers (zh g),.pers (zh h)] = .ok (.pers (optD h.lo)) := rfl
 have n1 : f2 wR (f2 gIx (fVar 0) (fC (.int 2))) (fC .non) [.pers (zh g),.pers (zh h)] = wR (optD g.hi) .non := rfl
 have n2 : f2 wR (f2 gIx (fVar 1) (fC (.int 1))) (fC .non) [.pers (zh g),.pers (zh h)] = wR (optD h.lo) .non := rfl
 have n3 : f2 gLe (f2 gIx (fVar 0) (fC (.int 2))) (f2 gIx (fVar 1) (fC (.int 1))) [.pers (zh g),.pers (zh h)] = gLe (optD g.hi) (optD h.lo) := rfl
 simp only [retS,ze6,n1,n2,n3]
 cases g.hi with
 | none => rfl
 | some u =>
   cases h.lo with
   | none => rfl
   | some v => rfl
@[reducible] noncomputable def yW : FS :=
 ifS (fTr (zI zX (zm (fVar 0) (zm (fVar 1) (fNil)))))
 (retS (fTup (zw (fTup (zw (fVar 2) (zw (f2 gIx (fVar 0) (fC (.int 2))) (hNil)))) (zw (fTup (zw (fVar 2) (zw (f2 gIx (fVar 1) (fC (.int 1))) (hNil)))) (hNil)))))
 (nxtS)
noncomputable def yg : FS :=
 seqS (setS 2 true (f2 gIx (fVar 0) (fC (.int 0))))
 (seqS (yW)
 (retS (fTup (zw (fTup (zw (fVar 2) (zw (f2 gIx (fVar 0) (fC (.int 1))) (hNil)))) (zw (fTup (zw (fVar 2) (zw (f2 gIx (fVar 1) (fC (.int 2))) (hNil)))) (hNil))))))
noncomputable def zP : List D → Out Val := runD 3 yg
theorem w8 : ∀ ds v,ds.length = 2 → zP ds = .ok v → runD 3 yg ds = .ok v := fun _ _ _ h => h
theorem zdv {g h : Gate} (ok : TurnOk g h) : zP [zh g,zh h] = .ok (.pers (.tup [zd (zL g h).1,zd (zL g h).2])) := by
 have hb : zI zX (zm (fVar 0) (zm (fVar 1) (fNil))) [.pers (zh g),.pers (zh h),.pers (.int g.x)] = .ok (.pers (.bl (zV g h))) := by
  show ((zX [zh g,zh h]).bind _) = _
  rw [zgJ]
  rfl
 unfold zP
 show ((yg [.pers (zh g),.pers (zh h),.un]).bind _) = _
 unfold yg zL
 rw [zk (env' := [.pers (zh g),.pers (zh h),.pers (.int g.x)]) rfl]
 cases q : zV g h with
 | true =>
   rw [q] at hb
   unfold zV at q
   cases a : g.hi with
   | none => rw [a] at q; cases q
   | some u =>
     cases b : h.lo with
     | none => rw [a,b] at q; cases q
     | some v =>
       rw [zaA (v := .pers (.tup [zd (g.x,u),zd (g.x,v)])) (by
        simp only [yW,ifS,fTr,hb,zi,Val.d,trD,if_true]
        show Out.ok (Res.ret (Val.pers (.tup [.tup [.int g.x,optD g.hi],.tup [.int g.x,optD h.lo]]))) = _
        rw [a,b]
        rfl)]
       rfl
 | false =>
   rw [q] at hb
   rcases ok.one with ⟨u,v,e1,e2,l⟩ | ⟨u,v,e1,e2,l⟩
   ·unfold zV at q
    rw [e1,e2] at q
    exact absurd l (of_decide_eq_false q)
   ·rw [zk (env' := [.pers (zh g),.pers (zh h),.pers (.int g.x)]) (by
     simp only [yW,ifS,fTr,hb,zi,Val.d,trD]
     rfl)]
    show Out.ok (Val.pers (.tup [.tup [.int g.x,optD g.lo],.tup [.int g.x,optD h.hi]])) = _
    rw [e1,e2]
    rfl
@[reducible] noncomputable def wn : FT :=
 fTrB (fCh gLt gLt (fVar 0) (f2 gIx (fVar 2) (fC (.int 0))) (fVar 1))
@[reducible] noncomputable def zbL : FE :=
 fVar 2
@[reducible] noncomputable def zbB : FS :=
 ifS (fTrB (f2 gLt (fVar 2) (fVar 3)))
 (retS (yq [2,3] 1 (fItL (fVar 0)) (gN 2) (wn) (zbL)))
 (nxtS)
@[reducible] noncomputable def wm : FT :=
 fTrB (fCh gLt gLt (fVar 0) (f2 gIx (fVar 2) (fC (.int 0))) (fVar 1))
@[reducible] noncomputable def zbK : FE :=
 fVar 2
noncomputable def yY : FS :=
 seqS (setS 2 true (f2 gIx (f2 gIx (fVar 1) (fC (.int 0))) (fC (.int 0))))
 (seqS (setS 3 true (f2 gIx (f2 gIx (fVar 1) (fC (.int 1))) (fC (.int 0))))
 (seqS (zbB)
 (retS (yq [3,2] 1 (fRev (fVar 0)) (gN 2) (wm) (zbK)))))
noncomputable def yk : List D → Out Val := runD 4 yY
theorem tV : ∀ ds v,ds.length = 2 → yk ds = .ok v → runD 4 yY ds = .ok v := fun _ _ _ h => h
theorem vY {ft : FT} (x y : Int) (p : Gate → Bool) (hp : ∀ l,ft [.pers (.int x),.pers (.int y),.pers (zh l)] = .ok (p l)) (B : List Gate) :
 compD (gN 2) ft (fVar 2) (B.map zh) [.pers (.int x),.pers (.int y),.un] = .ok ((B.filter p).map zh) := by
 rw [yR (fun env => ∃ s2,env = [.pers (.int x),.pers (.int y),s2]) zh (fun l => if p l = true then some (zh l) else none) B [.pers (.int x),.pers (.int y),.un] ⟨_,rfl⟩ (fun l env _ ⟨s2,he⟩ => by
  subst he
  refine ⟨[.pers (.int x),.pers (.int y),.pers (zh l)],rfl,⟨_,rfl⟩,?_⟩
  have h := hp l
  cases q : p l with
  | true => rw [q] at h; exact .inr ⟨zh l,.pers (zh l),by simp,h,rfl,rfl⟩
  | false => rw [q] at h; exact .inl ⟨by simp,h⟩)]
 rw [wy]
theorem zdQ {B : List Gate} (hl : B.length ≤ 1000) (q : Spot × Spot) : yk [.lst (B.map zh),strD q] = .ok (.fresh ((wk B q.1 q.2).map zh)) := by
 unfold yk
 show (yY [.pers (.lst (B.map zh)),.pers (strD q),.un,.un]).bind _ = _
 have h0 : yY [.pers (.lst (B.map zh)),.pers (strD q),.un,.un] = .ok (.ret (.fresh ((wk B q.1 q.2).map zh))) := by
  unfold yY
  rw [zk (env' := [.pers (.lst (B.map zh)),.pers (strD q),.pers (.int q.1.1),.un]) (by simp [strD,ats0,zd,at0]; rfl)]
  rw [zk (env' := [.pers (.lst (B.map zh)),.pers (strD q),.pers (.int q.1.1),.pers (.int q.2.1)]) (by simp [strD,ats1,zd,at0]; rfl)]
  have hl2 : B.length ≤ 100000 := by lia
  unfold wk
  by_cases hlt : q.1.1 < q.2.1
  ·rw [if_pos hlt]
   have hc := vY (ft := wn) q.1.1 q.2.1 (fun l => decide (q.1.1 < l.x) && decide (l.x < q.2.1)) (fun l => by
    by_cases h1 : q.1.1 < l.x
    ·simp [zh,ag0,h1]
    ·simp [zh,ag0,h1]) B
   refine zaA ?_
   simp only [ifS]
   have ht : fTrB (f2 gLt (fVar 2) (fVar 3)) [.pers (.lst (B.map zh)),.pers (strD q),.pers (.int q.1.1),.pers (.int q.2.1)] = .ok true := by simp [hlt]
   rw [ht,zi,if_pos rfl]
   simp only [retS,yq,fItL,fVar,List.getElem?_cons_zero,zi,Val.hold,List.length_map,hl2,if_true]
   show ((compD (gN 2) wn (fVar 2) (B.map zh) [.pers (.int q.1.1),.pers (.int q.2.1),.un]).bind _).bind _ = _
   rw [hc]
   rfl
  ·rw [if_neg hlt]
   have hc := vY (ft := wm) q.2.1 q.1.1 (fun l => decide (q.2.1 < l.x) && decide (l.x < q.1.1)) (fun l => by
    by_cases h1 : q.2.1 < l.x
    ·simp [zh,ag0,h1]
    ·simp [zh,ag0,h1]) B.reverse
   have ht : fTrB (f2 gLt (fVar 2) (fVar 3)) [.pers (.lst (B.map zh)),.pers (strD q),.pers (.int q.1.1),.pers (.int q.2.1)] = .ok false := by simp [hlt]
   rw [zk (env' := [.pers (.lst (B.map zh)),.pers (strD q),.pers (.int q.1.1),.pers (.int q.2.1)]) (by simp only [ifS]; rw [ht,zi]; rfl)]
   simp only [retS,yq,fRev,fVar,List.getElem?_cons_zero,zi,Val.hold,List.length_reverse,List.length_map,hl2,if_true]
   rw [← List.map_reverse]
   show ((compD (gN 2) wm (fVar 2) (B.reverse.map zh) [.pers (.int q.2.1),.pers (.int q.1.1),.un]).bind _).bind _ = _
   rw [hc]
   rfl
 rw [h0]
 rfl
noncomputable def yX : FS :=
 seqS (setS 2 true (f2 gIx (fVar 0) (fC (.int 0))))
 (seqS (setS 3 true (f2 gIx (fVar 0) (fC (.int 1))))
 (seqS (setS 4 true (f2 gSub (f2 gIx (fVar 3) (fC (.int 0))) (f2 gIx (fVar 2) (fC (.int 0)))))
 (seqS (setS 5 true (f2 gSub (f2 gMul (fVar 4) (f2 gSub (f2 gIx (fVar 1) (fC (.int 1))) (f2 gIx (fVar 2) (fC (.int 1))))) (f2 gMul (f2 gSub (f2 gIx (fVar 3) (fC (.int 1))) (f2 gIx (fVar 2) (fC (.int 1)))) (f2 gSub (f2 gIx (fVar 1) (fC (.int 0))) (f2 gIx (fVar 2) (fC (.int 0)))))))
 (retS (fIf (fTrB (f2 gGt (fVar 4) (fC (.int 0)))) (fVar 5) (f1 gNeg (fVar 5)))))))
noncomputable def yH : List D → Out Val := runD 6 yX
theorem tU : ∀ ds v,ds.length = 2 → yH ds = .ok v → runD 6 yX ds = .ok v := fun _ _ _ h => h
theorem zhm {q : Spot × Spot} {p : Spot} (hn : near q.1 q.2) (hx : -(2 ^ 64) < p.1 - q.1.1 ∧ p.1 - q.1.1 < 2 ^ 64) : yH [strD q,zd p] = .ok (.pers (.int (xm q.1 q.2 p))) := by
 have c1 : ∀ j,cMul (q.2.1 - q.1.1) j = true := fun j => zbR hn.1 hn.2
 have c2 : ∀ j,cMul j (p.1 - q.1.1) = true := fun j => zdp hx.1 hx.2
 unfold yH
 show (yX [.pers (strD q),.pers (zd p),.un,.un,.un,.un]).bind _ = _
 have h0 : yX [.pers (strD q),.pers (zd p),.un,.un,.un,.un] = .ok (.ret (.pers (.int (xm q.1 q.2 p)))) := by
  unfold yX
  rw [zk (env' := [.pers (strD q),.pers (zd p),.pers (zd q.1),.un,.un,.un]) (by simp [strD,ats0])]
  rw [zk (env' := [.pers (strD q),.pers (zd p),.pers (zd q.1),.pers (zd q.2),.un,.un]) (by simp [strD,ats1])]
  rw [zk (env' := [.pers (strD q),.pers (zd p),.pers (zd q.1),.pers (zd q.2),.pers (.int (q.2.1 - q.1.1)),.un]) (by simp [zd,at0])]
  rw [zk (env' := [.pers (strD q),.pers (zd p),.pers (zd q.1),.pers (zd q.2),.pers (.int (q.2.1 - q.1.1)),.pers (.int (xb q.1 q.2 p))]) (by simp [zd,at0,at1,c1,c2,xb])]
  unfold xm
  by_cases hp : 0 < q.2.1 - q.1.1
  ·have hp' : q.1.1 < q.2.1 := by lia
   simp [hp']
  ·have hp' : ¬ q.1.1 < q.2.1 := by lia
   simp [hp']
 rw [h0]
 rfl
@[reducible] noncomputable def we : FS :=
 ifS (fTrB (f2 wR (f2 gIx (fVar 1) (fC (.int 1))) (fC .non)))
 (seqS (setS 3 true (fTup (zw (f2 gIx (fVar 1) (fC (.int 0))) (zw (f2 gIx (fVar 1) (fC (.int 1))) (hNil)))))
 (appS 2 (fTup (zw (zI yH (zm (fVar 0) (zm (fVar 3) (fNil)))) (zw (fVar 3) (hNil))))))
 (nxtS)
@[reducible] noncomputable def wd : FS :=
 ifS (fTrB (f2 wR (f2 gIx (fVar 1) (fC (.int 2))) (fC .non)))
 (seqS (setS 4 true (fTup (zw (f2 gIx (fVar 1) (fC (.int 0))) (zw (f2 gIx (fVar 1) (fC (.int 2))) (hNil)))))
 (appS 2 (fTup (zw (f1 gNeg (zI yH (zm (fVar 0) (zm (fVar 4) (fNil))))) (zw (fVar 4) (hNil))))))
 (nxtS)
noncomputable def yp : FS :=
 seqS (setS 2 false (fLst (hNil)))
 (seqS (we)
 (seqS (wd)
 (retS (fVar 2))))
noncomputable def zN : List D → Out Val := runD 5 yp
theorem vn : ∀ ds v,ds.length = 2 → zN ds = .ok v → runD 5 yp ds = .ok v := fun _ _ _ h => h
noncomputable def bD (q : Int × Spot) : D := .tup [.int q.1,zd q.2]
theorem zfx {a b : Spot} {g : Gate} (hn : near a b) (hx : -(2 ^ 64) < g.x - a.1 ∧ g.x - a.1 < 2 ^ 64) : zN [strD (a,b),zh g] = .ok (.fresh ((beyV a b g).map bD)) := by
 have sd : ∀ y,yH [strD (a,b),.tup [.int g.x,.int y]] = .ok (.pers (.int (xm a b (g.x,y)))) := fun y => zhm (q := (a,b)) (p := (g.x,y)) hn hx
 have i1 : ∃ s3,we [.pers (strD (a,b)),.pers (zh g),.own [],.un,.un] = .ok (.next [.pers (strD (a,b)),.pers (zh g),.own ((match g.lo with | some y => [(xm a b (g.x,y),(g.x,y))] | none => []).map bD),s3,.un]) := by
  cases h : g.lo with
  | none => exact ⟨.un,by simp [zh,optD,h,ag1]⟩
  | some y => exact ⟨.pers (.tup [.int g.x,.int y]),by simp [zh,optD,h,ag0,ag1,sd,bD,zd]⟩
 obtain ⟨s3,i1⟩ := i1
 generalize hL : (match g.lo with | some y => [(xm a b (g.x,y),(g.x,y))] | none => []) = L at i1
 have hl : L.length < 100000 := by rw [← hL]; split <;> simp
 have i2 : ∃ s4,wd [.pers (strD (a,b)),.pers (zh g),.own (L.map bD),s3,.un] = .ok (.next [.pers (strD (a,b)),.pers (zh g),.own ((L ++ (match g.hi with | some y => [(-xm a b (g.x,y),(g.x,y))] | none => [])).map bD),s3,s4]) := by
  cases h : g.hi with
  | none => exact ⟨.un,by simp [zh,optD,h,ag2]⟩
  | some y => exact ⟨.pers (.tup [.int g.x,.int y]),by simp [zh,optD,h,ag0,ag2,sd,bD,zd,hl]⟩
 obtain ⟨s4,i2⟩ := i2
 unfold zN
 show ((yp [.pers (strD (a,b)),.pers (zh g),.un,.un,.un]).bind _) = _
 unfold yp
 rw [zk (env' := [.pers (strD (a,b)),.pers (zh g),.own [],.un,.un]) rfl,zk i1,zk i2]
 unfold beyV
 rw [hL]
 rfl
@[reducible] noncomputable def wQ : FS :=
 ifS (fTrB (f2 gGt (fVar 5) (fVar 3)))
 (seqS (setS 2 true (fVar 6))
 (setS 3 true (fVar 5)))
 (nxtS)
@[reducible] noncomputable def yz : FS :=
 wQ
@[reducible] noncomputable def yy : FS :=
 forS (fItL (zI zN (zm (fVar 0) (zm (fVar 4) (fNil))))) (gT [5,6])
 (yz)
noncomputable def zR : FS :=
 seqS (setS 2 true (fC .non))
 (seqS (setS 3 true (fC (.int 0)))
 (seqS (forS (fItL (zI yk (zm (fVar 1) (zm (fVar 0) (fNil))))) (gN 4)
 (yy))
 (retS (fVar 2))))
noncomputable def zJ : List D → Out Val := runD 7 zR
theorem wl : ∀ ds v,ds.length = 2 → zJ ds = .ok v → runD 7 zR ds = .ok v := fun _ _ _ h => h
noncomputable def optS : Option Spot → D
 | some p => zd p
 | none => .non
theorem zbG {q g : D} (run : D) : ∀ (l : List (Int × Spot)) (st : Option Spot × Int) (s5 s6 : Slot),∃ s5' s6',forD (gT [5,6]) yz (l.map bD) [.pers q,.pers run,.pers (optS st.1),.pers (.int st.2),.pers g,s5,s6] = .ok (.next [.pers q,.pers run,.pers (optS (l.foldl xX st).1),.pers (.int (l.foldl xX st).2),.pers g,s5',s6'])
 | [],st,s5,s6 => ⟨s5,s6,rfl⟩
 | x :: l,st,s5,s6 => by
   obtain ⟨s5',s6',e⟩ := zbG (q := q) (g := g) run l (xX st x) (.pers (.int x.1)) (.pers (zd x.2))
   refine ⟨s5',s6',?_⟩
   have hg : gT [5,6] (bD x) [.pers q,.pers run,.pers (optS st.1),.pers (.int st.2),.pers g,s5,s6] = .ok [.pers q,.pers run,.pers (optS st.1),.pers (.int st.2),.pers g,.pers (.int x.1),.pers (zd x.2)] := rfl
   have hb : yz [.pers q,.pers run,.pers (optS st.1),.pers (.int st.2),.pers g,.pers (.int x.1),.pers (zd x.2)] = .ok (.next [.pers q,.pers run,.pers (optS (xX st x).1),.pers (.int (xX st x).2),.pers g,.pers (.int x.1),.pers (zd x.2)]) := by
    unfold xX
    by_cases z : st.2 < x.1
    ·simp [z,optS]
    ·simp [z]
   rw [List.map_cons,forD,hg,zi,hb,zi]
   exact e
theorem zbF {a b : Spot} {run : D} (hn : near a b) : ∀ (l : List Gate) (st : Option Spot × Int) (s4 s5 s6 : Slot),(∀ g ∈ l,-(2 ^ 64) < g.x - a.1 ∧ g.x - a.1 < 2 ^ 64) →
 ∃ s4' s5' s6',forD (gN 4) yy (l.map zh) [.pers (strD (a,b)),.pers run,.pers (optS st.1),.pers (.int st.2),s4,s5,s6] = .ok (.next [.pers (strD (a,b)),.pers run,.pers (optS ((l.flatMap (beyV a b)).foldl xX st).1),.pers (.int ((l.flatMap (beyV a b)).foldl xX st).2),s4',s5',s6'])
 | [],st,s4,s5,s6,_ => ⟨s4,s5,s6,rfl⟩
 | g :: l,st,s4,s5,s6,hx => by
   obtain ⟨t5,t6,e1⟩ := zbG (q := strD (a,b)) (g := zh g) run (beyV a b g) st s5 s6
   obtain ⟨u4,u5,u6,e2⟩ := zbF (run := run) hn l ((beyV a b g).foldl xX st) (.pers (zh g)) t5 t6 (fun x hm => hx x (by simp [hm]))
   refine ⟨u4,u5,u6,?_⟩
   have hi : fItL (zI zN (zm (fVar 0) (zm (fVar 4) (fNil)))) [.pers (strD (a,b)),.pers run,.pers (optS st.1),.pers (.int st.2),.pers (zh g),s5,s6] = .ok ((beyV a b g).map bD) := by
    have : zI zN (zm (fVar 0) (zm (fVar 4) (fNil))) [.pers (strD (a,b)),.pers run,.pers (optS st.1),.pers (.int st.2),.pers (zh g),s5,s6] = .ok (.fresh ((beyV a b g).map bD)) := by
     show ((zN [strD (a,b),zh g]).bind _) = _
     rw [zfx hn (hx g (by simp))]
     rfl
    simp only [fItL,this,zi]
    rfl
   have hb : yy [.pers (strD (a,b)),.pers run,.pers (optS st.1),.pers (.int st.2),.pers (zh g),s5,s6] = .ok (.next [.pers (strD (a,b)),.pers run,.pers (optS ((beyV a b g).foldl xX st).1),.pers (.int ((beyV a b g).foldl xX st).2),.pers (zh g),t5,t6]) := by
    simp only [forS,hi,zi]
    exact e1
   have hg : gN 4 (zh g) [.pers (strD (a,b)),.pers run,.pers (optS st.1),.pers (.int st.2),s4,s5,s6] = .ok [.pers (strD (a,b)),.pers run,.pers (optS st.1),.pers (.int st.2),.pers (zh g),s5,s6] := rfl
   rw [List.map_cons,forD,hg,zi,hb,zi,List.flatMap_cons,List.foldl_append]
   exact e2
theorem zjq {a b : Spot} {run : List Gate} (hn : near a b) (hl : run.length ≤ 1000) : zJ [strD (a,b),.lst (run.map zh)] = .ok (.pers (optS (farV run a b))) := by
 have hc := zdQ hl (a,b)
 have hx : ∀ g ∈ wk run a b,-(2 ^ 64) < g.x - a.1 ∧ g.x - a.1 < 2 ^ 64 := fun g hg => by
  obtain ⟨_,hb⟩ := wM.mp hg
  obtain ⟨h1,h2⟩ := hn
  rcases hb with z | z <;> lia
 obtain ⟨s4,s5,s6,e⟩ := zbF (run := .lst (run.map zh)) hn (wk run a b) (none,0) .un .un .un hx
 have hi : fItL (zI yk (zm (fVar 1) (zm (fVar 0) (fNil)))) [.pers (strD (a,b)),.pers (.lst (run.map zh)),.pers .non,.pers (.int 0),.un,.un,.un] = .ok ((wk run a b).map zh) := by
  have : zI yk (zm (fVar 1) (zm (fVar 0) (fNil))) [.pers (strD (a,b)),.pers (.lst (run.map zh)),.pers .non,.pers (.int 0),.un,.un,.un] = .ok (.fresh ((wk run a b).map zh)) := by
   show ((yk [.lst (run.map zh),strD (a,b)]).bind _) = _
   rw [hc]
   rfl
  simp only [fItL,this,zi]
  rfl
 unfold zJ
 show ((zR [.pers (strD (a,b)),.pers (.lst (run.map zh)),.un,.un,.un,.un,.un]).bind _) = _
 unfold zR
 rw [zk (env' := [.pers (strD (a,b)),.pers (.lst (run.map zh)),.pers .non,.un,.un,.un,.un]) rfl,zk (env' := [.pers (strD (a,b)),.pers (.lst (run.map zh)),.pers .non,.pers (.int 0),.un,.un,.un]) rfl]
 rw [zk (by
  simp only [forS,hi,zi]
  exact e)]
 rfl
@[reducible] noncomputable def z0 : FT :=
 fTr (fVar 4)
@[reducible] noncomputable def u0 : FS :=
 ifS (fTrB (f2 gIsN (fVar 5) (fC .non)))
 (zbb 3 4)
 (appS 4 (fVar 5))
@[reducible] noncomputable def z7 : FS :=
 seqS (setS 5 true (zI zJ (zm (fTup (zw (f2 gIx (fVar 3) (f1 gNeg (fC (.int 1)))) (zw (f2 gIx (fVar 4) (f1 gNeg (fC (.int 1)))) (hNil)))) (zm (fVar 1) (fNil)))))
 (u0)
noncomputable def yC : FS :=
 seqS (setS 3 false (fLst (zw (fVar 0) (hNil))))
 (seqS (setS 4 false (fLst (zw (fVar 2) (hNil))))
 (seqS (whlD (z0)
 (z7) 100)
 (retS (fSl (fVar 3) (fSo (fC (.int 1))) (fNo)))))
noncomputable def zK : List D → Out Val := runD 6 yC
theorem vF : ∀ ds v,ds.length = 3 → zK ds = .ok v → runD 6 yC ds = .ok v := fun _ _ _ h => h
noncomputable def cnt (R : List Gate) (a b : Int) : Nat := R.countP fun g => decide ((a < g.x ∧ g.x < b) ∨ (b < g.x ∧ g.x < a))
theorem zhb {a p b : Int} (h : (a < p ∧ p < b) ∨ (b < p ∧ p < a)) : ∀ R : List Gate,cnt R a p + cnt R p b + R.countP (fun g => decide (g.x = p)) ≤ cnt R a b
 | [] => by simp [cnt]
 | g :: R => by
   have ih := zhb h R
   unfold cnt at ih ⊢
   simp only [List.countP_cons,decide_eq_true_eq]
   split <;> split <;> split <;> split <;> lia
theorem zfm {R : List Gate} {a p b : Int} {g : Gate} (hg : g ∈ R) (hx : g.x = p) (h : (a < p ∧ p < b) ∨ (b < p ∧ p < a)) : cnt R a p + cnt R p b + 1 ≤ cnt R a b := by
 have := zhb h R
 have : 0 < R.countP (fun g => decide (g.x = p)) := List.countP_pos_iff.mpr ⟨g,hg,decide_eq_true hx⟩
 lia
theorem zcY {run : List Gate} {a b : Spot} {l : List Spot} (h : Pul run a b l) : ∃ m,l = m ++ [b] := by
 induction h with
 | stop _ => exact ⟨[],rfl⟩
 | @split a b p d g l1 l2 _ _ _ _ _ _ _ _ ih2 =>
   obtain ⟨m,rfl⟩ := ih2
   exact ⟨l1 ++ m,by rw [List.append_assoc]⟩
noncomputable def RE (a g : D) (run : List Gate) (r gs : List Spot) (s : Slot) : Ev := [.pers a,.pers (.lst (run.map zh)),.pers g,.own (r.map zd),.own (gs.map zd),s]
theorem zh8 (l : List Spot) : cutD (l.map zd) (some 1) none = (l.tail).map zd := by
 rw [za0 _ 1 1 rfl,List.drop_one,List.map_tail]
theorem zfy (l : List Spot) (c : Spot) : atI ((l ++ [c]).map zd) (-1) = some (zd c) := by
 rw [zbW,List.length_map,List.length_append,List.map_append]
 simp
theorem zcT {A Z : D} {run : List Gate} {pre gs : List Spot} {a b : Spot} {s : Slot} (hn : near a b) (hl : run.length ≤ 1000) (hp : pre.length < 50000) (hg : gs.length < 50000) :
 z7 (RE A Z run (pre ++ [a]) (gs ++ [b]) s) = .ok (.next (match farV run a b with
  | none => RE A Z run (pre ++ [a] ++ [b]) gs (.pers .non)
  | some p => RE A Z run (pre ++ [a]) (gs ++ [b] ++ [p]) (.pers (zd p)))) := by
 have hf := zjq (run := run) hn hl
 have ht : fTup (zw (f2 gIx (fVar 3) (f1 gNeg (fC (.int 1)))) (zw (f2 gIx (fVar 4) (f1 gNeg (fC (.int 1)))) (hNil))) (RE A Z run (pre ++ [a]) (gs ++ [b]) s) = .ok (.pers (strD (a,b))) := by
  have e1 : f2 gIx (fVar 3) (f1 gNeg (fC (.int 1))) (RE A Z run (pre ++ [a]) (gs ++ [b]) s) = .ok (.pers (zd a)) := by
   show gIx (.lst ((pre ++ [a]).map zd)) (.int (-1)) = _
   simp only [gIx,zfy]
  have e2 : f2 gIx (fVar 4) (f1 gNeg (fC (.int 1))) (RE A Z run (pre ++ [a]) (gs ++ [b]) s) = .ok (.pers (zd b)) := by
   show gIx (.lst ((gs ++ [b]).map zd)) (.int (-1)) = _
   simp only [gIx,zfy]
  simp only [fTup,zw,hNil,e1,e2,zi]
  rfl
 have hv : fVar 1 (RE A Z run (pre ++ [a]) (gs ++ [b]) s) = .ok (.pers (.lst (run.map zh))) := rfl
 have hc : zI zJ (zm (fTup (zw (f2 gIx (fVar 3) (f1 gNeg (fC (.int 1)))) (zw (f2 gIx (fVar 4) (f1 gNeg (fC (.int 1)))) (hNil)))) (zm (fVar 1) (fNil))) (RE A Z run (pre ++ [a]) (gs ++ [b]) s) = .ok (.pers (optS (farV run a b))) := by
  simp only [zI,zm,fNil,ht,hv,zi]
  show ((zJ [strD (a,b),.lst (run.map zh)]).bind _) = _
  rw [hf]
  rfl
 unfold z7
 rw [zk (env' := RE A Z run (pre ++ [a]) (gs ++ [b]) (.pers (optS (farV run a b)))) (by
  simp only [setS,hc,zi]
  rfl)]
 cases q : farV run a b with
 | none =>
   have c : fTrB (f2 gIsN (fVar 5) (fC .non)) (RE A Z run (pre ++ [a]) (gs ++ [b]) (.pers (optS none))) = .ok true := rfl
   simp only [ifS,c,zi,if_true]
   have hz : (pre ++ [a]).length < 100000 := by simp; lia
   simp [RE,zbb,optS,hz]
   lia
 | some p =>
   have c : fTrB (f2 gIsN (fVar 5) (fC .non)) (RE A Z run (pre ++ [a]) (gs ++ [b]) (.pers (optS (some p)))) = .ok false := rfl
   simp only [ifS,c,zi,Bool.false_eq_true,if_false]
   simp [RE,optS]
   lia
theorem zaD {A Z : D} {run : List Gate} (hl : run.length ≤ 1000) : ∀ (n : Nat) (a b : Spot),near a b → cnt run a.1 b.1 ≤ n → ∃ l k,Pul run a b l ∧ k ≤ 2 * cnt run a.1 b.1 + 1 ∧ l.length ≤ cnt run a.1 b.1 + 1 ∧
 ∀ (pre gs : List Spot) (s : Slot) (fu : Nat),pre.length + cnt run a.1 b.1 < 40000 → gs.length + cnt run a.1 b.1 < 40000 → ∃ s',whlD z0 z7 (fu + k) (RE A Z run (pre ++ [a]) (gs ++ [b]) s) = whlD z0 z7 fu (RE A Z run (pre ++ [a] ++ l) gs s')
 | n,a,b,hn,hc => by
   have ht : ∀ (r g : List Spot) (c : Spot) (s : Slot),z0 (RE A Z run r (g ++ [c]) s) = .ok true := fun r g c s => by
    simp [RE]
   cases q : farV run a b with
   | none =>
     refine ⟨[b],1,.stop (zgw q),by lia,by simp,fun pre gs s fu h1 h2 => ⟨.pers .non,?_⟩⟩
     have hb := zcT (A := A) (Z := Z) (s := s) (pre := pre) (gs := gs) hn hl (by lia) (by lia)
     rw [q] at hb
     rw [whlD,ht,zi,if_pos rfl,hb,zi]
   | some p =>
     obtain ⟨g,d,hg,hbw,hB,hd,far⟩ := zgv q
     have hx := hB.1
     have hs : (a.1 < p.1 ∧ p.1 < b.1) ∨ (b.1 < p.1 ∧ p.1 < a.1) := by rw [hx]; exact hbw
     have hcs := zfm hg hx.symm hs
     have hn' := hn
     obtain ⟨m1,m2⟩ := hn'
     have n1 : near a p := by unfold near; lia
     have n2 : near p b := by unfold near; lia
     match n,hc with
     | 0,hc => lia
     | n + 1,hc =>
       obtain ⟨l1,k1,P1,b1,c1,w1⟩ := zaD hl n a p n1 (by lia)
       obtain ⟨l2,k2,P2,b2,c2,w2⟩ := zaD hl n p b n2 (by lia)
       refine ⟨l1 ++ l2,k2 + k1 + 1,.split hg hbw hB hd far P1 P2,by lia,by simp; lia,fun pre gs s fu h1 h2 => ?_⟩
       have hb := zcT (A := A) (Z := Z) (s := s) (pre := pre) (gs := gs) hn hl (by lia) (by lia)
       rw [q] at hb
       obtain ⟨s1,e1⟩ := w1 pre (gs ++ [b]) (.pers (zd p)) (fu + k2) (by lia) (by simp; lia)
       obtain ⟨t,rfl⟩ := zcY P1
       obtain ⟨s2,e2⟩ := w2 (pre ++ [a] ++ t) gs s1 fu (by simp at c1 ⊢; lia) (by lia)
       refine ⟨s2,?_⟩
       rw [← Nat.add_assoc,← Nat.add_assoc,whlD,ht,zi,if_pos rfl,hb,zi]
       simp only
       rw [e1]
       simp only [List.append_assoc] at e2 ⊢
       exact e2
theorem zix {run : List Gate} {a b : Spot} (hn : near a b) (hl : run.length ≤ 40) : ∃ l,Pul run a b l ∧ l.length ≤ run.length + 1 ∧ zK [zd a,.lst (run.map zh),zd b] = .ok (.fresh (l.map zd)) := by
 have hcl : cnt run a.1 b.1 ≤ run.length := List.countP_le_length
 obtain ⟨l,k,P,hk,hl2,w⟩ := zaD (A := zd a) (Z := zd b) (run := run) (by lia) _ a b hn (Nat.le_refl _)
 obtain ⟨s,e⟩ := w [] [] .un (100 - k) (by simp; lia) (by simp; lia)
 rw [show 100 - k + k = 100 by lia] at e
 obtain ⟨j,hj⟩ : ∃ j,100 - k = j + 1 := ⟨100 - k - 1,by lia⟩
 have ht : z0 (RE (zd a) (zd b) run ([] ++ [a] ++ l) [] s) = .ok false := by simp [RE]
 have e0 : whlD z0 z7 (j + 1) (RE (zd a) (zd b) run ([] ++ [a] ++ l) [] s) = .ok (.next (RE (zd a) (zd b) run ([] ++ [a] ++ l) [] s)) := by
  rw [whlD,ht,zi,if_neg Bool.false_ne_true]
 rw [hj,e0] at e
 refine ⟨l,P,by lia,?_⟩
 unfold zK
 show ((yC [.pers (zd a),.pers (.lst (run.map zh)),.pers (zd b),.un,.un,.un]).bind _) = _
 unfold yC
 rw [zk (env' := [.pers (zd a),.pers (.lst (run.map zh)),.pers (zd b),.own [zd a],.un,.un]) rfl]
 rw [zk (env' := RE (zd a) (zd b) run ([] ++ [a]) ([] ++ [b]) .un) rfl]
 rw [zk e]
 have hcut : fSl (fVar 3) (fSo (fC (.int 1))) (fNo) (RE (zd a) (zd b) run ([] ++ [a] ++ l) [] s) = .ok (.fresh (l.map zd)) := by
  show Out.ok (Val.fresh (cutD ((a :: l).map zd) (some 1) none)) = _
  rw [zh8]
  rfl
 simp only [retS,hcut,zi]
@[reducible] noncomputable def ww : FS :=
 ifS (fAnd (fTr (fVar 4)) (fTrB (f2 gNe (f2 gIx (f2 gIx (fVar 4) (f1 gNeg (fC (.int 1)))) (fC (.int 3))) (f2 gIx (fVar 5) (fC (.int 3))))))
 (seqS (setS 6 true (zI zP (zm (f2 gIx (fVar 4) (f1 gNeg (fC (.int 1)))) (zm (fVar 5) (fNil)))))
 (seqS (extS 3 (zI zK (zm (f2 gIx (fVar 3) (f1 gNeg (fC (.int 1)))) (zm (fVar 4) (zm (f2 gIx (fVar 6) (fC (.int 0))) (fNil))))))
 (seqS (appS 3 (f2 gIx (fVar 6) (fC (.int 1))))
 (setS 4 false (fLst (hNil))))))
 (nxtS)
@[reducible] noncomputable def yt : FS :=
 seqS (ww)
 (appS 4 (fVar 5))
noncomputable def xt : FS :=
 seqS (setS 3 false (fLst (zw (fVar 0) (hNil))))
 (seqS (setS 4 false (fLst (hNil)))
 (seqS (forS (fItL (fVar 1)) (gN 5)
 (yt))
 (seqS (extS 3 (zI zK (zm (f2 gIx (fVar 3) (f1 gNeg (fC (.int 1)))) (zm (fVar 4) (zm (fVar 2) (fNil))))))
 (retS (fSl (fVar 3) (fSo (fC (.int 1))) (fSo (f1 gNeg (fC (.int 1)))))))))
noncomputable def yj : List D → Out Val := runD 7 xt
theorem tR : ∀ ds v,ds.length = 3 → yj ds = .ok v → runD 7 xt ds = .ok v := fun _ _ _ h => h
theorem vN : ∀ l : List Spot,uP (l.map zd) = true
 | [] => rfl
 | p :: l => by
   have := vN l
   simp only [List.map_cons,uP,this,Bool.and_true]
   rfl
noncomputable def TE (s e : Spot) (row : List Gate) (sp : List Spot) (R : List Gate) (s5 s6 : Slot) : Ev := [.pers (zd s),.pers (.lst (row.map zh)),.pers (zd e),.own (sp.map zd),.own (R.map zh),s5,s6]
theorem zbh {s e a : Spot} {row : List Gate} {pre : List Spot} {R : List Gate} {s5 s6 : Slot} {X : FE} {b : Spot} (hX : X (TE s e row (pre ++ [a]) R s5 s6) = .ok (.pers (zd b))) (hn : near a b) (hl : R.length ≤ 40) (hp : pre.length < 10000) :
 ∃ l,Pul R a b l ∧ l.length ≤ R.length + 1 ∧ extS 3 (zI zK (zm (f2 gIx (fVar 3) (f1 gNeg (fC (.int 1)))) (zm (fVar 4) (zm X (fNil))))) (TE s e row (pre ++ [a]) R s5 s6) = .ok (.next (TE s e row (pre ++ [a] ++ l) R s5 s6)) := by
 obtain ⟨l,P,hll,h⟩ := zix (run := R) hn hl
 refine ⟨l,P,hll,?_⟩
 have e1 : f2 gIx (fVar 3) (f1 gNeg (fC (.int 1))) (TE s e row (pre ++ [a]) R s5 s6) = .ok (.pers (zd a)) := by
  show gIx (.lst ((pre ++ [a]).map zd)) (.int (-1)) = _
  simp only [gIx,zfy]
 have e2 : fVar 4 (TE s e row (pre ++ [a]) R s5 s6) = .ok (.brw 4 (R.map zh)) := rfl
 have hc : zI zK (zm (f2 gIx (fVar 3) (f1 gNeg (fC (.int 1)))) (zm (fVar 4) (zm X (fNil)))) (TE s e row (pre ++ [a]) R s5 s6) = .ok (.fresh (l.map zd)) := by
  simp only [zI,zm,fNil,e1,e2,hX,zi]
  show ((zK [zd a,.lst (R.map zh),zd b]).bind _) = _
  rw [h,zi,if_pos (by
   rw [Bool.or_eq_true]
   exact .inr (vN l))]
 have hz : (pre ++ [a]).length + l.length ≤ 100000 := by simp; lia
 show ((zI zK (zm (f2 gIx (fVar 3) (f1 gNeg (fC (.int 1)))) (zm (fVar 4) (zm X (fNil)))) (TE s e row (pre ++ [a]) R s5 s6)).bind _) = _
 rw [hc,zi]
 show (if ((pre ++ [a]).map zd).length + (l.map zd).length ≤ 100000 then _ else _) = _
 rw [if_pos (by rw [List.length_map,List.length_map]; exact hz)]
 rw [← List.map_append]
 rfl
noncomputable def tW : List Gate → List Gate → Spot → List (List Gate × Spot)
 | R,[],e => [(R,e)]
 | R,g :: r,e => if R ≠ [] ∧ (zB R).w ≠ g.w then (R,(zL (zB R) g).1) :: ([],(zL (zB R) g).2) :: tW [g] r e else tW (R ++ [g]) r e
theorem zd0 {R : List Gate} {g : Gate} (h : R.Pairwise Up) (hR : R ≠ []) (u : Up (zB R) g) : (R ++ [g]).Pairwise Up := by
 rw [List.pairwise_append]
 refine ⟨h,by simp,fun x hx y hy => ?_⟩
 rw [List.mem_singleton.mp hy]
 obtain ⟨m,z,rfl⟩ : ∃ m z,R = m ++ [z] := ⟨R.dropLast,R.getLast hR,(List.dropLast_concat_getLast hR).symm⟩
 have el : zB (m ++ [z]) = z := by
  unfold zB
  rw [List.getLastD_eq_getLast?,List.getLast?_concat]
  rfl
 rw [el] at u
 rcases List.mem_append.mp hx with hx | hx
 ·exact ((List.pairwise_append.mp h).2.2 x hx z (by simp)).trans u
 ·rw [List.mem_singleton.mp hx]; exact u
theorem uS : ∀ (r R : List Gate) (e : Spot),R ≠ [] → R.Pairwise Up → Walk (zB R :: r) → tW R r e = yA (yv (R ++ r)) e
 | [],R,e,hR,hu,_ => by
   have := uk (r := []) hu hR (by simp)
   rw [this]
   rfl
 | g :: r,R,e,hR,hu,⟨w1,w2,w3⟩ => by
   by_cases z : (zB R).w = g.w
   ·have u := w1 z
    have el : zB (R ++ [g]) = g := by
     unfold zB
     rw [List.getLastD_eq_getLast?,List.getLast?_concat]
     rfl
    have ih := uS r (R ++ [g]) e (by simp) (zd0 hu hR u) (by rw [el]; exact w3)
    rw [tW,if_neg fun q => q.2 z,ih,List.append_assoc]
    rfl
   ·have ih := uS r [g] e (by simp) (by simp) w3
    rw [tW,if_pos ⟨hR,z⟩,ih,uk (r := g :: r) hu hR (fun h hh => by simp at hh; rw [← hh]; exact z)]
    obtain ⟨Q,rs,er⟩ := wu g r
    show _ = yA (R :: yv (g :: r)) e
    have e2 : yv ([g] ++ r) = yv (g :: r) := rfl
    rw [e2,er]
    rfl
theorem zgo {row : List Gate} (e : Spot) (h : Walk row) : tW [] row e = yA (yv row) e := by
 cases row with
 | nil => rfl
 | cons g r =>
   rw [tW,if_neg fun q => q.1 rfl]
   exact uS r [g] e (by simp) (by simp) h
noncomputable def Bx (x : Int) : Prop := -(2 ^ 60) < x ∧ x < 2 ^ 60
theorem za4 {a b : Spot} (h : Bx a.1) (k : Bx b.1) : near a b := by
 unfold Bx at h k
 unfold near
 lia
theorem zgN (g h : Gate) : (zL g h).1.1 = g.x ∧ (zL g h).2.1 = g.x := by
 unfold zL
 split <;> exact ⟨rfl,rfl⟩
theorem zdy {s e u : Spot} {row : List Gate} {pre : List Spot} {R : List Gate} {g : Gate} {s6 : Slot} (bu : Bx u.1) (bR : ∀ x ∈ R,Bx x.x) (hl : R.length ≤ 40) (hp : pre.length < 9000) (ht : R ≠ [] → (zB R).w ≠ g.w → TurnOk (zB R) g) :
 (if R ≠ [] ∧ (zB R).w ≠ g.w then ∃ l s6',Pul R u (zL (zB R) g).1 l ∧ l.length ≤ R.length + 1 ∧ yt (TE s e row (pre ++ [u]) R (.pers (zh g)) s6) = .ok (.next (TE s e row (pre ++ [u] ++ l ++ [(zL (zB R) g).2]) [g] (.pers (zh g)) s6'))
  else yt (TE s e row (pre ++ [u]) R (.pers (zh g)) s6) = .ok (.next (TE s e row (pre ++ [u]) (R ++ [g]) (.pers (zh g)) s6))) := by
 have hap : ∀ (sp : List Spot) (Q : List Gate) (z : Slot),Q.length < 1000 → appS 4 (fVar 5) (TE s e row sp Q (.pers (zh g)) z) = .ok (.next (TE s e row sp (Q ++ [g]) (.pers (zh g)) z)) := fun sp Q z hQ => by
  have : Q.length < 100000 := by lia
  simp [TE,this]
 by_cases hR : R = []
 ·subst hR
  rw [if_neg fun q => q.1 rfl]
  unfold yt
  rw [zk (env' := TE s e row (pre ++ [u]) [] (.pers (zh g)) s6) rfl]
  exact hap _ _ _ (by simp)
 have lg : atI (R.map zh) (-1) = some (zh (zB R)) := by
  unfold zB
  rw [zbW,List.length_map,List.getElem?_map,← List.getLast?_eq_getElem?,List.getLastD_eq_getLast?,List.getLast?_eq_some_getLast hR]
  rfl
 have hlast : f2 gIx (fVar 4) (f1 gNeg (fC (.int 1))) (TE s e row (pre ++ [u]) R (.pers (zh g)) s6) = .ok (.pers (zh (zB R))) := by
  show gIx (.lst (R.map zh)) (.int (-1)) = _
  simp only [gIx,lg]
 have c : fAnd (fTr (fVar 4)) (fTrB (f2 gNe (f2 gIx (f2 gIx (fVar 4) (f1 gNeg (fC (.int 1)))) (fC (.int 3))) (f2 gIx (fVar 5) (fC (.int 3))))) (TE s e row (pre ++ [u]) R (.pers (zh g)) s6) = .ok (decide ((zB R).w ≠ g.w)) := by
  have t1 : fTr (fVar 4) (TE s e row (pre ++ [u]) R (.pers (zh g)) s6) = .ok true := by
   cases R with
   | nil => exact absurd rfl hR
   | cons x r => rfl
  have t2 : f2 gNe (f2 gIx (f2 gIx (fVar 4) (f1 gNeg (fC (.int 1)))) (fC (.int 3))) (f2 gIx (fVar 5) (fC (.int 3))) (TE s e row (pre ++ [u]) R (.pers (zh g)) s6) = gNe (.int (zB R).w) (.int g.w) := by
   have e3 : f2 gIx (f2 gIx (fVar 4) (f1 gNeg (fC (.int 1)))) (fC (.int 3)) (TE s e row (pre ++ [u]) R (.pers (zh g)) s6) = .ok (.pers (.int (zB R).w)) := by
    show ((f2 gIx (fVar 4) (f1 gNeg (fC (.int 1))) (TE s e row (pre ++ [u]) R (.pers (zh g)) s6)).bind _) = _
    rw [hlast]
    rfl
   show ((f2 gIx (f2 gIx (fVar 4) (f1 gNeg (fC (.int 1)))) (fC (.int 3)) (TE s e row (pre ++ [u]) R (.pers (zh g)) s6)).bind _) = _
   rw [e3]
   rfl
  simp only [fAnd,t1,zi,if_true,fTrB,t2]
  by_cases z : (zB R).w = g.w <;> simp [z]
 by_cases z : (zB R).w = g.w
 ·rw [if_neg fun q => q.2 z]
  unfold yt
  rw [decide_eq_false (fun w => w z)] at c
  rw [zk (env' := TE s e row (pre ++ [u]) R (.pers (zh g)) s6) (by
   simp only [ww,ifS,c,zi]
   rfl)]
  exact hap _ _ _ (by lia)
 ·rw [if_pos ⟨hR,z⟩]
  rw [decide_eq_true z] at c
  have hT := zdv (ht hR z)
  have hm : zB R ∈ R := by
   unfold zB
   rw [List.getLastD_eq_getLast?,List.getLast?_eq_some_getLast hR]
   exact List.getLast_mem hR
  obtain ⟨tx1,tx2⟩ := zgN (zB R) g
  have b1 : Bx (zL (zB R) g).1.1 := by rw [tx1]; exact bR _ hm
  obtain ⟨l,P,hll,hx⟩ := zbh (s := s) (e := e) (row := row) (pre := pre) (R := R) (s5 := .pers (zh g)) (s6 := .pers (.tup [zd (zL (zB R) g).1,zd (zL (zB R) g).2])) (X := f2 gIx (fVar 6) (fC (.int 0))) (b := (zL (zB R) g).1) rfl (za4 bu b1) hl (by lia)
  refine ⟨l,.pers (.tup [zd (zL (zB R) g).1,zd (zL (zB R) g).2]),P,hll,?_⟩
  have hc6 : zI zP (zm (f2 gIx (fVar 4) (f1 gNeg (fC (.int 1)))) (zm (fVar 5) (fNil))) (TE s e row (pre ++ [u]) R (.pers (zh g)) s6) = .ok (.pers (.tup [zd (zL (zB R) g).1,zd (zL (zB R) g).2])) := by
   have e5 : fVar 5 (TE s e row (pre ++ [u]) R (.pers (zh g)) s6) = .ok (.pers (zh g)) := rfl
   simp only [zI,zm,fNil,hlast,e5,zi]
   show ((zP [zh (zB R),zh g]).bind _) = _
   rw [hT]
   rfl
  have hap3 : appS 3 (f2 gIx (fVar 6) (fC (.int 1))) (TE s e row (pre ++ [u] ++ l) R (.pers (zh g)) (.pers (.tup [zd (zL (zB R) g).1,zd (zL (zB R) g).2]))) = .ok (.next (TE s e row (pre ++ [u] ++ l ++ [(zL (zB R) g).2]) R (.pers (zh g)) (.pers (.tup [zd (zL (zB R) g).1,zd (zL (zB R) g).2])))) := by
   have hlen : ((pre ++ [u] ++ l).map zd).length < 100000 := by simp; lia
   show (if ((pre ++ [u] ++ l).map zd).length < 100000 then _ else _) = _
   rw [if_pos hlen]
   unfold TE
   rw [List.map_append (l₂ := [(zL (zB R) g).2])]
   rfl
  unfold yt
  rw [zk (env' := TE s e row (pre ++ [u] ++ l ++ [(zL (zB R) g).2]) [] (.pers (zh g)) (.pers (.tup [zd (zL (zB R) g).1,zd (zL (zB R) g).2]))) (by
   simp only [ww,ifS,c,zi,if_true]
   rw [zk (env' := TE s e row (pre ++ [u]) R (.pers (zh g)) (.pers (.tup [zd (zL (zB R) g).1,zd (zL (zB R) g).2]))) (by
    simp only [setS,hc6,zi]
    rfl),zk hx,zk hap3]
   rfl)]
  exact hap _ [] _ (by simp)
theorem zf4 (a b : Spot) : Pul [] a b [b] := .stop fun g hg => absurd hg (by simp)
theorem uy {s e : Spot} {row : List Gate} {xs : List Int} (hxs : xs.length ≤ 40) : ∀ (rest R : List Gate) (pre : List Spot) (u : Spot) (s5 s6 : Slot),Bx u.1 → (∀ x ∈ R,Bx x.x ∧ x.x ∈ xs) → (∀ x ∈ rest,Bx x.x ∧ x.x ∈ xs) → R.Pairwise Up → pre.length + R.length + 3 * rest.length < 9000 → (R = [] → Walk rest) → (R ≠ [] → Walk (zB R :: rest)) →
 ∃ (pre' : List Spot) (u' : Spot) (R' : List Gate) (T : List Spot) (s5' s6' : Slot),forD (gN 5) yt (rest.map zh) (TE s e row (pre ++ [u]) R s5 s6) = .ok (.next (TE s e row (pre' ++ [u']) R' s5' s6')) ∧ pre' ++ [u'] = pre ++ [u] ++ T ∧ Bx u'.1 ∧ R'.length ≤ 40 ∧ pre'.length < 9000 ∧ ∀ l,Pul R' u' e l → Tot u (tW R rest e) (T ++ l)
 | [],R,pre,u,s5,s6,bu,bR,_,hu,hp,_,_ => ⟨pre,u,R,[],s5,s6,rfl,by simp,bu,Nat.le_trans (zgL hu fun g hg => (bR g hg).2) hxs,by lia,fun l P => by
  have := Tot.cons P (Tot.nil (a := e))
  rw [List.append_nil] at this
  exact this⟩
 | g :: rest,R,pre,u,s5,s6,bu,bR,bg,hu,hp,w0,w1 => by
   simp only [List.length_cons] at hp
   have ht : R ≠ [] → (zB R).w ≠ g.w → TurnOk (zB R) g := fun h z => (w1 h).2.1 z
   have hR40 : R.length ≤ 40 := Nat.le_trans (zgL hu fun g hg => (bR g hg).2) hxs
   have st := zdy (s := s) (e := e) (row := row) (pre := pre) (R := R) (g := g) (s6 := s6) bu (fun x hx => (bR x hx).1) hR40 (by lia) ht
   have hg : gN 5 (zh g) (TE s e row (pre ++ [u]) R s5 s6) = .ok (TE s e row (pre ++ [u]) R (.pers (zh g)) s6) := rfl
   have bg' : ∀ x ∈ rest,Bx x.x ∧ x.x ∈ xs := fun x hx => bg x (by simp [hx])
   have wg : Walk (g :: rest) := by
    by_cases h : R = []
    ·exact w0 h
    ·exact (w1 h).2.2
   by_cases c : R ≠ [] ∧ (zB R).w ≠ g.w
   ·rw [if_pos c] at st
    obtain ⟨l1,s6',P1,hl1,hb⟩ := st
    have hm : zB R ∈ R := by
     unfold zB
     rw [List.getLastD_eq_getLast?,List.getLast?_eq_some_getLast c.1]
     exact List.getLast_mem c.1
    have b2 : Bx (zL (zB R) g).2.1 := by rw [(zgN (zB R) g).2]; exact (bR _ hm).1
    obtain ⟨pre',u',R',T,s5',s6'',e1,e2,b',k1,k2,tot⟩ := uy (s := s) (e := e) (row := row) hxs rest [g] (pre ++ [u] ++ l1) (zL (zB R) g).2 (.pers (zh g)) s6' b2 (fun x hx => by rw [List.mem_singleton.mp hx]; exact bg g (by simp)) bg' (by simp) (by simp; lia) (fun z => by simp at z) (fun _ => wg)
    refine ⟨pre',u',R',l1 ++ ([(zL (zB R) g).2] ++ T),s5',s6'',?_,by rw [e2]; simp,b',k1,k2,fun l P => ?_⟩
    ·rw [List.map_cons,forD,hg,zi,hb,zi]
     exact e1
    ·rw [tW,if_pos c,List.append_assoc,List.append_assoc]
     exact .cons P1 (.cons (zf4 _ _) (tot l P))
   ·rw [if_neg c] at st
    have el : zB (R ++ [g]) = g := by
     unfold zB
     rw [List.getLastD_eq_getLast?,List.getLast?_concat]
     rfl
    have hu' : (R ++ [g]).Pairwise Up := by
     by_cases h : R = []
     ·subst h; simp
     ·have hw : (zB R).w = g.w := Decidable.byContradiction fun z => c ⟨h,z⟩
      exact zd0 hu h ((w1 h).1 hw)
    obtain ⟨pre',u',R',T,s5',s6'',e1,e2,b',k1,k2,tot⟩ := uy (s := s) (e := e) (row := row) hxs rest (R ++ [g]) pre u (.pers (zh g)) s6 bu (fun x hx => by
     rcases List.mem_append.mp hx with hx | hx
     ·exact bR x hx
     ·rw [List.mem_singleton.mp hx]; exact bg g (by simp)) bg' hu' (by simp; lia) (fun z => by simp at z) (fun _ => by rw [el]; exact wg)
    refine ⟨pre',u',R',T,s5',s6'',?_,e2,b',k1,k2,fun l P => ?_⟩
    ·rw [List.map_cons,forD,hg,zi,st,zi]
     exact e1
    ·rw [tW,if_neg c]
     exact tot l P
theorem zh9 (a : Spot) (m : List Spot) (e : Spot) : cutD ((a :: (m ++ [e])).map zd) (some 1) (some (-1)) = m.map zd := by
 have hl : ((a :: (m ++ [e])).map zd).length = m.length + 2 := by simp
 unfold DL.cutD
 rw [hl]
 show (((a :: (m ++ [e])).map zd).drop (if (1 : Int) < 0 then ((1 : Int) + ((m.length + 2 : Nat) : Int)).toNat else min (1 : Int).toNat (m.length + 2))).take ((if (-1 : Int) < 0 then ((-1 : Int) + ((m.length + 2 : Nat) : Int)).toNat else min (-1 : Int).toNat (m.length + 2)) - (if (1 : Int) < 0 then ((1 : Int) + ((m.length + 2 : Nat) : Int)).toNat else min (1 : Int).toNat (m.length + 2))) = _
 rw [if_pos (show (-1 : Int) < 0 by lia),if_neg (show ¬ (1 : Int) < 0 by lia)]
 have e1 : min (1 : Int).toNat (m.length + 2) = 1 := by
  show min 1 (m.length + 2) = 1
  lia
 have e2 : ((-1 : Int) + ((m.length + 2 : Nat) : Int)).toNat = m.length + 1 := by lia
 rw [e1,e2]
 simp
theorem zdx {s e : Spot} {row : List Gate} {xs : List Int} (bs : Bx s.1) (be : Bx e.1) (bg : ∀ g ∈ row,Bx g.x ∧ g.x ∈ xs) (hxs : xs.length ≤ 40) (hl : row.length ≤ 2500) (w : Walk row) :
 ∃ m,Tot s (yA (yv row) e) (m ++ [e]) ∧ m.length ≤ 9100 ∧ yj [zd s,.lst (row.map zh),zd e] = .ok (.fresh (m.map zd)) := by
 obtain ⟨pre,u,R,T,s5,s6,ef,ep,bu,hR,hp,tot⟩ := uy (s := s) (e := e) (row := row) hxs row [] [] s .un .un bs (by simp) bg (by simp) (by simp; lia) (fun _ => w) (fun z => absurd rfl z)
 obtain ⟨l,P,hll,hx⟩ := zbh (s := s) (e := e) (a := u) (row := row) (pre := pre) (R := R) (s5 := s5) (s6 := s6) (X := fVar 2) (b := e) rfl (za4 bu be) hR (by lia)
 obtain ⟨z,rfl⟩ := zcY P
 have tt := tot _ P
 rw [zgo e w,← List.append_assoc] at tt
 have hlen := congrArg List.length ep
 simp only [List.length_append,List.length_cons,List.length_nil] at hlen hll
 refine ⟨T ++ z,tt,by rw [List.length_append]; lia,?_⟩
 have e4 : pre ++ [u] ++ (z ++ [e]) = s :: ((T ++ z) ++ [e]) := by rw [ep]; simp
 have hcut : fSl (fVar 3) (fSo (fC (.int 1))) (fSo (f1 gNeg (fC (.int 1)))) (TE s e row (s :: ((T ++ z) ++ [e])) R s5 s6) = .ok (.fresh ((T ++ z).map zd)) := by
  show Out.ok (Val.fresh (cutD ((s :: ((T ++ z) ++ [e])).map zd) (some 1) (some (-1)))) = _
  rw [zh9]
 unfold yj
 show ((xt [.pers (zd s),.pers (.lst (row.map zh)),.pers (zd e),.un,.un,.un,.un]).bind _) = _
 unfold xt
 rw [zk (env' := [.pers (zd s),.pers (.lst (row.map zh)),.pers (zd e),.own [zd s],.un,.un,.un]) rfl]
 rw [zk (env' := TE s e row ([] ++ [s]) [] .un .un) rfl]
 rw [zk (by
  have hi : fItL (fVar 1) (TE s e row ([] ++ [s]) [] .un .un) = .ok (row.map zh) := rfl
  simp only [forS,hi,zi]
  exact ef)]
 rw [zk hx,e4]
 simp only [retS,hcut,zi]
noncomputable def yo : FS :=
 seqS (setS 3 true (f2 gSub (f2 gIx (fVar 1) (fC (.int 0))) (f2 gIx (fVar 0) (fC (.int 0)))))
 (seqS (setS 4 true (f2 gSub (f2 gIx (fVar 1) (fC (.int 1))) (f2 gIx (fVar 0) (fC (.int 1)))))
 (seqS (setS 5 true (f2 gSub (f2 gIx (fVar 2) (fC (.int 0))) (f2 gIx (fVar 1) (fC (.int 0)))))
 (seqS (setS 6 true (f2 gSub (f2 gIx (fVar 2) (fC (.int 1))) (f2 gIx (fVar 1) (fC (.int 1)))))
 (retS (ze6 (f2 gEq (f2 gMul (fVar 3) (fVar 6)) (f2 gMul (fVar 4) (fVar 5))) (f2 gGt (f2 gAdd (f2 gMul (fVar 3) (fVar 5)) (f2 gMul (fVar 4) (fVar 6))) (fC (.int 0))))))))
noncomputable def zQ : List D → Out Val := runD 7 yo
theorem vm : ∀ ds v,ds.length = 3 → zQ ds = .ok v → runD 7 yo ds = .ok v := fun _ _ _ h => h
theorem zb1 {o m n : Spot} (h1 : near o m) (h2 : near m n) (h3 : -(2 ^ 64) < m.2 - o.2 ∧ m.2 - o.2 < 2 ^ 64) : zQ [zd o,zd m,zd n] = .ok (.pers (.bl (straight o m n))) := by
 have c1 : ∀ j,cMul (m.1 - o.1) j = true := fun j => zbR h1.1 h1.2
 have c2 : ∀ j,cMul j (n.1 - m.1) = true := fun j => zdp h2.1 h2.2
 have c3 : ∀ j,cMul (m.2 - o.2) j = true := fun j => zbR h3.1 h3.2
 unfold zQ
 show ((yo [.pers (zd o),.pers (zd m),.pers (zd n),.un,.un,.un,.un]).bind _) = _
 unfold yo
 rw [zk (env' := [.pers (zd o),.pers (zd m),.pers (zd n),.pers (.int (m.1 - o.1)),.un,.un,.un]) rfl]
 rw [zk (env' := [.pers (zd o),.pers (zd m),.pers (zd n),.pers (.int (m.1 - o.1)),.pers (.int (m.2 - o.2)),.un,.un]) rfl]
 rw [zk (env' := [.pers (zd o),.pers (zd m),.pers (zd n),.pers (.int (m.1 - o.1)),.pers (.int (m.2 - o.2)),.pers (.int (n.1 - m.1)),.un]) rfl]
 rw [zk (env' := [.pers (zd o),.pers (zd m),.pers (zd n),.pers (.int (m.1 - o.1)),.pers (.int (m.2 - o.2)),.pers (.int (n.1 - m.1)),.pers (.int (n.2 - m.2))]) rfl]
 unfold straight
 by_cases z : (m.1 - o.1) * (n.2 - m.2) = (m.2 - o.2) * (n.1 - m.1)
 ·simp [c1,c2,c3,z]
 ·have zb : ((m.1 - o.1) * (n.2 - m.2) == (m.2 - o.2) * (n.1 - m.1)) = false := beq_eq_false_iff_ne.mpr z
  simp [c1,c2,c3,zb,z]
@[reducible] noncomputable def yh : FT :=
 fNot (fTr (zI zQ (zm (fVar 0) (zm (fVar 1) (zm (fVar 2) (fNil))))))
@[reducible] noncomputable def yZ : FE :=
 fVar 1
noncomputable def xV : FS :=
 seqS (setS 3 true (f2 gAdd (f2 gAdd (fLst (zw (fVar 0) (hNil))) (zI zW (zm (zI yj (zm (fVar 0) (zm (fVar 1) (zm (fVar 2) (fNil))))) (fNil)))) (fLst (zw (fVar 2) (hNil)))))
 (seqS (setS 4 true (yq [] 3 (zgx (fVar 3) (fSl (fVar 3) (fSo (fC (.int 1))) (fNo)) (fSl (fVar 3) (fSo (fC (.int 2))) (fNo))) (gT [0,1,2]) (yh) (yZ)))
 (retS (f2 gAdd (f2 gAdd (fLst (zw (fVar 0) (hNil))) (fVar 4)) (fLst (zw (fVar 2) (hNil))))))
noncomputable def zH : List D → Out Val := runD 5 xV
theorem zaK : ∀ ds v,ds.length = 3 → zH ds = .ok v → runD 5 xV ds = .ok v := fun _ _ _ h => h
noncomputable def triD (t : Spot × Spot × Spot) : D := .tup [zd t.1,zd t.2.1,zd t.2.2]
theorem zdW : ∀ l : List Spot,vB (l.map zd) (l.tail.map zd) (l.tail.tail.map zd) = (yG l).map triD
 | [] => rfl
 | [_] => rfl
 | [_,_] => rfl
 | o :: m :: n :: r => by
   have ih := zdW (m :: n :: r)
   simp only [List.tail_cons,List.map_cons] at ih ⊢
   rw [vB,yG,List.map_cons,← ih]
   rfl
theorem zd6 : ∀ l : List Spot,(yG l).length ≤ l.length
 | [] => Nat.le_refl _
 | [_] => Nat.zero_le _
 | [_,_] => Nat.zero_le _
 | o :: m :: n :: r => by
   have := zd6 (m :: n :: r)
   rw [yG,List.length_cons,List.length_cons]
   lia
theorem zdo : ∀ (ts : List (Spot × Spot × Spot)) (a b c : Slot),(∀ t ∈ ts,near t.1 t.2.1 ∧ near t.2.1 t.2.2 ∧ -(2 ^ 64) < t.2.1.2 - t.1.2 ∧ t.2.1.2 - t.1.2 < 2 ^ 64) → compD (gT [0,1,2]) yh yZ (ts.map triD) [a,b,c] = .ok ((ts.filterMap fun t => if straight t.1 t.2.1 t.2.2 = true then none else some t.2.1).map zd)
 | [],_,_,_,_ => rfl
 | t :: ts,a,b,c,h => by
   obtain ⟨h1,h2,h3⟩ := h t (by simp)
   have st := zb1 h1 h2 h3
   have ih := zdo ts (.pers (zd t.1)) (.pers (zd t.2.1)) (.pers (zd t.2.2)) (fun x hx => h x (by simp [hx]))
   have hg : gT [0,1,2] (triD t) [a,b,c] = .ok [.pers (zd t.1),.pers (zd t.2.1),.pers (zd t.2.2)] := rfl
   have ht : yh [.pers (zd t.1),.pers (zd t.2.1),.pers (zd t.2.2)] = .ok (!straight t.1 t.2.1 t.2.2) := by
    have hc : zI zQ (zm (fVar 0) (zm (fVar 1) (zm (fVar 2) (fNil)))) [.pers (zd t.1),.pers (zd t.2.1),.pers (zd t.2.2)] = .ok (.pers (.bl (straight t.1 t.2.1 t.2.2))) := by
     show ((zQ [zd t.1,zd t.2.1,zd t.2.2]).bind _) = _
     rw [st]
     rfl
    simp only [yh,fNot,fTr,hc,zi,Val.d,trD]
   rw [List.map_cons,compD,hg,zi,ht,zi,List.filterMap_cons]
   cases straight t.1 t.2.1 t.2.2 with
   | true => exact ih
   | false =>
     show ((compD (gT [0,1,2]) yh yZ (ts.map triD) [.pers (zd t.1),.pers (zd t.2.1),.pers (zd t.2.2)]).bind _) = _
     rw [ih]
     rfl
structure PullOk (s e : Spot) (row : List Gate) : Prop where
 bs : Bx s.1
 be : Bx e.1
 bg : ∀ g ∈ row,Bx g.x
 xs : ∃ xs : List Int,xs.length ≤ 40 ∧ ∀ g ∈ row,g.x ∈ xs
 len : row.length ≤ 2500
 walk : Walk row
 sx : ∀ g ∈ row,g.x ≠ s.1
 ex : ∀ g ∈ row,g.x ≠ e.1
 hh : ∃ c : Int,∀ p,p = s ∨ p = e ∨ PegOf row p → c ≤ p.2 ∧ p.2 < c + 2 ^ 64
theorem vk {s e : Spot} {row : List Gate} (ok : PullOk s e row) : ∃ out,x9 s (yv row) e out ∧ out.length ≤ 9200 ∧ zH [zd s,.lst (row.map zh),zd e] = .ok (.fresh (out.map zd)) := by
 obtain ⟨xs,hxs,hx⟩ := ok.xs
 obtain ⟨m,tot,hm,ht⟩ := zdx ok.bs ok.be (fun g hg => ⟨ok.bg g hg,hx g hg⟩) hxs ok.len ok.walk
 have tn := uC _ (uj row ok.walk)
 obtain ⟨m',em,hp⟩ := zby (yv row) s e (m ++ [e]) tn tot
 obtain rfl : m = m' := (List.append_inj' em rfl).1
 rw [wv] at hp
 have n1 : ∀ p ∈ m,p ≠ s := fun p k q => by
  obtain ⟨g,hg,w,_⟩ := hp p k
  exact ok.sx g hg (by rw [← w,q])
 have n2 : ∀ p ∈ m,p ≠ e := fun p k q => by
  obtain ⟨g,hg,w,_⟩ := hp p k
  exact ok.ex g hg (by rw [← w,q])
 have hu := zfN (ps := m) (by lia)
 have hul := zgu m
 generalize hU : m.foldl w5 [] = U at hu hul
 have hin : ∀ p ∈ s :: (U ++ [e]),p = s ∨ p = e ∨ PegOf row p := fun p k => by
  rcases List.mem_cons.mp k with k | k
  ·exact .inl k
  ·rcases List.mem_append.mp k with k | k
   ·rw [← hU] at k
    exact .inr (.inr (hp p (zdY k)))
   ·exact .inr (.inl (List.mem_singleton.mp k))
 have hbx : ∀ p ∈ s :: (U ++ [e]),Bx p.1 := fun p k => by
  rcases hin p k with rfl | rfl | ⟨g,hg,w,_⟩
  ·exact ok.bs
  ·exact ok.be
  ·rw [w]; exact ok.bg g hg
 obtain ⟨c,hc⟩ := ok.hh
 have hwl : (s :: (U ++ [e])).length ≤ 9102 := by simp; lia
 refine ⟨s :: (inner (s :: (U ++ [e])) ++ [e]),⟨m ++ [e],tot,by rw [← hU,zhf n1 n2]⟩,by
  have := uZ (s :: (U ++ [e]))
  simp only [List.length_cons,List.length_append,List.length_nil] at this hwl ⊢
  lia,?_⟩
 have E0 : ∀ s4 : Slot,∃ E : Ev,E = [.pers (zd s),.pers (.lst (row.map zh)),.pers (zd e),s4,.un] := fun s4 => ⟨_,rfl⟩
 have ct : zI yj (zm (fVar 0) (zm (fVar 1) (zm (fVar 2) (fNil)))) [.pers (zd s),.pers (.lst (row.map zh)),.pers (zd e),.un,.un] = .ok (.fresh (m.map zd)) := by
  show ((yj [zd s,.lst (row.map zh),zd e]).bind _) = _
  rw [ht]
  rfl
 have cu : zI zW (zm (zI yj (zm (fVar 0) (zm (fVar 1) (zm (fVar 2) (fNil))))) (fNil)) [.pers (zd s),.pers (.lst (row.map zh)),.pers (zd e),.un,.un] = .ok (.fresh (U.map zd)) := by
  rw [zI,zm,ct,zi]
  show ((zW [.lst (m.map zd)]).bind _) = _
  rw [hu,zi,if_pos (by
   rw [Bool.or_eq_true]
   exact .inr (vN U))]
 have add3 : ∀ (L : List Spot),L.length ≤ 9102 → ∀ (X : FE) (E : Ev),X E = .ok (.fresh (L.map zd)) ∨ X E = .ok (.pers (.lst (L.map zd))) → E[0]? = some (.pers (zd s)) → E[2]? = some (.pers (zd e)) → f2 gAdd (f2 gAdd (fLst (zw (fVar 0) (hNil))) X) (fLst (zw (fVar 2) (hNil))) E = .ok (.fresh ((s :: (L ++ [e])).map zd)) := by
  intro L hL X E hX h0 h2
  have v0 : fLst (zw (fVar 0) (hNil)) E = .ok (.fresh [zd s]) := by
   simp only [fLst,zw,hNil,fVar,h0,zi]
   rfl
  have v2 : fLst (zw (fVar 2) (hNil)) E = .ok (.fresh [zd e]) := by
   simp only [fLst,zw,hNil,fVar,h2,zi]
   rfl
  have a1 : f2 gAdd (fLst (zw (fVar 0) (hNil))) X E = .ok (.fresh ((s :: L).map zd)) := by
   have : f2 gAdd (fLst (zw (fVar 0) (hNil))) X E = gAdd (.lst [zd s]) (.lst (L.map zd)) := by
    rcases hX with hX | hX <;> simp only [f2,v0,hX,zi,Val.d]
   rw [this,gAdd,if_pos (by simp only [List.length_cons,List.length_nil,List.length_map]; lia)]
   rfl
  have : f2 gAdd (f2 gAdd (fLst (zw (fVar 0) (hNil))) X) (fLst (zw (fVar 2) (hNil))) E = gAdd (.lst ((s :: L).map zd)) (.lst [zd e]) := by
   show ((f2 gAdd (fLst (zw (fVar 0) (hNil))) X E).bind _) = _
   rw [a1,zi,v2,zi]
   rfl
  rw [this,gAdd,if_pos (by simp only [List.length_cons,List.length_nil,List.length_map]; lia)]
  simp only [List.map_cons,List.map_append,List.map_nil,List.cons_append]
 have hway := add3 U (by lia) _ [.pers (zd s),.pers (.lst (row.map zh)),.pers (zd e),.un,.un] (.inl cu) rfl rfl
 generalize hW : s :: (U ++ [e]) = W at hway hin hbx hwl
 have hcomp : compD (gT [0,1,2]) yh yZ ((yG W).map triD) [.un,.un,.un] = .ok ((inner W).map zd) := by
  rw [zdo _ _ _ _ fun t k => ?_,zbA]
  obtain ⟨k1,k2,k3⟩ := zd5 k
  have q1 := hc _ (hin _ k1)
  have q2 := hc _ (hin _ k2)
  exact ⟨za4 (hbx _ k1) (hbx _ k2),za4 (hbx _ k2) (hbx _ k3),by lia,by lia⟩
 have hz : zgx (fVar 3) (fSl (fVar 3) (fSo (fC (.int 1))) (fNo)) (fSl (fVar 3) (fSo (fC (.int 2))) (fNo)) [.pers (zd s),.pers (.lst (row.map zh)),.pers (zd e),.pers (.lst (W.map zd)),.un] = .ok ((yG W).map triD) := by
  show Out.ok (vB (W.map zd) (cutD (W.map zd) (some 1) none) (cutD (W.map zd) (some 2) none)) = _
  rw [za0 _ 1 1 rfl,za0 _ 2 2 rfl,← zdW,List.map_tail,List.map_tail,List.map_tail,← List.drop_one,← List.drop_one,List.drop_drop]
 have hb : yq [] 3 (zgx (fVar 3) (fSl (fVar 3) (fSo (fC (.int 1))) (fNo)) (fSl (fVar 3) (fSo (fC (.int 2))) (fNo))) (gT [0,1,2]) (yh) (yZ) [.pers (zd s),.pers (.lst (row.map zh)),.pers (zd e),.pers (.lst (W.map zd)),.un] = .ok (.fresh ((inner W).map zd)) := by
  have hl : ((yG W).map triD).length ≤ 100000 := by
   rw [List.length_map]
   have := zd6 W
   lia
  rw [yq,hz,zi,if_pos hl]
  show ((compD (gT [0,1,2]) yh yZ ((yG W).map triD) [.un,.un,.un]).bind _) = _
  rw [hcomp]
  rfl
 have hil := uZ W
 have hlast := add3 (inner W) (by lia) (fVar 4) [.pers (zd s),.pers (.lst (row.map zh)),.pers (zd e),.pers (.lst (W.map zd)),.pers (.lst ((inner W).map zd))] (.inr rfl) rfl rfl
 unfold zH
 show ((xV [.pers (zd s),.pers (.lst (row.map zh)),.pers (zd e),.un,.un]).bind _) = _
 unfold xV
 rw [zk (env' := [.pers (zd s),.pers (.lst (row.map zh)),.pers (zd e),.pers (.lst (W.map zd)),.un]) (by
  rw [setS,hway]
  rfl)]
 rw [zk (env' := [.pers (zd s),.pers (.lst (row.map zh)),.pers (zd e),.pers (.lst (W.map zd)),.pers (.lst ((inner W).map zd))]) (by
  rw [setS,hb]
  rfl)]
 rw [retS,hlast]
 rfl
@[reducible] noncomputable def xL : FS :=
 ifS (fTrB (f2 wR (fVar 4) (fC .non)))
 (setS 4 true (f2 gAdd (fVar 4) (f2 gMul (fVar 1) (fVar 3))))
 (nxtS)
@[reducible] noncomputable def xK : FS :=
 ifS (fTrB (f2 wR (fVar 5) (fC .non)))
 (setS 5 true (f2 gAdd (fVar 5) (f2 gMul (fVar 1) (fVar 3))))
 (nxtS)
@[reducible] noncomputable def xa : FS :=
 seqS (xL)
 (seqS (xK)
 (appS 2 (fTup (zw (fVar 3) (zw (fVar 4) (zw (fVar 5) (zw (fVar 6) (hNil))))))))
noncomputable def yQ : FS :=
 seqS (setS 2 false (fLst (hNil)))
 (seqS (forS (fItL (fVar 0)) (gT [3,4,5,6])
 (xa))
 (retS (fVar 2)))
noncomputable def yd : List D → Out Val := runD 7 yQ
theorem v7 : ∀ ds v,ds.length = 2 → yd ds = .ok v → runD 7 yQ ds = .ok v := fun _ _ _ h => h
@[reducible] noncomputable def wK : FE :=
 fTup (zw (fVar 1) (zw (f2 gAdd (fVar 2) (f2 gMul (fVar 0) (fVar 1))) (hNil)))
noncomputable def wz : FS :=
 retS (yq [1] 2 (fItL (fVar 0)) (gT [1,2]) (fYes) (wK))
noncomputable def yi : List D → Out Val := runD 2 wz
theorem zbr : ∀ ds v,ds.length = 2 → yi ds = .ok v → runD 2 wz ds = .ok v := fun _ _ _ h => h
@[reducible] noncomputable def zdj : FE :=
 f2 gMod (fVar 0) (f2 gPow (fC (.int 10)) (fC (.int 12)))
@[reducible] noncomputable def zdc : FS :=
 ifS (fTrB (f2 gNe (fVar 2) (fLst (hNil))))
 (setS 4 true (yq [] 1 (fItL (fSlS (fVar 0) (fSo (fC (.int 2))) (fSo (fC (.int 26))))) (gN 0) (fYes) (zdj)))
 (nxtS)
@[reducible] noncomputable def zdi : FE :=
 fTup (zw (fVar 0) (zw (fVar 1) (zw (fVar 2) (zw (f2 gSub (fC (.int 0)) (fVar 3)) (hNil)))))
@[reducible] noncomputable def ze0 : FS :=
 ifS (fOr (fTrB (f2 gNe (zI zH (zm (fVar 8) (zm (fVar 11) (zm (fVar 7) (fNil))))) (f1 ze2 (fVar 10)))) (fTrB (f2 gNe (zI zH (zm (fVar 7) (zm (fB zbE (zm (fVar 5) (fNil))) (zm (fVar 8) (fNil))))) (fVar 10))))
 (retS (fC (.bl false)))
 (nxtS)
@[reducible] noncomputable def zeZ : FS :=
 ifS (fTrB (f2 gNe (zI zH (zm (f2 gIx (fVar 14) (fC (.int 0))) (zm (fVar 13) (zm (f2 gIx (fVar 14) (fC (.int 1))) (fNil))))) (zI yi (zm (fVar 10) (zm (fVar 12) (fNil))))))
 (retS (fC (.bl false)))
 (nxtS)
@[reducible] noncomputable def zdh : FE :=
 fTup (zw (f2 gSub (fC (.int 0)) (fVar 0)) (zw (fVar 1) (zw (fVar 2) (zw (f2 gSub (fC (.int 0)) (fVar 3)) (hNil)))))
@[reducible] noncomputable def zbJ : FE :=
 fTup (zw (f2 gSub (fC (.int 0)) (fVar 0)) (zw (fVar 1) (hNil)))
noncomputable def zaU : FS :=
 seqS (setS 1 true (zI xS (zm (fVar 0) (zm (fC (.int 14)) (fNil)))))
 (seqS (setS 2 true (zI vH (zm (zI uQ (zm (fVar 1) (fNil))) (fNil))))
 (seqS (setS 3 true (f2 gMod (f2 gIx (fVar 1) (fC (.int 8))) (f2 gAdd (fB gLen (zm (fVar 2) (fNil))) (fC (.int 1)))))
 (seqS (setS 4 true (fLst (hNil)))
 (seqS (zdc)
 (seqS (asgS (gT [5,6]) (zI zdL (zm (fVar 2) (zm (fVar 3) (zm (fVar 4) (fNil))))))
 (seqS (setS 7 true (zI vW (zm (fVar 2) (zm (fVar 3) (zm (f2 gIx (fVar 1) (fC (.int 12))) (fNil))))))
 (seqS (setS 8 true (zI vW (zm (fVar 2) (zm (fVar 6) (zm (f2 gIx (fVar 1) (fC (.int 13))) (fNil))))))
 (seqS (setS 9 false (zI zH (zm (fVar 7) (zm (fB zbE (zm (fVar 5) (fNil))) (zm (fVar 8) (fNil))))))
 (seqS (setS 10 true (fB zbE (zm (fVar 9) (fNil))))
 (seqS (appS 9 (fVar 7))
 (seqS (setS 11 true (yq [] 4 (fRev (fVar 5)) (gT [0,1,2,3]) (fYes) (zdi)))
 (seqS (ze0)
 (seqS (setS 12 true (f2 gSub (f2 gMod (f2 gIx (fVar 1) (fC (.int 9))) (fC (.int 19))) (fC (.int 9))))
 (seqS (setS 13 true (zI yd (zm (fVar 5) (zm (fVar 12) (fNil)))))
 (seqS (setS 14 true (zI yi (zm (fLst (zw (fVar 7) (zw (fVar 8) (hNil)))) (zm (fVar 12) (fNil)))))
 (seqS (zeZ)
 (seqS (setS 13 true (yq [] 4 (fItL (fVar 5)) (gT [0,1,2,3]) (fYes) (zdh)))
 (retS (f2 gEq (zI zH (zm (fTup (zw (f2 gSub (fC (.int 0)) (f2 gIx (fVar 7) (fC (.int 0)))) (zw (f2 gIx (fVar 7) (fC (.int 1))) (hNil)))) (zm (fVar 13) (zm (fTup (zw (f2 gSub (fC (.int 0)) (f2 gIx (fVar 8) (fC (.int 0)))) (zw (f2 gIx (fVar 8) (fC (.int 1))) (hNil)))) (fNil))))) (yq [] 2 (fItL (fVar 10)) (gT [0,1]) (fYes) (zbJ)))))))))))))))))))))
end My
namespace My
open PySem PySem.Spec PyProof.Rows L2 DL
theorem zb5 {f : Ev → Out (List Val)} {env : Ev} {n : Int} (h : f env = .ok [.pers (.int n)]) (hn : -1000000 ≤ n ∧ n ≤ 1000000) : zaV f env = .ok (rngD 0 n.toNat) := by
 simp only [zaV,h,zi,List.map_cons,List.map_nil,Val.d]
 rw [if_pos hn]
theorem zO {g : D → D → Out Val} {fa fb : FE} {E : Ev} {x y : Val} (ha : fa E = .ok x) (hb : fb E = .ok y) : f2 g fa fb E = g x.d y.d := by
 rw [f2,ha,zi,hb,zi]
theorem zfF (i j : Int) : gAdd (.int i) (.int j) = .ok (.pers (.int (i + j))) := rfl
theorem wW {i j : Int} (h : 0 < j) : gMod (.int i) (.int j) = .ok (.pers (.int (i % j))) := by
 show (if decide (0 < j) = true then _ else _) = _
 rw [if_pos (decide_eq_true h)]
theorem zc7 {i j : Int} (h : cMul i j = true) : gMul (.int i) (.int j) = .ok (.pers (.int (i * j))) := by
 show (if cMul i j = true then _ else _) = _
 rw [if_pos h]
theorem zjv {i j : Int} (h1 : 0 < j) (h2 : j < 2 ^ 250) : gDiv (.int i) (.int j) = .ok (.pers (.int (i / j))) := by
 show (if cDiv i j = true then _ else _) = _
 rw [if_pos (zic h1 h2)]
theorem vp {ds : List D} {i : Int} {d : D} (h : atI ds i = some d) : gIx (.lst ds) (.int i) = .ok (.pers d) := by
 show (match atI ds i with | some d => Out.ok (Val.pers d) | none => .bad) = _
 rw [h]
theorem zji {ns : List Int} {i n : Int} (h : atI ns i = some n) : gIx (.scr ns) (.int i) = .ok (.pers (.int n)) := by
 show (match atI ns i with | some n => Out.ok (Val.pers (.int n)) | none => .bad) = _
 rw [h]
theorem wE {α : Type} {xs : List α} {k : Nat} (h : k < xs.length) : atI xs (k : Int) = some xs[k] := by
 rw [zjA _ _ (by lia),Int.toNat_natCast,List.getElem?_eq_getElem h]
theorem zja : ∃ M : Int,0 < M ∧ ∀ E : Ev,f2 gAdd (f2 gPow (fC (.int 10)) (fC (.int 60))) (fC (.int 7)) E = .ok (.pers (.int M)) := by
 refine ⟨10 ^ (60 : Int).toNat + 7,by decide,fun E => ?_⟩
 have h : gPow (.int 10) (.int 60) = .ok (.pers (.int (10 ^ (60 : Int).toNat))) := by
  show (if cPow 10 60 = true then Out.ok (Val.pers (.int (10 ^ (60 : Int).toNat))) else .bad) = _
  rw [if_pos (zfv 60 (by lia) (by lia))]
 rw [zO (x := .pers (.int (10 ^ (60 : Int).toNat))) (y := .pers (.int 7)) (by
  rw [zO (x := .pers (.int 10)) (y := .pers (.int 60)) rfl rfl]
  exact h) rfl]
 exact zfF _ _
theorem zjb {ns : List Int} (hl : ns.length ≤ 63) {E : Ev} (h : E[0]? = some (.pers (.scr ns))) : fB v8 (zm (fB gLen (zm (fVar 0) (fNil))) (zm (fC (.int 63)) (fNil))) E = .ok (.pers (.int ns.length)) := by
 have h1 : fB gLen (zm (fVar 0) (fNil)) E = .ok (.pers (.int ns.length)) := by
  simp only [fB,zm,fNil,fVar,h,zi]
  rfl
 rw [fB,zm,h1,zi]
 show Out.ok (Val.pers (.int (if (63 : Int) < (ns.length : Int) then 63 else ns.length))) = _
 rw [if_neg (by lia)]
theorem zbo {ns : List Int} (hl : ns.length ≤ 63) (k : Nat) (o s5 : Slot) : ∃ c : Int,vI [.pers (.scr ns),.pers (.int 14),o,.pers (.int k),.pers (.int 0),s5] = .ok (.next [.pers (.scr ns),.pers (.int 14),o,.pers (.int k),.pers (.int c),s5]) := by
 by_cases h0 : ns.length = 0
 ·have : ns = [] := List.eq_nil_of_length_eq_zero h0
  subst this
  exact ⟨0,rfl⟩
 ·have hp : 0 < ns.length := by lia
  obtain ⟨M,hM,e3⟩ := zja
  have hm := zjb hl (E := [.pers (.scr ns),.pers (.int 14),o,.pers (.int k),.pers (.int 0),s5]) rfl
  have hk : (k : Int) % (ns.length : Int) = ((k % ns.length : Nat) : Int) := (Int.natCast_emod k ns.length).symm
  have e1 : f2 gMod (fVar 3) (fB v8 (zm (fB gLen (zm (fVar 0) (fNil))) (zm (fC (.int 63)) (fNil)))) [.pers (.scr ns),.pers (.int 14),o,.pers (.int k),.pers (.int 0),s5] = .ok (.pers (.int ((k % ns.length : Nat) : Int))) := by
   rw [zO (x := .pers (.int k)) rfl hm]
   show gMod (.int k) (.int ns.length) = _
   rw [wW (by lia),hk]
  have e2 : f2 gIx (fVar 0) (f2 gMod (fVar 3) (fB v8 (zm (fB gLen (zm (fVar 0) (fNil))) (zm (fC (.int 63)) (fNil))))) [.pers (.scr ns),.pers (.int 14),o,.pers (.int k),.pers (.int 0),s5] = .ok (.pers (.int (ns[k % ns.length]'(Nat.mod_lt _ hp)))) := by
   rw [zO (x := .pers (.scr ns)) rfl e1]
   exact zji (wE (Nat.mod_lt _ hp))
  refine ⟨(ns[k % ns.length]'(Nat.mod_lt _ hp)) % M,?_⟩
  have c : fTrB (f2 gGt (fB gLen (zm (fVar 0) (fNil))) (fC (.int 0))) [.pers (.scr ns),.pers (.int 14),o,.pers (.int k),.pers (.int 0),s5] = .ok true := by
   show Out.ok (decide ((0 : Int) < (ns.length : Int))) = _
   rw [decide_eq_true (by lia)]
  rw [vI,ifS,c,zi,if_pos rfl,setS,zO e2 (e3 _)]
  show ((gMod (.int _) (.int M)).bind _) = _
  rw [wW hM]
  rfl
theorem zbp {ns : List Int} (hl : ns.length ≤ 63) (k : Nat) (hk : k < 64) (hs : List Int) (h14 : hs.length = 14) (s4 s5 : Slot) : ∃ (hs' : List Int) (t4 t5 : Slot),hs'.length = 14 ∧ wO [.pers (.scr ns),.pers (.int 14),.own (hs.map .int),.pers (.int k),s4,s5] = .ok (.next [.pers (.scr ns),.pers (.int 14),.own (hs'.map .int),.pers (.int k),t4,t5]) := by
 obtain ⟨c,hc⟩ := zbo hl k (.own (hs.map .int)) s5
 obtain ⟨M,hM,e3⟩ := zja
 have hm : (k : Int) % 14 = ((k % 14 : Nat) : Int) := by lia
 have hlt : k % 14 < hs.length := by lia
 have hat : atI (hs.map D.int) ((k % 14 : Nat) : Int) = some (.int hs[k % 14]) := by
  rw [wE (by rw [List.length_map]; exact hlt),List.getElem_map]
 generalize hv : hs[k % 14] = v at hat
 have m0 : f2 gIx (fVar 2) (fVar 5) [.pers (.scr ns),.pers (.int 14),.own (hs.map .int),.pers (.int k),.pers (.int c),.pers (.int ((k % 14 : Nat) : Int))] = .ok (.pers (.int v)) := by
  rw [zO (x := .brw 2 (hs.map .int)) (y := .pers (.int ((k % 14 : Nat) : Int))) rfl rfl]
  exact vp hat
 have m1 : f2 gMul (f2 gIx (fVar 2) (fVar 5)) (fC (.int 48271)) [.pers (.scr ns),.pers (.int 14),.own (hs.map .int),.pers (.int k),.pers (.int c),.pers (.int ((k % 14 : Nat) : Int))] = .ok (.pers (.int (v * 48271))) := by
  rw [zO m0 (y := .pers (.int 48271)) rfl]
  exact zc7 (zdp (by lia) (by lia))
 have m2 : f2 gMul (fVar 3) (fVar 3) [.pers (.scr ns),.pers (.int 14),.own (hs.map .int),.pers (.int k),.pers (.int c),.pers (.int ((k % 14 : Nat) : Int))] = .ok (.pers (.int ((k : Int) * k))) := by
  rw [zO (x := .pers (.int k)) (y := .pers (.int k)) rfl rfl]
  exact zc7 (zdp (by lia) (by lia))
 have m3 : f2 gAdd (f2 gAdd (f2 gMul (f2 gIx (fVar 2) (fVar 5)) (fC (.int 48271))) (fVar 4)) (f2 gMul (fVar 3) (fVar 3)) [.pers (.scr ns),.pers (.int 14),.own (hs.map .int),.pers (.int k),.pers (.int c),.pers (.int ((k % 14 : Nat) : Int))] = .ok (.pers (.int (v * 48271 + c + (k : Int) * k))) := by
  rw [zO (x := .pers (.int (v * 48271 + c))) (by
   rw [zO m1 (y := .pers (.int c)) rfl]
   exact zfF _ _) m2]
  exact zfF _ _
 refine ⟨hs.set (k % 14) ((v * 48271 + c + (k : Int) * k) % M),.pers (.int c),.pers (.int ((k % 14 : Nat) : Int)),by rw [List.length_set]; exact h14,?_⟩
 rw [wO,zk (env' := [.pers (.scr ns),.pers (.int 14),.own (hs.map .int),.pers (.int k),.pers (.int 0),s5]) rfl,zk hc]
 rw [zk (env' := [.pers (.scr ns),.pers (.int 14),.own (hs.map .int),.pers (.int k),.pers (.int c),.pers (.int ((k % 14 : Nat) : Int))]) (by
  rw [setS,zO (x := .pers (.int k)) (y := .pers (.int 14)) rfl rfl]
  show ((gMod (.int k) (.int 14)).bind _) = _
  rw [wW (by lia),hm]
  rfl)]
 have hix : ixN (hs.map D.int).length ((k % 14 : Nat) : Int) = some (k % 14) := by
  unfold ixN
  rw [if_pos (by lia),if_pos (by rw [List.length_map]; lia),Int.toNat_natCast]
 have hput : ∀ (f : FE) (x : Int),f [.pers (.scr ns),.pers (.int 14),.own (hs.map .int),.pers (.int k),.pers (.int c),.pers (.int ((k % 14 : Nat) : Int))] = .ok (.pers (.int x)) → putS 2 (fVar 5) f [.pers (.scr ns),.pers (.int 14),.own (hs.map .int),.pers (.int k),.pers (.int c),.pers (.int ((k % 14 : Nat) : Int))] = .ok (.next [.pers (.scr ns),.pers (.int 14),.own ((hs.set (k % 14) x).map .int),.pers (.int k),.pers (.int c),.pers (.int ((k % 14 : Nat) : Int))]) := by
  intro f x hx
  show ((f [.pers (.scr ns),.pers (.int 14),.own (hs.map .int),.pers (.int k),.pers (.int c),.pers (.int ((k % 14 : Nat) : Int))]).bind _) = _
  rw [hx,zi]
  show (match ixN (hs.map D.int).length ((k % 14 : Nat) : Int) with | some j => Out.ok (Res.next [.pers (.scr ns),.pers (.int 14),.own ((hs.map D.int).set j (.int x)),.pers (.int k),.pers (.int c),.pers (.int ((k % 14 : Nat) : Int))]) | none => .bad) = _
  rw [hix,List.map_set]
 refine hput _ _ ?_
 rw [zO m3 (e3 _)]
 exact wW hM
theorem zdJ {ns : List Int} (hl : ns.length ≤ 63) : ∃ hs : List Int,hs.length = 14 ∧ xS [.scr ns,.int 14] = .ok (.fresh (hs.map .int)) := by
 have hz : compD (gN 0) fYes vK (rngD 0 14) [.un] = .ok ((List.replicate 14 (0 : Int)).map .int) := rfl
 have hm := zjb hl (E := [.pers (.scr ns),.pers (.int 14),.own ((List.replicate 14 (0 : Int)).map .int),.un,.un,.un]) rfl
 obtain ⟨N,hN,e4⟩ : ∃ N : Nat,N ≤ 64 ∧ zaV (zm (fB ze3 (zm (fVar 1) (zm (fB v8 (zm (fB gLen (zm (fVar 0) (fNil))) (zm (fC (.int 63)) (fNil)))) (fNil)))) (fNil)) [.pers (.scr ns),.pers (.int 14),.own ((List.replicate 14 (0 : Int)).map .int),.un,.un,.un] = .ok (rngD 0 N) := by
  refine ⟨(if (ns.length : Int) > 14 then (ns.length : Int) else 14).toNat,by split <;> lia,?_⟩
  refine zb5 ?_ (by split <;> lia)
  have : fB ze3 (zm (fVar 1) (zm (fB v8 (zm (fB gLen (zm (fVar 0) (fNil))) (zm (fC (.int 63)) (fNil)))) (fNil))) [.pers (.scr ns),.pers (.int 14),.own ((List.replicate 14 (0 : Int)).map .int),.un,.un,.un] = .ok (.pers (.int (if (ns.length : Int) > 14 then (ns.length : Int) else 14))) := by
   have e1 : fVar 1 [.pers (.scr ns),.pers (.int 14),.own ((List.replicate 14 (0 : Int)).map .int),.un,.un,.un] = .ok (.pers (.int 14)) := rfl
   rw [fB,zm,e1,zi,zm,hm,zi]
   rfl
  rw [zm,this,zi]
  rfl
 obtain ⟨env',ef,hs,s3,s4,s5,h14,rfl⟩ := ur (g := gN 3) (fb := wO) (fun _ env => ∃ (hs : List Int) (s3 s4 s5 : Slot),hs.length = 14 ∧ env = [.pers (.scr ns),.pers (.int 14),.own (hs.map .int),s3,s4,s5]) (rngD 0 N) 0 [.pers (.scr ns),.pers (.int 14),.own ((List.replicate 14 (0 : Int)).map .int),.un,.un,.un] ⟨_,_,_,_,rfl,rfl⟩ (by
  rintro j d env _ hd ⟨hs,s3,s4,s5,h14,rfl⟩
  obtain ⟨hj,rfl⟩ := zeq hd
  obtain ⟨hs',t4,t5,l',e⟩ := zbp hl j (by lia) hs h14 s4 s5
  refine ⟨[.pers (.scr ns),.pers (.int 14),.own (hs.map .int),.pers (.int j),s4,s5],_,?_,e,hs',_,t4,t5,l',rfl⟩
  rw [Nat.sub_zero,Int.zero_add]
  rfl)
 refine ⟨hs,h14,?_⟩
 unfold xS
 show ((wA [.pers (.scr ns),.pers (.int 14),.un,.un,.un,.un]).bind _) = _
 unfold wA
 rw [zk (env' := [.pers (.scr ns),.pers (.int 14),.own ((List.replicate 14 (0 : Int)).map .int),.un,.un,.un]) (by
  have hr : zaV (zm (fVar 1) (fNil)) [.pers (.scr ns),.pers (.int 14),.un,.un,.un,.un] = .ok (rngD 0 14) := zb5 (n := 14) rfl (by lia)
  rw [setS,yq,hr,zi,if_pos (by rw [zep]; lia)]
  show (((compD (gN 0) fYes vK (rngD 0 14) [.un]).bind _).bind _) = _
  rw [hz]
  rfl)]
 rw [zk (by
  rw [forS,e4,zi]
  exact ef)]
 rfl
noncomputable def PegR (p : Int × Int) : Prop := (∃ i : Int,p.1 = 2 * i ∧ 0 ≤ i ∧ i ≤ 3) ∧ 0 ≤ p.2 ∧ p.2 ≤ 12
theorem zeC {hs : List Int} (h14 : hs.length = 14) (w : Int) (k : Nat) (hk : k < 7) {ps : List (Int × Int)} (hp : ps.Nodup ∧ ps.length ≤ k ∧ ∀ p ∈ ps,PegR p) (s4 s5 : Slot) :
 ∃ (ps' : List (Int × Int)) (t4 t5 : Slot),(ps'.Nodup ∧ ps'.length ≤ k + 1 ∧ ∀ p ∈ ps',PegR p) ∧ za9 [.pers (.lst (hs.map .int)),.own (ps.map zd),.pers (.int w),.pers (.int k),s4,s5] = .ok (.next [.pers (.lst (hs.map .int)),.own (ps'.map zd),.pers (.int w),.pers (.int k),t4,t5]) := by
 have hat : atI (hs.map D.int) (2 + (k : Int)) = some (.int (hs[k + 2]'(by lia))) := by
  rw [show (2 : Int) + (k : Int) = ((k + 2 : Nat) : Int) by lia,wE (by rw [List.length_map]; lia),List.getElem_map]
 generalize (hs[k + 2]'(by lia)) = v at hat
 have x0 : f2 gIx (fVar 0) (f2 gAdd (fC (.int 2)) (fVar 3)) [.pers (.lst (hs.map .int)),.own (ps.map zd),.pers (.int w),.pers (.int k),s4,s5] = .ok (.pers (.int v)) := by
  rw [zO (x := .pers (.lst (hs.map .int))) (y := .pers (.int (2 + (k : Int)))) rfl rfl]
  exact vp hat
 have hq : ∀ (q : Int × Int),PegR q → zaR [.pers (.lst (hs.map .int)),.own (ps.map zd),.pers (.int w),.pers (.int k),.pers (.int v),.pers (zd q)] = .ok (.next [.pers (.lst (hs.map .int)),.own ((if q ∈ ps then ps else ps ++ [q]).map zd),.pers (.int w),.pers (.int k),.pers (.int v),.pers (zd q)]) := by
  intro q _
  have c : fTrB (f2 gNin (fVar 5) (fVar 1)) [.pers (.lst (hs.map .int)),.own (ps.map zd),.pers (.int w),.pers (.int k),.pers (.int v),.pers (zd q)] = .ok (!decide (q ∈ ps)) := by
   have : f2 gNin (fVar 5) (fVar 1) [.pers (.lst (hs.map .int)),.own (ps.map zd),.pers (.int w),.pers (.int k),.pers (.int v),.pers (zd q)] = .ok (.pers (.bl (!decide (q ∈ ps)))) := by
    rw [zO (x := .pers (zd q)) (y := .brw 1 (ps.map zd)) rfl rfl]
    show (if shal 4 (zd q) = true then Out.ok (Val.pers (.bl (!(ps.map zd).any fun z => eqD z (zd q)))) else .bad) = _
    rw [if_pos (uF 3 q),zds]
   rw [fTrB,this]
   rfl
  by_cases z : q ∈ ps
  ·rw [decide_eq_true z] at c
   rw [zaR,ifS,c,zi,if_neg (by decide),if_pos z]
   rfl
  ·rw [decide_eq_false z] at c
   rw [zaR,ifS,c,zi,if_pos (by decide),if_neg z]
   show (if (ps.map zd).length < 100000 then Out.ok (Res.next [.pers (.lst (hs.map .int)),.own (ps.map zd ++ [zd q]),.pers (.int w),.pers (.int k),.pers (.int v),.pers (zd q)]) else .bad) = _
   rw [if_pos (by rw [List.length_map]; lia),List.map_append]
   rfl
 have fin : ∀ q : Int × Int,PegR q → ((if q ∈ ps then ps else ps ++ [q]).Nodup ∧ (if q ∈ ps then ps else ps ++ [q]).length ≤ k + 1 ∧ ∀ p ∈ (if q ∈ ps then ps else ps ++ [q]),PegR p) := by
  intro q hq
  by_cases z : q ∈ ps
  ·rw [if_pos z]
   exact ⟨hp.1,by lia,hp.2.2⟩
  ·rw [if_neg z]
   refine ⟨?_,by simp; lia,fun p h => ?_⟩
   ·rw [List.nodup_append]
    refine ⟨hp.1,by simp,fun a ha b hb e => z ?_⟩
    rw [List.mem_singleton.mp hb] at e
    rw [← e]
    exact ha
   ·rcases List.mem_append.mp h with h | h
    ·exact hp.2.2 p h
    ·rw [List.mem_singleton.mp h]; exact hq
 have E5 : setS 5 true (fTup (zw (f2 gMul (fC (.int 2)) (f2 gMod (fVar 4) (fC (.int 4)))) (zw (f2 gMod (f2 gDiv (fVar 4) (fC (.int 4))) (fC (.int 9))) (hNil)))) [.pers (.lst (hs.map .int)),.own (ps.map zd),.pers (.int w),.pers (.int k),.pers (.int v),s5] = .ok (.next [.pers (.lst (hs.map .int)),.own (ps.map zd),.pers (.int w),.pers (.int k),.pers (.int v),.pers (zd (2 * (v % 4),v / 4 % 9))]) := rfl
 have r1 : PegR (2 * (v % 4),v / 4 % 9) := ⟨⟨v % 4,rfl,by lia,by lia⟩,by show 0 ≤ v / 4 % 9; lia,by show v / 4 % 9 ≤ 12; lia⟩
 have step1 : ∃ q1,PegR q1 ∧ zcd [.pers (.lst (hs.map .int)),.own (ps.map zd),.pers (.int w),.pers (.int k),.pers (.int v),.pers (zd (2 * (v % 4),v / 4 % 9))] = .ok (.next [.pers (.lst (hs.map .int)),.own (ps.map zd),.pers (.int w),.pers (.int k),.pers (.int v),.pers (zd q1)]) := by
  by_cases z : w = 1
  ·subst z
   exact ⟨(4,v % 13),⟨⟨2,rfl,by lia,by lia⟩,by show 0 ≤ v % 13; lia,by show v % 13 ≤ 12; lia⟩,rfl⟩
  ·refine ⟨_,r1,?_⟩
   have c : fTrB (f2 gEq (fVar 2) (fC (.int 1))) [.pers (.lst (hs.map .int)),.own (ps.map zd),.pers (.int w),.pers (.int k),.pers (.int v),.pers (zd (2 * (v % 4),v / 4 % 9))] = .ok false := by
    show Out.ok (w == 1) = _
    rw [beq_eq_false_iff_ne.mpr z]
   rw [zcd,ifS,c,zi,if_neg (by decide)]
   rfl
 obtain ⟨q1,r2,st1⟩ := step1
 have step2 : ∃ q2,PegR q2 ∧ zcb [.pers (.lst (hs.map .int)),.own (ps.map zd),.pers (.int w),.pers (.int k),.pers (.int v),.pers (zd q1)] = .ok (.next [.pers (.lst (hs.map .int)),.own (ps.map zd),.pers (.int w),.pers (.int k),.pers (.int v),.pers (zd q2)]) := by
  by_cases z : w = 2
  ·subst z
   exact ⟨(2 * (v % 3),2 * (v / 3 % 4)),⟨⟨v % 3,rfl,by lia,by lia⟩,by show 0 ≤ 2 * (v / 3 % 4); lia,by show 2 * (v / 3 % 4) ≤ 12; lia⟩,rfl⟩
  ·refine ⟨_,r2,?_⟩
   have c : fTrB (f2 gEq (fVar 2) (fC (.int 2))) [.pers (.lst (hs.map .int)),.own (ps.map zd),.pers (.int w),.pers (.int k),.pers (.int v),.pers (zd q1)] = .ok false := by
    show Out.ok (w == 2) = _
    rw [beq_eq_false_iff_ne.mpr z]
   rw [zcb,ifS,c,zi,if_neg (by decide)]
   rfl
 obtain ⟨q2,r3,st2⟩ := step2
 refine ⟨_,.pers (.int v),.pers (zd q2),fin q2 r3,?_⟩
 rw [za9,zk (env' := [.pers (.lst (hs.map .int)),.own (ps.map zd),.pers (.int w),.pers (.int k),.pers (.int v),s5]) (by
  rw [setS,x0]
  rfl),zk E5,zk st1,zk st2]
 exact hq q2 r3
theorem zhE {hs : List Int} (h14 : hs.length = 14) : ∃ ps : List (Int × Int),(ps.Nodup ∧ ps.length ≤ 6 ∧ ∀ p ∈ ps,PegR p) ∧ uQ [.lst (hs.map .int)] = .ok (.fresh (ps.map zd)) := by
 have a0 : atI (hs.map D.int) 0 = some (.int (hs[0]'(by lia))) := by
  have := wE (xs := hs.map D.int) (k := 0) (by rw [List.length_map]; lia)
  rw [List.getElem_map] at this
  exact this
 have a1 : atI (hs.map D.int) 1 = some (.int (hs[1]'(by lia))) := by
  have := wE (xs := hs.map D.int) (k := 1) (by rw [List.length_map]; lia)
  rw [List.getElem_map] at this
  exact this
 generalize (hs[0]'(by lia)) = u at a0
 generalize (hs[1]'(by lia)) = w at a1
 have er : zaV (zm (f2 gMod (f2 gIx (fVar 0) (fC (.int 0))) (fC (.int 7))) (fNil)) [.pers (.lst (hs.map .int)),.own [],.pers (.int (w % 4)),.un,.un,.un] = .ok (rngD 0 (u % 7).toNat) := by
  refine zb5 ?_ (by lia)
  have : f2 gMod (f2 gIx (fVar 0) (fC (.int 0))) (fC (.int 7)) [.pers (.lst (hs.map .int)),.own [],.pers (.int (w % 4)),.un,.un,.un] = .ok (.pers (.int (u % 7))) := by
   rw [zO (x := .pers (.int u)) (y := .pers (.int 7)) (by
    rw [zO (x := .pers (.lst (hs.map .int))) (y := .pers (.int 0)) rfl rfl]
    exact vp a0) rfl]
   exact wW (by lia)
  rw [zm,this,zi]
  rfl
 have hN : (u % 7).toNat ≤ 6 := by lia
 generalize (u % 7).toNat = N at er hN
 obtain ⟨env',ef,ps,s3,s4,s5,hp,rfl⟩ := ur (g := gN 3) (fb := za9) (fun j env => ∃ (ps : List (Int × Int)) (s3 s4 s5 : Slot),(ps.Nodup ∧ ps.length ≤ j ∧ ∀ p ∈ ps,PegR p) ∧ env = [.pers (.lst (hs.map .int)),.own (ps.map zd),.pers (.int (w % 4)),s3,s4,s5]) (rngD 0 N) 0 [.pers (.lst (hs.map .int)),.own [],.pers (.int (w % 4)),.un,.un,.un] ⟨[],_,_,_,by simp,rfl⟩ (by
  rintro j d env _ hd ⟨ps,s3,s4,s5,hp,rfl⟩
  obtain ⟨hj,rfl⟩ := zeq hd
  obtain ⟨ps',t4,t5,l',e⟩ := zeC h14 (w % 4) j (by lia) hp s4 s5
  refine ⟨[.pers (.lst (hs.map .int)),.own (ps.map zd),.pers (.int (w % 4)),.pers (.int j),s4,s5],_,?_,e,ps',_,t4,t5,l',rfl⟩
  rw [Nat.sub_zero,Int.zero_add]
  rfl)
 refine ⟨ps,⟨hp.1,by have := hp.2.1; rw [zep] at this; lia,hp.2.2⟩,?_⟩
 unfold uQ
 show ((zbH [.pers (.lst (hs.map .int)),.un,.un,.un,.un,.un]).bind _) = _
 unfold zbH
 rw [zk (env' := [.pers (.lst (hs.map .int)),.own [],.un,.un,.un,.un]) rfl]
 rw [zk (env' := [.pers (.lst (hs.map .int)),.own [],.pers (.int (w % 4)),.un,.un,.un]) (by
  rw [setS,zO (x := .pers (.int w)) (y := .pers (.int 4)) (by
   rw [zO (x := .pers (.lst (hs.map .int))) (y := .pers (.int 1)) rfl rfl]
   exact vp a1) rfl]
  show ((gMod (.int w) (.int 4)).bind _) = _
  rw [wW (by lia)]
  rfl)]
 rw [zk (by
  rw [forS,er,zi]
  exact ef)]
 rfl
theorem zjx {ps : List (Int × Int)} : compD (gN 0) fYes vw (ps.map zd) [.un] = .ok ((ps.map (·.1)).map .int) := by
 rw [yR (fun env => ∃ s0,env = [s0]) zd (fun p => some (.int p.1)) ps [.un] ⟨_,rfl⟩ (fun p env _ ⟨s0,he⟩ => by
  subst he
  exact ⟨[.pers (zd p)],rfl,⟨_,rfl⟩,.inr ⟨_,.pers (.int p.1),rfl,rfl,rfl,rfl⟩⟩),List.filterMap_eq_map',List.map_map]
 rfl
theorem zjn (x : Int) (ps : List (Int × Int)) : compD (gN 1) xF x6 (ps.map zd) [.pers (.int x),.un] = .ok (((ps.filter fun p => p.1 == x).map (·.2)).map .int) := by
 rw [yR (fun env => ∃ s1,env = [.pers (.int x),s1]) zd (fun p => if (p.1 == x) = true then some (.int p.2) else none) ps [.pers (.int x),.un] ⟨_,rfl⟩ (fun p env _ ⟨s1,he⟩ => by
  subst he
  refine ⟨[.pers (.int x),.pers (zd p)],rfl,⟨_,rfl⟩,?_⟩
  have c : xF [.pers (.int x),.pers (zd p)] = .ok (p.1 == x) := rfl
  cases q : p.1 == x with
  | true => exact .inr ⟨.int p.2,.pers (.int p.2),rfl,by rw [c,q],rfl,rfl⟩
  | false => exact .inl ⟨rfl,by rw [c,q]⟩),wy (fun p : Int × Int => p.1 == x) (fun p => D.int p.2),List.map_map]
 rfl
theorem zbv {ps : List (Int × Int)} (hl : ps.length < 18) : ∀ (xs : List Int) (acc : List (Int × List Int)) (s2 : Slot),acc.length + xs.length ≤ 1000 → ∃ s2',forD (gN 2) zba (xs.map .int) [.pers (.lst (ps.map zd)),.own (acc.map zv),s2] = .ok (.next [.pers (.lst (ps.map zd)),.own ((acc ++ xs.map fun x => (x,ym ((ps.filter fun p => p.1 == x).map (·.2)))).map zv),s2'])
 | [],acc,s2,_ => ⟨s2,by rw [List.map_nil,List.map_nil,List.append_nil]; rfl⟩
 | x :: xs,acc,s2,h => by
   simp only [List.length_cons] at h
   obtain ⟨s2',e⟩ := zbv hl xs (acc ++ [(x,ym ((ps.filter fun p => p.1 == x).map (·.2)))]) (.pers (.int x)) (by simp; lia)
   refine ⟨s2',?_⟩
   have hz : ((ps.filter fun p => p.1 == x).map (·.2)).length < 64 := by
    rw [List.length_map]
    have := List.length_filter_le (fun p : Int × Int => p.1 == x) ps
    lia
   have hc : yq [2] 1 (fItL (fVar 0)) (gN 1) (xF) (x6) [.pers (.lst (ps.map zd)),.own (acc.map zv),.pers (.int x)] = .ok (.fresh (((ps.filter fun p => p.1 == x).map (·.2)).map .int)) := by
    have hi : fItL (fVar 0) [.pers (.lst (ps.map zd)),.own (acc.map zv),.pers (.int x)] = .ok (ps.map zd) := rfl
    rw [yq,hi,zi,if_pos (by rw [List.length_map]; lia)]
    show ((compD (gN 1) xF x6 (ps.map zd) [.pers (.int x),.un]).bind _) = _
    rw [zjn]
    rfl
   have hs : fB vJ (zm (yq [2] 1 (fItL (fVar 0)) (gN 1) (xF) (x6)) (fNil)) [.pers (.lst (ps.map zd)),.own (acc.map zv),.pers (.int x)] = .ok (.fresh ((ym ((ps.filter fun p => p.1 == x).map (·.2))).map .int)) := by
    rw [fB,zm,hc,zi]
    show (match w4 (((ps.filter fun p => p.1 == x).map (·.2)).map D.int) with | some ns => if ns.length < 64 then Out.ok (Val.fresh ((ym ns).map .int)) else .bad | none => .bad) = _
    rw [vQ]
    show (if _ then _ else _) = _
    rw [if_pos hz]
   have hb : zba [.pers (.lst (ps.map zd)),.own (acc.map zv),.pers (.int x)] = .ok (.next [.pers (.lst (ps.map zd)),.own ((acc ++ [(x,ym ((ps.filter fun p => p.1 == x).map (·.2)))]).map zv),.pers (.int x)]) := by
    have ht : fTup (zw (fVar 2) (zw (fB vJ (zm (yq [2] 1 (fItL (fVar 0)) (gN 1) (xF) (x6)) (fNil))) (hNil))) [.pers (.lst (ps.map zd)),.own (acc.map zv),.pers (.int x)] = .ok (.pers (zv (x,ym ((ps.filter fun p => p.1 == x).map (·.2))))) := by
     have e2 : fVar 2 [.pers (.lst (ps.map zd)),.own (acc.map zv),.pers (.int x)] = .ok (.pers (.int x)) := rfl
     simp only [fTup,zw,hNil,e2,hs,zi]
     rfl
    show (if (acc.map zv).length < 100000 then ((fTup (zw (fVar 2) (zw (fB vJ (zm (yq [2] 1 (fItL (fVar 0)) (gN 1) (xF) (x6)) (fNil))) (hNil))) [.pers (.lst (ps.map zd)),.own (acc.map zv),.pers (.int x)]).bind _) else .bad) = _
    rw [if_pos (by rw [List.length_map]; lia),ht,List.map_append]
    rfl
   have hg : gN 2 (.int x) [.pers (.lst (ps.map zd)),.own (acc.map zv),s2] = .ok [.pers (.lst (ps.map zd)),.own (acc.map zv),.pers (.int x)] := rfl
   rw [List.map_cons,forD,hg,zi,hb,zi]
   simp only [List.append_assoc,List.singleton_append] at e
   exact e
theorem zgn {ps : List (Int × Int)} (hl : ps.length < 18) : vH [.lst (ps.map zd)] = .ok (.fresh ((wD ps).map zv)) := by
 have hb := zfw ps
 unfold wD at hb
 rw [List.length_map] at hb
 obtain ⟨s2,e⟩ := zbv hl (ym (ps.map (·.1)).eraseDups) [] .un (by simp; lia)
 unfold vH
 show ((u9 [.pers (.lst (ps.map zd)),.un,.un]).bind _) = _
 unfold u9
 rw [zk (env' := [.pers (.lst (ps.map zd)),.own [],.un]) rfl]
 have hi : fItL (f1 wJ (yq [] 1 (fItL (fVar 0)) (gN 0) (fYes) (vw))) [.pers (.lst (ps.map zd)),.own [],.un] = .ok ((ym (ps.map (·.1)).eraseDups).map .int) := by
  have hc : yq [] 1 (fItL (fVar 0)) (gN 0) (fYes) (vw) [.pers (.lst (ps.map zd)),.own [],.un] = .ok (.fresh ((ps.map (·.1)).map .int)) := by
   have h0 : fItL (fVar 0) [.pers (.lst (ps.map zd)),.own [],.un] = .ok (ps.map zd) := rfl
   rw [yq,h0,zi,if_pos (by rw [List.length_map]; lia)]
   show ((compD (gN 0) fYes vw (ps.map zd) [.un]).bind _) = _
   rw [zjx]
   rfl
  rw [fItL,f1,hc,zi]
  have hss : wJ (.lst ((ps.map (·.1)).map .int)) = .ok (.fresh ((ym (ps.map (·.1)).eraseDups).map .int)) := by
   show (match w4 ((ps.map (·.1)).map D.int) with | some ns => if ns.length < 18 then Out.ok (Val.fresh ((ym ns.eraseDups).map .int)) else .bad | none => .bad) = _
   rw [vQ]
   show (if _ then _ else _) = _
   rw [if_pos (by rw [List.length_map]; exact hl)]
  show ((wJ (.lst ((ps.map (·.1)).map .int))).bind _) = _
  rw [hss]
  rfl
 rw [zk (by
  rw [forS,hi,zi]
  exact e)]
 rfl
theorem zgH {ps : List (Int × Int)} (hn : ps.Nodup) : BoardOk (wD ps) := by
 refine ⟨?_,fun l hl => ?_⟩
 ·have hnd : (ym (ps.map (·.1)).eraseDups).Nodup := (zU _).nodup_iff.mpr (xu _ _ (Nat.le_refl _))
  have hso := yl (ps.map (·.1)).eraseDups
  have hlt : (ym (ps.map (·.1)).eraseDups).Pairwise (· < ·) := by
   have := hso.and hnd
   exact this.imp fun ⟨h1,h2⟩ => by lia
  unfold wD
  rw [List.pairwise_map]
  exact hlt
 ·unfold wD at hl
  obtain ⟨x,_,rfl⟩ := List.mem_map.mp hl
  have nd : ((ps.filter fun p => p.1 == x).map (·.2)).Nodup := by
   rw [List.Nodup,List.pairwise_map]
   refine List.Pairwise.imp_of_mem ?_ (hn.filter fun p => p.1 == x)
   intro a b ha hb h e
   have h1 : a.1 = x := by simpa using (List.mem_filter.mp ha).2
   have h2 : b.1 = x := by simpa using (List.mem_filter.mp hb).2
   exact h (Prod.ext (h1.trans h2.symm) e)
  have hnd : (ym ((ps.filter fun p => p.1 == x).map (·.2))).Nodup := (zU _).nodup_iff.mpr nd
  exact ((yl _).and hnd).imp fun ⟨h1,h2⟩ => by lia
theorem zgI {ps : List (Int × Int)} {l : Int × List Int} (h : l ∈ wD ps) : (∃ p ∈ ps,p.1 = l.1) ∧ ∀ y ∈ l.2,(l.1,y) ∈ ps := by
 unfold wD at h
 obtain ⟨x,hx,rfl⟩ := List.mem_map.mp h
 refine ⟨?_,fun y hy => ?_⟩
 ·obtain ⟨p,hp,e⟩ := List.mem_map.mp (List.mem_eraseDups.mp ((zU _).mem_iff.mp hx))
  exact ⟨p,hp,e⟩
 ·obtain ⟨p,hp,rfl⟩ := List.mem_map.mp ((zU _).mem_iff.mp hy)
  obtain ⟨h1,h2⟩ := List.mem_filter.mp hp
  have : p.1 = x := by simpa using h2
  rw [← this]
  exact h1
theorem zhZ (l : Int × List Int) (n w : Int) : ∃ g : Gate,tM l g ∧ g.w = w ∧ zag [zv l,.int n,.int w] = .ok (.pers (zh g)) := by
 obtain ⟨k,hk,ek⟩ : ∃ k : Nat,k ≤ l.2.length ∧ n % ((l.2.length : Int) + 1) = k := by
  have h1 := Int.emod_nonneg n (b := (l.2.length : Int) + 1) (by lia)
  have h2 := Int.emod_lt_of_pos n (b := (l.2.length : Int) + 1) (by lia)
  exact ⟨(n % ((l.2.length : Int) + 1)).toNat,by lia,by lia⟩
 refine ⟨⟨l.1,if k = 0 then none else l.2[k - 1]?,l.2[k]?,w⟩,⟨rfl,k,hk,rfl,rfl⟩,rfl,?_⟩
 have i1 : zce [.pers (zv l),.pers (.int n),.pers (.int w),.pers (.int l.1),.pers (.lst (l.2.map .int)),.pers (.int k),.pers .non,.pers .non] = .ok (.next [.pers (zv l),.pers (.int n),.pers (.int w),.pers (.int l.1),.pers (.lst (l.2.map .int)),.pers (.int k),.pers (optD (if k = 0 then none else l.2[k - 1]?)),.pers .non]) := by
  cases k with
  | zero => rfl
  | succ j =>
    have c : fTrB (f2 gGt (fVar 5) (fC (.int 0))) [.pers (zv l),.pers (.int n),.pers (.int w),.pers (.int l.1),.pers (.lst (l.2.map .int)),.pers (.int ((j + 1 : Nat) : Int)),.pers .non,.pers .non] = .ok true := by
     show Out.ok (decide ((0 : Int) < ((j + 1 : Nat) : Int))) = _
     rw [decide_eq_true (by lia)]
    have hlt : j < l.2.length := by lia
    have hx : f2 gIx (fVar 4) (f2 gSub (fVar 5) (fC (.int 1))) [.pers (zv l),.pers (.int n),.pers (.int w),.pers (.int l.1),.pers (.lst (l.2.map .int)),.pers (.int ((j + 1 : Nat) : Int)),.pers .non,.pers .non] = .ok (.pers (.int l.2[j])) := by
     rw [zO (x := .pers (.lst (l.2.map .int))) (y := .pers (.int (((j + 1 : Nat) : Int) - 1))) rfl rfl]
     refine vp ?_
     rw [show ((j + 1 : Nat) : Int) - 1 = ((j : Nat) : Int) by lia,wE (by rw [List.length_map]; exact hlt),List.getElem_map]
    have e0 : l.2[j + 1 - 1]? = some l.2[j] := List.getElem?_eq_getElem hlt
    rw [zce,ifS,c,zi,if_pos rfl,setS,hx,if_neg (by lia),e0]
    rfl
 have i2 : ∀ lo : D,zaS [.pers (zv l),.pers (.int n),.pers (.int w),.pers (.int l.1),.pers (.lst (l.2.map .int)),.pers (.int k),.pers lo,.pers .non] = .ok (.next [.pers (zv l),.pers (.int n),.pers (.int w),.pers (.int l.1),.pers (.lst (l.2.map .int)),.pers (.int k),.pers lo,.pers (optD l.2[k]?)]) := by
  intro lo
  have c : fTrB (f2 gLt (fVar 5) (fB gLen (zm (fVar 4) (fNil)))) [.pers (zv l),.pers (.int n),.pers (.int w),.pers (.int l.1),.pers (.lst (l.2.map .int)),.pers (.int k),.pers lo,.pers .non] = .ok (decide (k < l.2.length)) := by
   show Out.ok (decide ((k : Int) < ((l.2.map D.int).length : Int))) = _
   rw [List.length_map]
   congr 1
   exact decide_eq_decide.mpr (by lia)
  by_cases z : k < l.2.length
  ·rw [decide_eq_true z] at c
   have hx : f2 gIx (fVar 4) (fVar 5) [.pers (zv l),.pers (.int n),.pers (.int w),.pers (.int l.1),.pers (.lst (l.2.map .int)),.pers (.int k),.pers lo,.pers .non] = .ok (.pers (.int l.2[k])) := by
    rw [zO (x := .pers (.lst (l.2.map .int))) (y := .pers (.int k)) rfl rfl]
    refine vp ?_
    rw [wE (by rw [List.length_map]; exact z),List.getElem_map]
   rw [zaS,ifS,c,zi,if_pos rfl,setS,hx,List.getElem?_eq_getElem z]
   rfl
  ·rw [decide_eq_false z] at c
   rw [zaS,ifS,c,zi,if_neg (by decide),List.getElem?_eq_none (by lia)]
   rfl
 unfold zag
 show ((zbI [.pers (zv l),.pers (.int n),.pers (.int w),.un,.un,.un,.un,.un]).bind _) = _
 unfold zbI
 rw [zk (env' := [.pers (zv l),.pers (.int n),.pers (.int w),.pers (.int l.1),.pers (.lst (l.2.map .int)),.un,.un,.un]) rfl]
 rw [zk (env' := [.pers (zv l),.pers (.int n),.pers (.int w),.pers (.int l.1),.pers (.lst (l.2.map .int)),.pers (.int k),.un,.un]) (by
  have hlen : f2 gAdd (fB gLen (zm (fVar 4) (fNil))) (fC (.int 1)) [.pers (zv l),.pers (.int n),.pers (.int w),.pers (.int l.1),.pers (.lst (l.2.map .int)),.un,.un,.un] = .ok (.pers (.int ((l.2.length : Int) + 1))) := by
   show Out.ok (Val.pers (.int (((l.2.map D.int).length : Int) + 1))) = _
   rw [List.length_map]
  rw [setS,zO (x := .pers (.int n)) rfl hlen]
  show ((gMod (.int n) (.int ((l.2.length : Int) + 1))).bind _) = _
  rw [wW (by lia),ek]
  rfl)]
 rw [zk (env' := [.pers (zv l),.pers (.int n),.pers (.int w),.pers (.int l.1),.pers (.lst (l.2.map .int)),.pers (.int k),.pers .non,.un]) rfl]
 rw [zk (env' := [.pers (zv l),.pers (.int n),.pers (.int w),.pers (.int l.1),.pers (.lst (l.2.map .int)),.pers (.int k),.pers .non,.pers .non]) rfl]
 rw [zk i1,zk (i2 _)]
 rfl
theorem zgA (g : Gate) (w : Int) {X Y : FE} {E : Ev} (hX : X E = .ok (.pers (zh g))) (hY : Y E = .ok (.pers (.int w))) : f2 zcf (fSl X (fNo) (fSo (fC (.int 3)))) (fTup (zw Y (hNil))) E = .ok (.pers (zh ⟨g.x,g.lo,g.hi,w⟩)) := by
 have h1 : fSl X (fNo) (fSo (fC (.int 3))) E = .ok (.pers (.tup [.int g.x,optD g.lo,optD g.hi])) := by
  rw [fSl,hX,zi]
  show (if HT.sIx 4 0 none = 0 ∧ HT.sIx 4 4 (some 3) = 4 then Out.bad else Out.ok (Val.pers (.tup (cutD [.int g.x,optD g.lo,optD g.hi,.int g.w] none (some 3))))) = _
  rw [if_neg sIx43,cut3]
 have h2 : fTup (zw Y (hNil)) E = .ok (.pers (.tup [.int w])) := by
  simp only [fTup,zw,hNil,hY,zi]
  rfl
 rw [zO h1 h2]
 rfl
noncomputable def RV (B : List (Int × List Int)) (st : Int) (cs : D) (gs : List Gate) (a : Int) (s5 s6 s7 : Slot) : Ev := [.pers (.lst (B.map zv)),.pers (.int st),.pers cs,.own (gs.map zh),.pers (.int a),s5,s6,s7]
theorem zhq {B : List (Int × List Int)} {st : Int} {cs : D} {gs : List Gate} {a c : Int} {s7 : Slot} (hB : 0 < B.length) (h0 : 0 ≤ a) (h1 : a ≤ B.length) : ∃ w : Int,((w = 1 ∧ a < B.length) ∨ (w = -1 ∧ 0 < a)) ∧ zdd (RV B st cs gs a (.pers (.int c)) (.pers (.int 1)) s7) = .ok (.next (RV B st cs gs a (.pers (.int c)) (.pers (.int w)) s7)) := by
 have t1 : fTrB (f2 gEq (fVar 4) (fB gLen (zm (fVar 0) (fNil)))) (RV B st cs gs a (.pers (.int c)) (.pers (.int 1)) s7) = .ok (a == (B.length : Int)) := by
  show Out.ok (a == ((B.map zv).length : Int)) = _
  rw [List.length_map]
 have t2 : fTrB (f2 gGt (fVar 4) (fC (.int 0))) (RV B st cs gs a (.pers (.int c)) (.pers (.int 1)) s7) = .ok (decide (0 < a)) := rfl
 have t3 : fTrB (f2 gEq (f2 gMod (fVar 5) (fC (.int 2))) (fC (.int 1))) (RV B st cs gs a (.pers (.int c)) (.pers (.int 1)) s7) = .ok (c % 2 == 1) := rfl
 have yes : ∀ b : Bool,fOr (fTrB (f2 gEq (fVar 4) (fB gLen (zm (fVar 0) (fNil))))) (fAnd (fTrB (f2 gGt (fVar 4) (fC (.int 0)))) (fTrB (f2 gEq (f2 gMod (fVar 5) (fC (.int 2))) (fC (.int 1))))) (RV B st cs gs a (.pers (.int c)) (.pers (.int 1)) s7) = .ok b → zdd (RV B st cs gs a (.pers (.int c)) (.pers (.int 1)) s7) = .ok (.next (RV B st cs gs a (.pers (.int c)) (.pers (.int (if b = true then -1 else 1))) s7)) := by
  intro b h
  rw [zdd,ifS,h,zi]
  cases b <;> rfl
 by_cases z : a = B.length
 ·refine ⟨-1,.inr ⟨rfl,by lia⟩,yes true ?_⟩
  have z' : (a == (B.length : Int)) = true := beq_iff_eq.mpr z
  rw [z'] at t1
  simp only [fOr,t1,zi]
  rfl
 ·have z' : (a == (B.length : Int)) = false := beq_eq_false_iff_ne.mpr z
  rw [z'] at t1
  by_cases p : 0 < a
  ·rw [decide_eq_true p] at t2
   have := yes (c % 2 == 1) (by
    simp only [fOr,fAnd,t1,t2,t3,zi]
    rfl)
   cases q : c % 2 == 1 with
   | true => rw [q] at this; exact ⟨-1,.inr ⟨rfl,p⟩,this⟩
   | false => rw [q] at this; exact ⟨1,.inl ⟨rfl,by lia⟩,this⟩
  ·rw [decide_eq_false p] at t2
   refine ⟨1,.inl ⟨rfl,by lia⟩,yes false ?_⟩
   simp only [fOr,fAnd,t1,t2,zi]
   rfl
theorem zbu (gs : List Gate) : gNe (.lst (gs.map zh)) (.lst []) = .ok (.pers (.bl (!decide (gs = [])))) := by
 show (if (shal 4 (.lst (gs.map zh)) || true) = true then Out.ok (Val.pers (.bl (!eqD (.lst (gs.map zh)) (.lst [])))) else .bad) = _
 rw [Bool.or_true,if_pos rfl,zaW]
 cases gs with
 | nil => rw [List.map_nil,vv]; rfl
 | cons g gs => rw [List.map_cons,zaY,decide_eq_false (by simp)]
theorem zhr {B : List (Int × List Int)} {st : Int} {cs : D} {gs : List Gate} {a w : Int} {s5 : Slot} {g : Gate} (hw : g.w = w) (hl : gs.length < 1000) : zbC (RV B st cs gs a s5 (.pers (.int w)) (.pers (zh g))) = .ok (.next (RV B st cs (zaE gs g) a s5 (.pers (.int w)) (.pers (zh g)))) := by
 have hap : appS 3 (fVar 7) (RV B st cs gs a s5 (.pers (.int w)) (.pers (zh g))) = .ok (.next (RV B st cs (gs ++ [g]) a s5 (.pers (.int w)) (.pers (zh g)))) := by
  show (if (gs.map zh).length < 100000 then Out.ok (Res.next [.pers (.lst (B.map zv)),.pers (.int st),.pers cs,.own (gs.map zh ++ [zh g]),.pers (.int a),s5,.pers (.int w),.pers (zh g)]) else .bad) = _
  rw [if_pos (by rw [List.length_map]; lia)]
  unfold RV
  rw [List.map_append]
  rfl
 have t1 : fTrB (f2 gNe (fVar 3) (fLst (hNil))) (RV B st cs gs a s5 (.pers (.int w)) (.pers (zh g))) = .ok (!decide (gs = [])) := by
  rw [fTrB,zO (x := .brw 3 (gs.map zh)) (y := .fresh []) rfl rfl]
  show ((gNe (.lst (gs.map zh)) (.lst [])).bind _) = _
  rw [zbu]
  rfl
 unfold zaE
 cases q : gs.getLast? with
 | none =>
   have : gs = [] := List.getLast?_eq_none_iff.mp q
   subst this
   rw [zbC,ifS,fAnd,t1]
   exact hap
 | some t =>
   have hne : gs ≠ [] := fun z => by subst z; cases q
   rw [decide_eq_false hne] at t1
   have hat : atI (gs.map zh) (-1) = some (zh t) := by
    rw [zbW,List.length_map,List.getElem?_map,← List.getLast?_eq_getElem?,q]
    rfl
   have e1 : f2 gIx (fVar 3) (f1 gNeg (fC (.int 1))) (RV B st cs gs a s5 (.pers (.int w)) (.pers (zh g))) = .ok (.pers (zh t)) := by
    rw [zO (x := .brw 3 (gs.map zh)) (y := .pers (.int (-1))) rfl rfl]
    exact vp hat
   have e2 := zgA g (0 - w) (X := fVar 7) (Y := f2 gSub (fC (.int 0)) (fVar 6)) (E := RV B st cs gs a s5 (.pers (.int w)) (.pers (zh g))) rfl rfl
   have t2 : fTrB (f2 gEq (f2 gIx (fVar 3) (f1 gNeg (fC (.int 1)))) (f2 zcf (fSl (fVar 7) (fNo) (fSo (fC (.int 3)))) (fTup (zw (f2 gSub (fC (.int 0)) (fVar 6)) (hNil))))) (RV B st cs gs a s5 (.pers (.int w)) (.pers (zh g))) = .ok (decide (t = negG g)) := by
    rw [fTrB,zO e1 e2]
    show ((if (shal 4 (zh t) || shal 4 (zh ⟨g.x,g.lo,g.hi,0 - w⟩)) = true then Out.ok (Val.pers (.bl (eqD (zh t) (zh ⟨g.x,g.lo,g.hi,0 - w⟩)))) else .bad).bind _) = _
    rw [zeh 3 t,Bool.true_or,if_pos rfl,zh0]
    have : (⟨g.x,g.lo,g.hi,0 - w⟩ : Gate) = negG g := by
     unfold negG
     rw [hw,Int.zero_sub]
    rw [this]
    rfl
   have c : fAnd (fTrB (f2 gNe (fVar 3) (fLst (hNil)))) (fTrB (f2 gEq (f2 gIx (fVar 3) (f1 gNeg (fC (.int 1)))) (f2 zcf (fSl (fVar 7) (fNo) (fSo (fC (.int 3)))) (fTup (zw (f2 gSub (fC (.int 0)) (fVar 6)) (hNil)))))) (RV B st cs gs a s5 (.pers (.int w)) (.pers (zh g))) = .ok (decide (t = negG g)) := by
    rw [fAnd,t1,zi]
    exact t2
   by_cases z : t = negG g
   ·rw [decide_eq_true z] at c
    rw [zbC,ifS,c,zi,if_pos rfl]
    simp only [z,if_true]
    show (if (gs.map zh).length = 0 then Out.bad else Out.ok (Res.next [.pers (.lst (B.map zv)),.pers (.int st),.pers cs,.own (gs.map zh).dropLast,.pers (.int a),s5,.pers (.int w),.pers (zh g)])) = _
    rw [if_neg (by rw [List.length_map]; exact fun w => hne (List.eq_nil_of_length_eq_zero w)),← List.map_dropLast]
    rfl
   ·rw [decide_eq_false z] at c
    rw [zbC,ifS,c,zi,if_neg (by decide)]
    simp only [z,if_false]
    exact hap
theorem zf0 {B : List (Int × List Int)} {st : Int} {cs : D} {gs : List Gate} {a c : Int} {s6 s7 : Slot} (hB : 0 < B.length) (h0 : 0 ≤ a) (h1 : a ≤ B.length) (hl : gs.length < 1000) :
 ∃ (g : Gate) (t6 t7 : Slot),tK B a g ∧ 0 ≤ a + g.w ∧ a + g.w ≤ B.length ∧ zdr (RV B st cs gs a (.pers (.int c)) s6 s7) = .ok (.next (RV B st cs (zaE gs g) (a + g.w) (.pers (.int c)) t6 t7)) := by
 obtain ⟨w,hw,e1⟩ := zhq (st := st) (cs := cs) (gs := gs) (c := c) (s7 := s7) hB h0 h1
 obtain ⟨i,hi,hiw⟩ : ∃ i : Nat,i < B.length ∧ ((w = 1 ∧ (i : Int) = a) ∨ (w = -1 ∧ (i : Int) = a - 1)) := by
  rcases hw with ⟨rfl,k⟩ | ⟨rfl,k⟩
  ·exact ⟨a.toNat,by lia,.inl ⟨rfl,by lia⟩⟩
  ·exact ⟨(a - 1).toNat,by lia,.inr ⟨rfl,by lia⟩⟩
 obtain ⟨g,hg,gw,en⟩ := zhZ B[i] (c / 2) w
 refine ⟨g,.pers (.int w),.pers (zh g),⟨B[i],hg,i,List.getElem?_eq_getElem hi,by rw [gw]; exact hiw⟩,by lia,by lia,?_⟩
 have hix : fB v8 (zm (fVar 4) (zm (f2 gSub (f2 gAdd (fVar 4) (fVar 6)) (fB gInt (zm (f2 gEq (fVar 6) (fC (.int 1))) (fNil)))) (fNil))) (RV B st cs gs a (.pers (.int c)) (.pers (.int w)) s7) = .ok (.pers (.int (i : Int))) := by
  rcases hiw with ⟨rfl,k⟩ | ⟨rfl,k⟩
  ·show Out.ok (Val.pers (.int (if a + 1 - 1 < a then a + 1 - 1 else a))) = _
   rw [if_neg (by lia),k]
  ·show Out.ok (Val.pers (.int (if a + -1 - 0 < a then a + -1 - 0 else a))) = _
   rw [if_pos (by lia),k]
   congr 3
   lia
 have hln : f2 gIx (fVar 0) (fB v8 (zm (fVar 4) (zm (f2 gSub (f2 gAdd (fVar 4) (fVar 6)) (fB gInt (zm (f2 gEq (fVar 6) (fC (.int 1))) (fNil)))) (fNil)))) (RV B st cs gs a (.pers (.int c)) (.pers (.int w)) s7) = .ok (.pers (zv B[i])) := by
  rw [zO (x := .pers (.lst (B.map zv))) rfl hix]
  refine vp ?_
  rw [wE (by rw [List.length_map]; exact hi),List.getElem_map]
 have hdiv : f2 gDiv (fVar 5) (fC (.int 2)) (RV B st cs gs a (.pers (.int c)) (.pers (.int w)) s7) = .ok (.pers (.int (c / 2))) := by
  rw [zO (x := .pers (.int c)) (y := .pers (.int 2)) rfl rfl]
  exact zjv (by lia) (by lia)
 have hv6 : fVar 6 (RV B st cs gs a (.pers (.int c)) (.pers (.int w)) s7) = .ok (.pers (.int w)) := rfl
 rw [zdr,zk (env' := RV B st cs gs a (.pers (.int c)) (.pers (.int 1)) s7) rfl,zk e1]
 rw [zk (env' := RV B st cs gs a (.pers (.int c)) (.pers (.int w)) (.pers (zh g))) (by
  rw [setS,zI,zm,hln,zi,zm,hdiv,zi,zm,hv6,zi,fNil]
  show (((zag [zv B[i],.int (c / 2),.int w]).bind _).bind _) = _
  rw [en]
  rfl)]
 rw [zk (env' := RV B st cs gs (a + g.w) (.pers (.int c)) (.pers (.int w)) (.pers (zh g))) (by
  rw [gw]
  rfl)]
 exact zhr gw hl
theorem ziz {B : List (Int × List Int)} {st : Int} {cs : List Int} (hB : cs ≠ [] → 0 < B.length) (h0 : 0 ≤ st) (h1 : st ≤ B.length) (hl : cs.length ≤ 500) :
 ∃ gs : List Gate,tL B st gs ∧ Red gs ∧ gs.length ≤ cs.length ∧ 0 ≤ st + sumG gs ∧ st + sumG gs ≤ B.length ∧ zdL [.lst (B.map zv),.int st,.lst (cs.map .int)] = .ok (.pers (.tup [.lst (gs.map zh),.int (st + sumG gs)])) := by
 obtain ⟨env',ef,gs,s5,s6,s7,hp,hr,hlen,a0,a1,rfl⟩ := ur (g := gN 5) (fb := zdr) (fun j env => ∃ (gs : List Gate) (s5 s6 s7 : Slot),tL B st gs ∧ Red gs ∧ gs.length ≤ j ∧ 0 ≤ st + sumG gs ∧ st + sumG gs ≤ B.length ∧ env = RV B st (.lst (cs.map .int)) gs (st + sumG gs) s5 s6 s7) (cs.map .int) 0 (RV B st (.lst (cs.map .int)) [] (st + 0) .un .un .un) ⟨[],_,_,_,trivial,trivial,by simp,by simpa [sumG] using h0,by simpa [sumG] using h1,rfl⟩ (by
  rintro j d env _ hd ⟨gs,s5,s6,s7,hp,hr,hlen,a0,a1,rfl⟩
  rw [Nat.sub_zero,List.getElem?_map] at hd
  obtain ⟨c,hc,rfl⟩ := Option.map_eq_some_iff.mp hd
  have hj : j < cs.length := (List.getElem?_eq_some_iff.mp hc).1
  have hB' : 0 < B.length := hB (fun z => by subst z; simp at hj)
  obtain ⟨g,t6,t7,sg,b0,b1,e⟩ := zf0 (st := st) (cs := .lst (cs.map .int)) (gs := gs) (c := c) (s6 := s6) (s7 := s7) hB' a0 a1 (by lia)
  obtain ⟨p',r',q',l'⟩ := zfZ hp hr sg
  refine ⟨RV B st (.lst (cs.map .int)) gs (st + sumG gs) (.pers (.int c)) s6 s7,_,rfl,e,zaE gs g,.pers (.int c),t6,t7,p',r',by lia,by lia,by lia,by rw [q']⟩)
 refine ⟨gs,hp,hr,by rw [List.length_map] at hlen; lia,a0,a1,?_⟩
 unfold zdL
 show ((ze5 [.pers (.lst (B.map zv)),.pers (.int st),.pers (.lst (cs.map .int)),.un,.un,.un,.un,.un]).bind _) = _
 unfold ze5
 rw [zk (env' := [.pers (.lst (B.map zv)),.pers (.int st),.pers (.lst (cs.map .int)),.own [],.un,.un,.un,.un]) rfl]
 rw [zk (env' := RV B st (.lst (cs.map .int)) [] (st + 0) .un .un .un) (by
  rw [Int.add_zero]
  rfl)]
 rw [zk (by
  have hi : fItL (fVar 2) (RV B st (.lst (cs.map .int)) [] (st + 0) .un .un .un) = .ok (cs.map .int) := rfl
  rw [forS,hi,zi]
  exact ef)]
 rfl
noncomputable def SpotR (B : List (Int × List Int)) (p : Spot) : Prop := (-1 ≤ p.1 ∧ p.1 ≤ 8) ∧ (-1 ≤ p.2 ∧ p.2 ≤ 9) ∧ ∀ l ∈ B,p.1 ≠ l.1
theorem zec {B : List (Int × List Int)} {a n : Int} (hx : ∀ l ∈ B,∃ i : Int,l.1 = 2 * i ∧ 0 ≤ i ∧ i ≤ 3) (h0 : 0 ≤ a) : ∃ p : Spot,SpotR B p ∧ vW [.lst (B.map zv),.int a,.int n] = .ok (.pers (zd p)) := by
 unfold vW
 have go : ∀ v,vX [.pers (.lst (B.map zv)),.pers (.int a),.pers (.int n)] = .ok (.ret v) → runD 3 vX [.lst (B.map zv),.int a,.int n] = .ok v := fun v h => by
  show ((vX [.pers (.lst (B.map zv)),.pers (.int a),.pers (.int n)]).bind _) = _
  rw [h]
  rfl
 have hy : -1 ≤ n % 11 - 1 ∧ n % 11 - 1 ≤ 9 := by lia
 by_cases hB : B = []
 ·subst hB
  refine ⟨(n % 9,n / 9 % 11 - 1),⟨by show -1 ≤ n % 9 ∧ n % 9 ≤ 8; lia,by show -1 ≤ n / 9 % 11 - 1 ∧ n / 9 % 11 - 1 ≤ 9; lia,fun l hl => by simp at hl⟩,go _ ?_⟩
  exact zaA rfl
 ·have c0 : fTrB (f2 gEq (fVar 0) (fLst (hNil))) [.pers (.lst (B.map zv)),.pers (.int a),.pers (.int n)] = .ok false := by
   rw [fTrB,zO (x := .pers (.lst (B.map zv))) (y := .fresh []) rfl rfl]
   show ((if (shal 4 (.lst (B.map zv)) || true) = true then Out.ok (Val.pers (.bl (eqD (.lst (B.map zv)) (.lst [])))) else .bad).bind _) = _
   rw [Bool.or_true,if_pos rfl,zaW]
   cases B with
   | nil => exact absurd rfl hB
   | cons l B => rw [List.map_cons,zaY]; rfl
  have hn : zcc [.pers (.lst (B.map zv)),.pers (.int a),.pers (.int n)] = .ok (.next [.pers (.lst (B.map zv)),.pers (.int a),.pers (.int n)]) := by
   rw [zcc,ifS,c0,zi,if_neg (by decide)]
   rfl
  have c1 : fTrB (f2 gLt (fVar 1) (fB gLen (zm (fVar 0) (fNil)))) [.pers (.lst (B.map zv)),.pers (.int a),.pers (.int n)] = .ok (decide (a < B.length)) := by
   show Out.ok (decide (a < ((B.map zv).length : Int))) = _
   rw [List.length_map]
  have par : ∀ l ∈ B,∀ q : Int,(∃ i : Int,q = 2 * i + 1) → q ≠ l.1 := fun l hl q ⟨i,e⟩ w => by
   obtain ⟨j,hj,_⟩ := hx l hl
   lia
  by_cases z : a < B.length
  ·rw [decide_eq_true z] at c1
   obtain ⟨k,hk,rfl⟩ : ∃ k : Nat,k < B.length ∧ a = k := ⟨a.toNat,by lia,by lia⟩
   obtain ⟨i,ei,i0,i3⟩ := hx B[k] (List.getElem_mem hk)
   refine ⟨(B[k].1 - 1,n % 11 - 1),⟨by show -1 ≤ B[k].1 - 1 ∧ B[k].1 - 1 ≤ 8; lia,hy,fun l hl => par l hl _ ⟨i - 1,by lia⟩⟩,go _ ?_⟩
   unfold vX
   rw [zk hn]
   refine zaA ?_
   have hl : f2 gIx (fVar 0) (fVar 1) [.pers (.lst (B.map zv)),.pers (.int k),.pers (.int n)] = .ok (.pers (zv B[k])) := by
    rw [zO (x := .pers (.lst (B.map zv))) (y := .pers (.int k)) rfl rfl]
    refine vp ?_
    rw [wE (by rw [List.length_map]; exact hk),List.getElem_map]
   have hxx : f2 gSub (f2 gIx (f2 gIx (fVar 0) (fVar 1)) (fC (.int 0))) (fC (.int 1)) [.pers (.lst (B.map zv)),.pers (.int k),.pers (.int n)] = .ok (.pers (.int (B[k].1 - 1))) := by
    rw [zO (x := .pers (.int B[k].1)) (y := .pers (.int 1)) (by
     rw [zO hl (y := .pers (.int 0)) rfl]
     rfl) rfl]
    rfl
   have hyy : f2 gSub (f2 gMod (fVar 2) (fC (.int 11))) (fC (.int 1)) [.pers (.lst (B.map zv)),.pers (.int k),.pers (.int n)] = .ok (.pers (.int (n % 11 - 1))) := rfl
   rw [zca,ifS,c1,zi,if_pos rfl]
   simp only [retS,fTup,zw,hNil,hxx,hyy,zi,Val.hold]
   rfl
  ·rw [decide_eq_false z] at c1
   have hlast : atI (B.map zv) (-1) = some (zv (B.getLast hB)) := by
    rw [zbW,List.length_map,List.getElem?_map,← List.getLast?_eq_getElem?,List.getLast?_eq_some_getLast hB]
    rfl
   obtain ⟨i,ei,i0,i3⟩ := hx (B.getLast hB) (List.getLast_mem hB)
   refine ⟨((B.getLast hB).1 + 1,n % 11 - 1),⟨by show -1 ≤ (B.getLast hB).1 + 1 ∧ (B.getLast hB).1 + 1 ≤ 8; lia,hy,fun l hl => par l hl _ ⟨i,by lia⟩⟩,go _ ?_⟩
   have hl : f2 gIx (fVar 0) (f1 gNeg (fC (.int 1))) [.pers (.lst (B.map zv)),.pers (.int a),.pers (.int n)] = .ok (.pers (zv (B.getLast hB))) := by
    rw [zO (x := .pers (.lst (B.map zv))) (y := .pers (.int (-1))) rfl rfl]
    exact vp hlast
   have hxx : f2 gAdd (f2 gIx (f2 gIx (fVar 0) (f1 gNeg (fC (.int 1)))) (fC (.int 0))) (fC (.int 1)) [.pers (.lst (B.map zv)),.pers (.int a),.pers (.int n)] = .ok (.pers (.int ((B.getLast hB).1 + 1))) := by
    rw [zO (x := .pers (.int (B.getLast hB).1)) (y := .pers (.int 1)) (by
     rw [zO hl (y := .pers (.int 0)) rfl]
     rfl) rfl]
    rfl
   have hyy : f2 gSub (f2 gMod (fVar 2) (fC (.int 11))) (fC (.int 1)) [.pers (.lst (B.map zv)),.pers (.int a),.pers (.int n)] = .ok (.pers (.int (n % 11 - 1))) := rfl
   unfold vX
   rw [zk hn,zk (env' := [.pers (.lst (B.map zv)),.pers (.int a),.pers (.int n)]) (by
    rw [zca,ifS,c1,zi,if_neg (by decide)]
    rfl)]
   simp only [retS,fTup,zw,hNil,hxx,hyy,zi,Val.hold]
   rfl
theorem t8 {l : List Spot} {k : Int} (h1 : -9 ≤ k) (h2 : k ≤ 9) (hl : l.length ≤ 10000) : yi [.lst (l.map zd),.int k] = .ok (.fresh ((l.map (slaS k)).map zd)) := by
 have cm : ∀ j,cMul k j = true := fun j => zbR (by lia) (by lia)
 have hc : compD (gT [1,2]) fYes wK (l.map zd) [.pers (.int k),.un,.un] = .ok ((l.map (slaS k)).map zd) := by
  rw [yR (fun env => ∃ s1 s2,env = [.pers (.int k),s1,s2]) zd (fun p => some (zd (slaS k p))) l [.pers (.int k),.un,.un] ⟨_,_,rfl⟩ (fun p env _ ⟨s1,s2,he⟩ => by
   subst he
   refine ⟨[.pers (.int k),.pers (.int p.1),.pers (.int p.2)],rfl,⟨_,_,rfl⟩,.inr ⟨_,.pers (zd (slaS k p)),rfl,rfl,?_,rfl⟩⟩
   have e1 : f2 gMul (fVar 0) (fVar 1) [.pers (.int k),.pers (.int p.1),.pers (.int p.2)] = .ok (.pers (.int (k * p.1))) := by
    rw [zO (x := .pers (.int k)) (y := .pers (.int p.1)) rfl rfl]
    exact zc7 (cm _)
   have e2 : f2 gAdd (fVar 2) (f2 gMul (fVar 0) (fVar 1)) [.pers (.int k),.pers (.int p.1),.pers (.int p.2)] = .ok (.pers (.int (p.2 + k * p.1))) := by
    rw [zO (x := .pers (.int p.2)) rfl e1]
    rfl
   have e3 : fVar 1 [.pers (.int k),.pers (.int p.1),.pers (.int p.2)] = .ok (.pers (.int p.1)) := rfl
   simp only [wK,fTup,zw,hNil,e2,e3,zi]
   rfl),List.filterMap_eq_map',List.map_map]
  rfl
 unfold yi
 show ((wz [.pers (.lst (l.map zd)),.pers (.int k)]).bind _) = _
 have hi : fItL (fVar 0) [.pers (.lst (l.map zd)),.pers (.int k)] = .ok (l.map zd) := rfl
 rw [wz,retS,yq,hi,zi,if_pos (by rw [List.length_map]; lia)]
 show ((((compD (gT [1,2]) fYes wK (l.map zd) [.pers (.int k),.un,.un]).bind _).bind _).bind _) = _
 rw [hc]
 rfl
noncomputable def SE (r : D) (k : Int) (acc : List Gate) (s3 s4 s5 s6 : Slot) : Ev := [.pers r,.pers (.int k),.own (acc.map zh),s3,s4,s5,s6]
theorem zee {r : D} {k : Int} (h1 : -9 ≤ k) (h2 : k ≤ 9) : ∀ (gs acc : List Gate) (s3 s4 s5 s6 : Slot),acc.length + gs.length ≤ 10000 → ∃ t3 t4 t5 t6,forD (gT [3,4,5,6]) xa (gs.map zh) (SE r k acc s3 s4 s5 s6) = .ok (.next (SE r k (acc ++ gs.map (slaG k)) t3 t4 t5 t6))
 | [],acc,s3,s4,s5,s6,_ => ⟨s3,s4,s5,s6,by rw [List.map_nil,List.map_nil,List.append_nil]; rfl⟩
 | g :: gs,acc,s3,s4,s5,s6,hl => by
   simp only [List.length_cons] at hl
   obtain ⟨t3,t4,t5,t6,e⟩ := zee (r := r) h1 h2 gs (acc ++ [slaG k g]) (.pers (.int g.x)) (.pers (optD (slaG k g).lo)) (.pers (optD (slaG k g).hi)) (.pers (.int g.w)) (by simp; lia)
   refine ⟨t3,t4,t5,t6,?_⟩
   have cm : ∀ j,cMul k j = true := fun j => zbR (by lia) (by lia)
   have em : ∀ a b,f2 gMul (fVar 1) (fVar 3) (SE r k acc (.pers (.int g.x)) a b (.pers (.int g.w))) = .ok (.pers (.int (k * g.x))) := fun a b => by
    rw [zO (x := .pers (.int k)) (y := .pers (.int g.x)) rfl rfl]
    exact zc7 (cm _)
   have i1 : xL (SE r k acc (.pers (.int g.x)) (.pers (optD g.lo)) (.pers (optD g.hi)) (.pers (.int g.w))) = .ok (.next (SE r k acc (.pers (.int g.x)) (.pers (optD (slaG k g).lo)) (.pers (optD g.hi)) (.pers (.int g.w)))) := by
    unfold slaG
    cases q : g.lo with
    | none => rfl
    | some y =>
      have c : fTrB (f2 wR (fVar 4) (fC .non)) (SE r k acc (.pers (.int g.x)) (.pers (optD (some y))) (.pers (optD g.hi)) (.pers (.int g.w))) = .ok true := rfl
      rw [xL,ifS,c,zi,if_pos rfl,setS,zO (x := .pers (.int y)) rfl (em _ _)]
      rfl
   have i2 : xK (SE r k acc (.pers (.int g.x)) (.pers (optD (slaG k g).lo)) (.pers (optD g.hi)) (.pers (.int g.w))) = .ok (.next (SE r k acc (.pers (.int g.x)) (.pers (optD (slaG k g).lo)) (.pers (optD (slaG k g).hi)) (.pers (.int g.w)))) := by
    generalize (slaG k g).lo = L
    unfold slaG
    cases q : g.hi with
    | none => rfl
    | some y =>
      have c : fTrB (f2 wR (fVar 5) (fC .non)) (SE r k acc (.pers (.int g.x)) (.pers (optD L)) (.pers (optD (some y))) (.pers (.int g.w))) = .ok true := rfl
      rw [xK,ifS,c,zi,if_pos rfl,setS,zO (x := .pers (.int y)) rfl (em _ _)]
      rfl
   have hb : xa (SE r k acc (.pers (.int g.x)) (.pers (optD g.lo)) (.pers (optD g.hi)) (.pers (.int g.w))) = .ok (.next (SE r k (acc ++ [slaG k g]) (.pers (.int g.x)) (.pers (optD (slaG k g).lo)) (.pers (optD (slaG k g).hi)) (.pers (.int g.w)))) := by
    rw [xa,zk i1,zk i2]
    show (if (acc.map zh).length < 100000 then Out.ok (Res.next [.pers r,.pers (.int k),.own (acc.map zh ++ [zh (slaG k g)]),.pers (.int g.x),.pers (optD (slaG k g).lo),.pers (optD (slaG k g).hi),.pers (.int g.w)]) else .bad) = _
    rw [if_pos (by rw [List.length_map]; lia)]
    unfold SE
    rw [List.map_append]
    rfl
   have hg : gT [3,4,5,6] (zh g) (SE r k acc s3 s4 s5 s6) = .ok (SE r k acc (.pers (.int g.x)) (.pers (optD g.lo)) (.pers (optD g.hi)) (.pers (.int g.w))) := rfl
   rw [List.map_cons,forD,hg,zi,hb,zi]
   simp only [List.append_assoc,List.singleton_append] at e
   exact e
theorem zed {gs : List Gate} {k : Int} (h1 : -9 ≤ k) (h2 : k ≤ 9) (hl : gs.length ≤ 1000) : yd [.lst (gs.map zh),.int k] = .ok (.fresh ((gs.map (slaG k)).map zh)) := by
 obtain ⟨t3,t4,t5,t6,e⟩ := zee (r := .lst (gs.map zh)) h1 h2 gs [] .un .un .un .un (by simp; lia)
 unfold yd
 show ((yQ [.pers (.lst (gs.map zh)),.pers (.int k),.un,.un,.un,.un,.un]).bind _) = _
 unfold yQ
 rw [zk (env' := SE (.lst (gs.map zh)) k [] .un .un .un .un) rfl]
 rw [zk (by
  have hi : fItL (fVar 0) (SE (.lst (gs.map zh)) k [] .un .un .un .un) = .ok (gs.map zh) := rfl
  rw [forS,hi,zi]
  exact e)]
 rfl
theorem zaF {s e : Spot} {row : List Gate} (w : Walk row) (hl : row.length ≤ 1000) (hg : ∀ g ∈ row,(-10 ≤ g.x ∧ g.x ≤ 10) ∧ g.x ≠ s.1 ∧ g.x ≠ e.1 ∧ ∀ y,g.lo = some y ∨ g.hi = some y → -1000 ≤ y ∧ y ≤ 1000)
 (hs : (-10 ≤ s.1 ∧ s.1 ≤ 10) ∧ -1000 ≤ s.2 ∧ s.2 ≤ 1000) (he : (-10 ≤ e.1 ∧ e.1 ≤ 10) ∧ -1000 ≤ e.2 ∧ e.2 ≤ 1000) : PullOk s e row where
 bs := by unfold Bx; lia
 be := by unfold Bx; lia
 bg := fun g h => by have := (hg g h).1; unfold Bx; lia
 xs := ⟨(List.range 21).map fun (i : Nat) => (i : Int) - 10,by simp,fun g h => by
  have := (hg g h).1
  exact List.mem_map.mpr ⟨(g.x + 10).toNat,List.mem_range.mpr (by lia),by lia⟩⟩
 len := by lia
 walk := w
 sx := fun g h => (hg g h).2.1
 ex := fun g h => (hg g h).2.2.1
 hh := ⟨-1000,fun p hp => by
  rcases hp with rfl | rfl | ⟨g,h,_,k⟩
  ·lia
  ·lia
  ·have := (hg g h).2.2.2 p.2 k
   lia⟩
theorem kx {k x : Int} (h1 : -9 ≤ k) (h2 : k ≤ 9) (h3 : -10 ≤ x) (h4 : x ≤ 10) : -90 ≤ k * x ∧ k * x ≤ 90 := by
 have := Nat.mul_le_mul (show k.natAbs ≤ 9 by lia) (show x.natAbs ≤ 10 by lia)
 rw [← Int.natAbs_mul] at this
 lia
structure RowR (gs : List Gate) (s e : Spot) : Prop where
 walk : Walk gs
 ways : ∀ g ∈ gs,g.w = 1 ∨ g.w = -1
 gok : ∀ g ∈ gs,GateOk g
 len : gs.length ≤ 63
 bx : ∀ g ∈ gs,(0 ≤ g.x ∧ g.x ≤ 6) ∧ g.x ≠ s.1 ∧ g.x ≠ e.1 ∧ ∀ y,g.lo = some y ∨ g.hi = some y → 0 ≤ y ∧ y ≤ 12
 hs : (-1 ≤ s.1 ∧ s.1 ≤ 8) ∧ -1 ≤ s.2 ∧ s.2 ≤ 9
 he : (-1 ≤ e.1 ∧ e.1 ≤ 8) ∧ -1 ≤ e.2 ∧ e.2 ≤ 9
theorem RowR.p0 {gs : List Gate} {s e : Spot} (R : RowR gs s e) : PullOk s e gs := by
 have h1 := R.hs
 have h2 := R.he
 refine zaF R.walk (by have := R.len; lia) (fun g hg => ?_) (by lia) (by lia)
 obtain ⟨a,b,c,d⟩ := R.bx g hg
 exact ⟨by lia,b,c,fun y hy => by have := d y hy; lia⟩
theorem RowR.p1 {gs : List Gate} {s e : Spot} (R : RowR gs s e) : PullOk e s (revR gs) := by
 have h1 := R.hs
 have h2 := R.he
 refine zaF (zcH R.ways R.walk) (by have := R.len; unfold revR; rw [List.length_reverse,List.length_map]; lia) (fun g hg => ?_) (by lia) (by lia)
 unfold revR at hg
 obtain ⟨t,ht,rfl⟩ := List.mem_map.mp (List.mem_reverse.mp hg)
 obtain ⟨a,b,c,d⟩ := R.bx t ht
 refine ⟨?_,c,b,fun y hy => ?_⟩
 ·show -10 ≤ t.x ∧ t.x ≤ 10
  lia
 ·have := d y hy
  lia
theorem RowR.p2 {gs : List Gate} {s e : Spot} (R : RowR gs s e) {k : Int} (k1 : -9 ≤ k) (k2 : k ≤ 9) : PullOk (slaS k s) (slaS k e) (gs.map (slaG k)) := by
 have h1 := R.hs
 have h2 := R.he
 have q1 := kx k1 k2 (x := s.1) (by lia) (by lia)
 have q2 := kx k1 k2 (x := e.1) (by lia) (by lia)
 refine zaF (zcG k R.walk) (by have := R.len; rw [List.length_map]; lia) (fun g hg => ?_) ?_ ?_
 ·obtain ⟨t,ht,rfl⟩ := List.mem_map.mp hg
  obtain ⟨a,b,c,d⟩ := R.bx t ht
  refine ⟨?_,b,c,fun y hy => ?_⟩
  ·show -10 ≤ t.x ∧ t.x ≤ 10
   lia
  ·have q3 := kx k1 k2 (x := t.x) (by lia) (by lia)
   simp only [slaG,Option.map_eq_some_iff] at hy
   rcases hy with ⟨z,hz,rfl⟩ | ⟨z,hz,rfl⟩
   ·have := d z (.inl hz); lia
   ·have := d z (.inr hz); lia
 ·show (-10 ≤ s.1 ∧ s.1 ≤ 10) ∧ -1000 ≤ s.2 + k * s.1 ∧ s.2 + k * s.1 ≤ 1000
  lia
 ·show (-10 ≤ e.1 ∧ e.1 ≤ 10) ∧ -1000 ≤ e.2 + k * e.1 ∧ e.2 + k * e.1 ≤ 1000
  lia
theorem RowR.p3 {gs : List Gate} {s e : Spot} (R : RowR gs s e) : PullOk (mirS s) (mirS e) (gs.map mirG) := by
 have h1 := R.hs
 have h2 := R.he
 refine zaF (zcI R.ways R.walk) (by have := R.len; rw [List.length_map]; lia) (fun g hg => ?_) ?_ ?_
 ·obtain ⟨t,ht,rfl⟩ := List.mem_map.mp hg
  obtain ⟨a,b,c,d⟩ := R.bx t ht
  refine ⟨?_,?_,?_,fun y hy => ?_⟩
  ·show -10 ≤ -t.x ∧ -t.x ≤ 10
   lia
  ·show -t.x ≠ -s.1
   lia
  ·show -t.x ≠ -e.1
   lia
  ·have := d y hy
   lia
 ·show (-10 ≤ -s.1 ∧ -s.1 ≤ 10) ∧ -1000 ≤ s.2 ∧ s.2 ≤ 1000
  lia
 ·show (-10 ≤ -e.1 ∧ -e.1 ≤ 10) ∧ -1000 ≤ e.2 ∧ e.2 ≤ 1000
  lia
theorem RowR.all {gs : List Gate} {s e : Spot} (R : RowR gs s e) : ∃ out : List Spot,out.length ≤ 9200 ∧ zH [zd s,.lst (gs.map zh),zd e] = .ok (.fresh (out.map zd)) ∧ zH [zd e,.lst ((revR gs).map zh),zd s] = .ok (.fresh (out.reverse.map zd)) ∧
 (∀ k : Int,-9 ≤ k → k ≤ 9 → zH [zd (slaS k s),.lst ((gs.map (slaG k)).map zh),zd (slaS k e)] = .ok (.fresh ((out.map (slaS k)).map zd))) ∧
 zH [zd (mirS s),.lst ((gs.map mirG).map zh),zd (mirS e)] = .ok (.fresh ((out.map mirS).map zd)) := by
 have ok : v4 (yv gs) := zhp R.walk R.gok
 have sp := uj gs R.walk
 have tn : wG (yv gs) := uC _ sp
 obtain ⟨out,P0,hl,e0⟩ := vk R.p0
 obtain ⟨o1,P1,_,e1⟩ := vk R.p1
 obtain ⟨o3,P3,_,e3⟩ := vk R.p3
 refine ⟨out,hl,e0,?_,fun k k1 k2 => ?_,?_⟩
 ·have hr := zcS sp (fun Q hQ g hg => R.ways g (by rw [← wv gs]; exact List.mem_flatten.mpr ⟨Q,hQ,hg⟩))
  rw [wv] at hr
  rw [hr] at P1
  rw [e1,zdF ok tn P0 P1]
 ·obtain ⟨o2,P2,_,e2⟩ := vk (R.p2 k1 k2)
  rw [zaC (g := slaG k) (fun a b => Iff.rfl)] at P2
  rw [e2,zae (zi8 k) (zfR k) (zfQ k) ok tn P0 P2]
 ·rw [zaC (g := mirG) (fun a b => by simp only [mirG]; lia)] at P3
  rw [e3,zae zi9 zgh zgg ok tn P0 P3]
theorem zdf (l : List Spot) : eqD (.lst (l.map zd)) (.lst (l.map zd)) = true := by
 rw [zaW,zdg zd zcj,decide_eq_true rfl]
theorem zaa (l : List Spot) : shal 4 (.lst (l.map zd)) = true := by
 rw [zfT,List.all_map,List.all_eq_true]
 intro p _
 exact uF 2 p
theorem zaL (l : List Spot) : gNe (.lst (l.map zd)) (.lst (l.map zd)) = .ok (.pers (.bl false)) := by
 show (if (shal 4 (.lst (l.map zd)) || shal 4 (.lst (l.map zd))) = true then Out.ok (Val.pers (.bl (!eqD (.lst (l.map zd)) (.lst (l.map zd))))) else .bad) = _
 rw [zaa,Bool.true_or,if_pos rfl,zdf]
 rfl
theorem ze7 (l : List Spot) : gEq (.lst (l.map zd)) (.lst (l.map zd)) = .ok (.pers (.bl true)) := by
 show (if (shal 4 (.lst (l.map zd)) || shal 4 (.lst (l.map zd))) = true then Out.ok (Val.pers (.bl (eqD (.lst (l.map zd)) (.lst (l.map zd))))) else .bad) = _
 rw [zaa,Bool.true_or,if_pos rfl,zdf]
theorem zbt (B : List (Int × List Int)) : gNe (.lst (B.map zv)) (.lst []) = .ok (.pers (.bl (!decide (B = [])))) := by
 show (if (shal 4 (.lst (B.map zv)) || true) = true then Out.ok (Val.pers (.bl (!eqD (.lst (B.map zv)) (.lst [])))) else .bad) = _
 rw [Bool.or_true,if_pos rfl,zaW]
 cases B with
 | nil => rw [List.map_nil,vv]; rfl
 | cons g gs => rw [List.map_cons,zaY,decide_eq_false (by simp)]
theorem zgz (ns : List Int) (lo hi : Option Int) : ∃ m : List Int,m.length ≤ ns.length ∧ cutD (ns.map D.int) lo hi = m.map .int := by
 unfold DL.cutD
 rw [← List.map_drop,← List.map_take]
 refine ⟨_,?_,rfl⟩
 rw [List.length_take,List.length_drop]
 lia
theorem mod12 : ∃ M : Int,0 < M ∧ ∀ E : Ev,f2 gPow (fC (.int 10)) (fC (.int 12)) E = .ok (.pers (.int M)) := by
 refine ⟨10 ^ (12 : Int).toNat,by decide,fun E => ?_⟩
 rw [zO (x := .pers (.int 10)) (y := .pers (.int 12)) rfl rfl]
 show (if cPow 10 12 = true then Out.ok (Val.pers (.int (10 ^ (12 : Int).toNat))) else .bad) = _
 rw [if_pos (zfv 12 (by lia) (by lia))]
theorem zgC (m : List Int) : ∃ cs : List Int,cs.length = m.length ∧ compD (gN 0) fYes zdj (m.map .int) [.un] = .ok (cs.map .int) := by
 obtain ⟨M,hM,e⟩ := mod12
 refine ⟨m.map (· % M),by rw [List.length_map],?_⟩
 rw [yR (fun env => ∃ s0,env = [s0]) D.int (fun c => some (.int (c % M))) m [.un] ⟨_,rfl⟩ (fun c env _ ⟨s0,he⟩ => by
  subst he
  refine ⟨[.pers (.int c)],rfl,⟨_,rfl⟩,.inr ⟨_,.pers (.int (c % M)),rfl,rfl,?_,rfl⟩⟩
  rw [zdj,zO (x := .pers (.int c)) rfl (e _)]
  exact wW hM),List.filterMap_eq_map',List.map_map]
 rfl
theorem zgf (gs : List Gate) : compD (gT [0,1,2,3]) fYes zdi (gs.reverse.map zh) [.un,.un,.un,.un] = .ok ((revR gs).map zh) := by
 rw [yR (fun env => ∃ a b c d,env = [a,b,c,d]) zh (fun g => some (zh (negG g))) gs.reverse [.un,.un,.un,.un] ⟨_,_,_,_,rfl⟩ (fun g env _ ⟨a,b,c,d,he⟩ => by
  subst he
  refine ⟨[.pers (.int g.x),.pers (optD g.lo),.pers (optD g.hi),.pers (.int g.w)],rfl,⟨_,_,_,_,rfl⟩,.inr ⟨_,.pers (zh (negG g)),rfl,rfl,?_,rfl⟩⟩
  show Out.ok (Val.pers (.tup [.int g.x,optD g.lo,optD g.hi,.int (0 - g.w)])) = _
  rw [Int.zero_sub]
  rfl),List.filterMap_eq_map']
 unfold revR
 rw [← List.map_reverse,List.map_map]
 rfl
theorem zgi (gs : List Gate) : compD (gT [0,1,2,3]) fYes zdh (gs.map zh) [.un,.un,.un,.un] = .ok ((gs.map mirG).map zh) := by
 rw [yR (fun env => ∃ a b c d,env = [a,b,c,d]) zh (fun g => some (zh (mirG g))) gs [.un,.un,.un,.un] ⟨_,_,_,_,rfl⟩ (fun g env _ ⟨a,b,c,d,he⟩ => by
  subst he
  refine ⟨[.pers (.int g.x),.pers (optD g.lo),.pers (optD g.hi),.pers (.int g.w)],rfl,⟨_,_,_,_,rfl⟩,.inr ⟨_,.pers (zh (mirG g)),rfl,rfl,?_,rfl⟩⟩
  show Out.ok (Val.pers (.tup [.int (0 - g.x),optD g.lo,optD g.hi,.int (0 - g.w)])) = _
  rw [Int.zero_sub,Int.zero_sub]
  rfl),List.filterMap_eq_map',List.map_map]
 rfl
theorem zeM (l : List Spot) : compD (gT [0,1]) fYes zbJ (l.map zd) [.un,.un] = .ok ((l.map mirS).map zd) := by
 rw [yR (fun env => ∃ a b,env = [a,b]) zd (fun p => some (zd (mirS p))) l [.un,.un] ⟨_,_,rfl⟩ (fun p env _ ⟨a,b,he⟩ => by
  subst he
  refine ⟨[.pers (.int p.1),.pers (.int p.2)],rfl,⟨_,_,rfl⟩,.inr ⟨_,.pers (zd (mirS p)),rfl,rfl,?_,rfl⟩⟩
  show Out.ok (Val.pers (.tup [.int (0 - p.1),.int p.2])) = _
  rw [Int.zero_sub]
  rfl),List.filterMap_eq_map',List.map_map]
 rfl
theorem zft {m : List D → Out Val} {f g h : FE} {E : Ev} {a b c : D} {v : List D} (hf : f E = .ok (.pers a)) (hg : g E = .ok (.pers b) ∨ ∃ l,g E = .ok (.fresh l) ∧ b = .lst l) (hh : h E = .ok (.pers c)) (hm : m [a,b,c] = .ok (.fresh v)) : zI m (zm f (zm g (zm h (fNil)))) E = .ok (.fresh v) := by
 rcases hg with hg | ⟨l,hg,rfl⟩
 ·rw [zI,zm,hf,zi,zm,hg,zi,zm,hh,zi,fNil]
  show ((m [a,b,c]).bind _) = _
  rw [hm]
  rfl
 ·rw [zI,zm,hf,zi,zm,hg,zi,zm,hh,zi,fNil]
  show ((m [a,.lst l,c]).bind _) = _
  rw [hm]
  rfl
noncomputable def zim : FS :=
 (seqS (setS 9 false (zI zH (zm (fVar 7) (zm (fB zbE (zm (fVar 5) (fNil))) (zm (fVar 8) (fNil))))))
 (seqS (setS 10 true (fB zbE (zm (fVar 9) (fNil))))
 (seqS (appS 9 (fVar 7))
 (seqS (setS 11 true (yq [] 4 (fRev (fVar 5)) (gT [0,1,2,3]) (fYes) (zdi)))
 (seqS (ze0)
 (seqS (setS 12 true (f2 gSub (f2 gMod (f2 gIx (fVar 1) (fC (.int 9))) (fC (.int 19))) (fC (.int 9))))
 (seqS (setS 13 true (zI yd (zm (fVar 5) (zm (fVar 12) (fNil)))))
 (seqS (setS 14 true (zI yi (zm (fLst (zw (fVar 7) (zw (fVar 8) (hNil)))) (zm (fVar 12) (fNil)))))
 (seqS (zeZ)
 (seqS (setS 13 true (yq [] 4 (fItL (fVar 5)) (gT [0,1,2,3]) (fYes) (zdh)))
 (retS (f2 gEq (zI zH (zm (fTup (zw (f2 gSub (fC (.int 0)) (f2 gIx (fVar 7) (fC (.int 0)))) (zw (f2 gIx (fVar 7) (fC (.int 1))) (hNil)))) (zm (fVar 13) (zm (fTup (zw (f2 gSub (fC (.int 0)) (f2 gIx (fVar 8) (fC (.int 0)))) (zw (f2 gIx (fVar 8) (fC (.int 1))) (hNil)))) (fNil))))) (yq [] 2 (fItL (fVar 10)) (gT [0,1]) (fYes) (zbJ))))))))))))))
theorem zhV {ns hs cs : List Int} {B : List (Int × List Int)} {gs : List Gate} {st la : Int} {s e : Spot} (h14 : hs.length = 14) (R : RowR gs s e) : zim [.pers (.scr ns),.pers (.lst (hs.map .int)),.pers (.lst (B.map zv)),.pers (.int st),.pers (.lst (cs.map .int)),.pers (.lst (gs.map zh)),.pers (.int la),.pers (zd s),.pers (zd e),.un,.un,.un,.un,.un,.un] = .ok (.ret (.pers (.bl true))) := by
 obtain ⟨out,hlo,q0,q1,q2,q3⟩ := R.all
 have hlen := R.len
 have a9 : atI (hs.map D.int) 9 = some (.int (hs[9]'(by lia))) := by
  have := wE (xs := hs.map D.int) (k := 9) (by rw [List.length_map]; lia)
  rw [List.getElem_map] at this
  exact this
 generalize (hs[9]'(by lia)) = u at a9
 obtain ⟨k,ek,k1,k2⟩ : ∃ k,k = u % 19 - 9 ∧ -9 ≤ k ∧ k ≤ 9 := ⟨_,rfl,by lia,by lia⟩
 have q2 := q2 k k1 k2
 unfold zim
 rw [zk (env' := [.pers (.scr ns),.pers (.lst (hs.map .int)),.pers (.lst (B.map zv)),.pers (.int st),.pers (.lst (cs.map .int)),.pers (.lst (gs.map zh)),.pers (.int la),.pers (zd s),.pers (zd e),.own (out.map zd),.un,.un,.un,.un,.un]) (by
  rw [setS,zft (a := zd s) (b := .lst (gs.map zh)) (c := zd e) (v := out.map zd) rfl (.inr ⟨_,rfl,rfl⟩) rfl q0]
  rfl)]
 rw [zk (env' := [.pers (.scr ns),.pers (.lst (hs.map .int)),.pers (.lst (B.map zv)),.pers (.int st),.pers (.lst (cs.map .int)),.pers (.lst (gs.map zh)),.pers (.int la),.pers (zd s),.pers (zd e),.own (out.map zd),.pers (.lst (out.map zd)),.un,.un,.un,.un]) rfl]
 rw [zk (env' := [.pers (.scr ns),.pers (.lst (hs.map .int)),.pers (.lst (B.map zv)),.pers (.int st),.pers (.lst (cs.map .int)),.pers (.lst (gs.map zh)),.pers (.int la),.pers (zd s),.pers (zd e),.own (out.map zd ++ [zd s]),.pers (.lst (out.map zd)),.un,.un,.un,.un]) (by
  show (if (out.map zd).length < 100000 then Out.ok (Res.next [.pers (.scr ns),.pers (.lst (hs.map .int)),.pers (.lst (B.map zv)),.pers (.int st),.pers (.lst (cs.map .int)),.pers (.lst (gs.map zh)),.pers (.int la),.pers (zd s),.pers (zd e),.own (out.map zd ++ [zd s]),.pers (.lst (out.map zd)),.un,.un,.un,.un]) else .bad) = _
  rw [if_pos (by rw [List.length_map]; lia)])]
 rw [zk (env' := [.pers (.scr ns),.pers (.lst (hs.map .int)),.pers (.lst (B.map zv)),.pers (.int st),.pers (.lst (cs.map .int)),.pers (.lst (gs.map zh)),.pers (.int la),.pers (zd s),.pers (zd e),.own (out.map zd ++ [zd s]),.pers (.lst (out.map zd)),.pers (.lst ((revR gs).map zh)),.un,.un,.un]) (by
  have hr : fRev (fVar 5) [.pers (.scr ns),.pers (.lst (hs.map .int)),.pers (.lst (B.map zv)),.pers (.int st),.pers (.lst (cs.map .int)),.pers (.lst (gs.map zh)),.pers (.int la),.pers (zd s),.pers (zd e),.own (out.map zd ++ [zd s]),.pers (.lst (out.map zd)),.un,.un,.un,.un] = .ok (gs.reverse.map zh) := by
   rw [List.map_reverse]
   rfl
  rw [setS,yq,hr,zi,if_pos (by rw [List.length_map,List.length_reverse]; lia)]
  show (((compD (gT [0,1,2,3]) fYes zdi (gs.reverse.map zh) [.un,.un,.un,.un]).bind _).bind _) = _
  rw [zgf]
  rfl)]
 rw [zk (env' := [.pers (.scr ns),.pers (.lst (hs.map .int)),.pers (.lst (B.map zv)),.pers (.int st),.pers (.lst (cs.map .int)),.pers (.lst (gs.map zh)),.pers (.int la),.pers (zd s),.pers (zd e),.own (out.map zd ++ [zd s]),.pers (.lst (out.map zd)),.pers (.lst ((revR gs).map zh)),.un,.un,.un]) (by
  have r1 : f1 ze2 (fVar 10) [.pers (.scr ns),.pers (.lst (hs.map .int)),.pers (.lst (B.map zv)),.pers (.int st),.pers (.lst (cs.map .int)),.pers (.lst (gs.map zh)),.pers (.int la),.pers (zd s),.pers (zd e),.own (out.map zd ++ [zd s]),.pers (.lst (out.map zd)),.pers (.lst ((revR gs).map zh)),.un,.un,.un] = .ok (.fresh (out.reverse.map zd)) := by
   rw [List.map_reverse]
   rfl
  have c1 : fTrB (f2 gNe (zI zH (zm (fVar 8) (zm (fVar 11) (zm (fVar 7) (fNil))))) (f1 ze2 (fVar 10))) [.pers (.scr ns),.pers (.lst (hs.map .int)),.pers (.lst (B.map zv)),.pers (.int st),.pers (.lst (cs.map .int)),.pers (.lst (gs.map zh)),.pers (.int la),.pers (zd s),.pers (zd e),.own (out.map zd ++ [zd s]),.pers (.lst (out.map zd)),.pers (.lst ((revR gs).map zh)),.un,.un,.un] = .ok false := by
   rw [fTrB,zO (zft (a := zd e) (b := .lst ((revR gs).map zh)) (c := zd s) (v := out.reverse.map zd) rfl (.inl rfl) rfl q1) r1]
   show ((gNe (.lst (out.reverse.map zd)) (.lst (out.reverse.map zd))).bind _) = _
   rw [zaL]
   rfl
  have c2 : fTrB (f2 gNe (zI zH (zm (fVar 7) (zm (fB zbE (zm (fVar 5) (fNil))) (zm (fVar 8) (fNil))))) (fVar 10)) [.pers (.scr ns),.pers (.lst (hs.map .int)),.pers (.lst (B.map zv)),.pers (.int st),.pers (.lst (cs.map .int)),.pers (.lst (gs.map zh)),.pers (.int la),.pers (zd s),.pers (zd e),.own (out.map zd ++ [zd s]),.pers (.lst (out.map zd)),.pers (.lst ((revR gs).map zh)),.un,.un,.un] = .ok false := by
   rw [fTrB,zO (y := .pers (.lst (out.map zd))) (zft (a := zd s) (b := .lst (gs.map zh)) (c := zd e) (v := out.map zd) rfl (.inr ⟨_,rfl,rfl⟩) rfl q0) rfl]
   show ((gNe (.lst (out.map zd)) (.lst (out.map zd))).bind _) = _
   rw [zaL]
   rfl
  simp only [ze0,ifS,fOr,c1,c2,zi]
  rfl)]
 rw [zk (env' := [.pers (.scr ns),.pers (.lst (hs.map .int)),.pers (.lst (B.map zv)),.pers (.int st),.pers (.lst (cs.map .int)),.pers (.lst (gs.map zh)),.pers (.int la),.pers (zd s),.pers (zd e),.own (out.map zd ++ [zd s]),.pers (.lst (out.map zd)),.pers (.lst ((revR gs).map zh)),.pers (.int k),.un,.un]) (by
  rw [setS,zO (x := .pers (.int (u % 19))) (y := .pers (.int 9)) (by
   rw [zO (x := .pers (.int u)) (y := .pers (.int 19)) (by
    rw [zO (x := .pers (.lst (hs.map .int))) (y := .pers (.int 9)) rfl rfl]
    exact vp a9) rfl]
   exact wW (by lia)) rfl,ek]
  rfl)]
 rw [zk (env' := [.pers (.scr ns),.pers (.lst (hs.map .int)),.pers (.lst (B.map zv)),.pers (.int st),.pers (.lst (cs.map .int)),.pers (.lst (gs.map zh)),.pers (.int la),.pers (zd s),.pers (zd e),.own (out.map zd ++ [zd s]),.pers (.lst (out.map zd)),.pers (.lst ((revR gs).map zh)),.pers (.int k),.pers (.lst ((gs.map (slaG k)).map zh)),.un]) (by
  rw [setS]
  show (((yd [.lst (gs.map zh),.int k]).bind _).bind _) = _
  rw [zed k1 k2 (by lia)]
  rfl)]
 rw [zk (env' := [.pers (.scr ns),.pers (.lst (hs.map .int)),.pers (.lst (B.map zv)),.pers (.int st),.pers (.lst (cs.map .int)),.pers (.lst (gs.map zh)),.pers (.int la),.pers (zd s),.pers (zd e),.own (out.map zd ++ [zd s]),.pers (.lst (out.map zd)),.pers (.lst ((revR gs).map zh)),.pers (.int k),.pers (.lst ((gs.map (slaG k)).map zh)),.pers (.lst ([slaS k s,slaS k e].map zd))]) (by
  rw [setS]
  show (((yi [.lst ([s,e].map zd),.int k]).bind _).bind _) = _
  rw [t8 k1 k2 (by simp)]
  rfl)]
 rw [zk (env' := [.pers (.scr ns),.pers (.lst (hs.map .int)),.pers (.lst (B.map zv)),.pers (.int st),.pers (.lst (cs.map .int)),.pers (.lst (gs.map zh)),.pers (.int la),.pers (zd s),.pers (zd e),.own (out.map zd ++ [zd s]),.pers (.lst (out.map zd)),.pers (.lst ((revR gs).map zh)),.pers (.int k),.pers (.lst ((gs.map (slaG k)).map zh)),.pers (.lst ([slaS k s,slaS k e].map zd))]) (by
  have c1 : fTrB (f2 gNe (zI zH (zm (f2 gIx (fVar 14) (fC (.int 0))) (zm (fVar 13) (zm (f2 gIx (fVar 14) (fC (.int 1))) (fNil))))) (zI yi (zm (fVar 10) (zm (fVar 12) (fNil))))) [.pers (.scr ns),.pers (.lst (hs.map .int)),.pers (.lst (B.map zv)),.pers (.int st),.pers (.lst (cs.map .int)),.pers (.lst (gs.map zh)),.pers (.int la),.pers (zd s),.pers (zd e),.own (out.map zd ++ [zd s]),.pers (.lst (out.map zd)),.pers (.lst ((revR gs).map zh)),.pers (.int k),.pers (.lst ((gs.map (slaG k)).map zh)),.pers (.lst ([slaS k s,slaS k e].map zd))] = .ok false := by
   have hs1 : zI yi (zm (fVar 10) (zm (fVar 12) (fNil))) [.pers (.scr ns),.pers (.lst (hs.map .int)),.pers (.lst (B.map zv)),.pers (.int st),.pers (.lst (cs.map .int)),.pers (.lst (gs.map zh)),.pers (.int la),.pers (zd s),.pers (zd e),.own (out.map zd ++ [zd s]),.pers (.lst (out.map zd)),.pers (.lst ((revR gs).map zh)),.pers (.int k),.pers (.lst ((gs.map (slaG k)).map zh)),.pers (.lst ([slaS k s,slaS k e].map zd))] = .ok (.fresh ((out.map (slaS k)).map zd)) := by
    show ((yi [.lst (out.map zd),.int k]).bind _) = _
    rw [t8 k1 k2 (by lia)]
    rfl
   rw [fTrB,zO (zft (a := zd (slaS k s)) (b := .lst ((gs.map (slaG k)).map zh)) (c := zd (slaS k e)) (v := (out.map (slaS k)).map zd) rfl (.inl rfl) rfl q2) hs1]
   show ((gNe (.lst ((out.map (slaS k)).map zd)) (.lst ((out.map (slaS k)).map zd))).bind _) = _
   rw [zaL]
   rfl
  simp only [zeZ,ifS,c1,zi]
  rfl)]
 rw [zk (env' := [.pers (.scr ns),.pers (.lst (hs.map .int)),.pers (.lst (B.map zv)),.pers (.int st),.pers (.lst (cs.map .int)),.pers (.lst (gs.map zh)),.pers (.int la),.pers (zd s),.pers (zd e),.own (out.map zd ++ [zd s]),.pers (.lst (out.map zd)),.pers (.lst ((revR gs).map zh)),.pers (.int k),.pers (.lst ((gs.map mirG).map zh)),.pers (.lst ([slaS k s,slaS k e].map zd))]) (by
  have hr : fItL (fVar 5) [.pers (.scr ns),.pers (.lst (hs.map .int)),.pers (.lst (B.map zv)),.pers (.int st),.pers (.lst (cs.map .int)),.pers (.lst (gs.map zh)),.pers (.int la),.pers (zd s),.pers (zd e),.own (out.map zd ++ [zd s]),.pers (.lst (out.map zd)),.pers (.lst ((revR gs).map zh)),.pers (.int k),.pers (.lst ((gs.map (slaG k)).map zh)),.pers (.lst ([slaS k s,slaS k e].map zd))] = .ok (gs.map zh) := rfl
  rw [setS,yq,hr,zi,if_pos (by rw [List.length_map]; lia)]
  show (((compD (gT [0,1,2,3]) fYes zdh (gs.map zh) [.un,.un,.un,.un]).bind _).bind _) = _
  rw [zgi]
  rfl)]
 have hc : yq [] 2 (fItL (fVar 10)) (gT [0,1]) (fYes) (zbJ) [.pers (.scr ns),.pers (.lst (hs.map .int)),.pers (.lst (B.map zv)),.pers (.int st),.pers (.lst (cs.map .int)),.pers (.lst (gs.map zh)),.pers (.int la),.pers (zd s),.pers (zd e),.own (out.map zd ++ [zd s]),.pers (.lst (out.map zd)),.pers (.lst ((revR gs).map zh)),.pers (.int k),.pers (.lst ((gs.map mirG).map zh)),.pers (.lst ([slaS k s,slaS k e].map zd))] = .ok (.fresh ((out.map mirS).map zd)) := by
  have hr : fItL (fVar 10) [.pers (.scr ns),.pers (.lst (hs.map .int)),.pers (.lst (B.map zv)),.pers (.int st),.pers (.lst (cs.map .int)),.pers (.lst (gs.map zh)),.pers (.int la),.pers (zd s),.pers (zd e),.own (out.map zd ++ [zd s]),.pers (.lst (out.map zd)),.pers (.lst ((revR gs).map zh)),.pers (.int k),.pers (.lst ((gs.map mirG).map zh)),.pers (.lst ([slaS k s,slaS k e].map zd))] = .ok (out.map zd) := rfl
  rw [yq,hr,zi,if_pos (by rw [List.length_map]; lia)]
  show ((compD (gT [0,1]) fYes zbJ (out.map zd) [.un,.un]).bind _) = _
  rw [zeM]
  rfl
 have h0 : fTup (zw (f2 gSub (fC (.int 0)) (f2 gIx (fVar 7) (fC (.int 0)))) (zw (f2 gIx (fVar 7) (fC (.int 1))) (hNil))) [.pers (.scr ns),.pers (.lst (hs.map .int)),.pers (.lst (B.map zv)),.pers (.int st),.pers (.lst (cs.map .int)),.pers (.lst (gs.map zh)),.pers (.int la),.pers (zd s),.pers (zd e),.own (out.map zd ++ [zd s]),.pers (.lst (out.map zd)),.pers (.lst ((revR gs).map zh)),.pers (.int k),.pers (.lst ((gs.map mirG).map zh)),.pers (.lst ([slaS k s,slaS k e].map zd))] = .ok (.pers (zd (mirS s))) := by
  show Out.ok (Val.pers (.tup [.int (0 - s.1),.int s.2])) = _
  rw [Int.zero_sub]
  rfl
 have h1 : fTup (zw (f2 gSub (fC (.int 0)) (f2 gIx (fVar 8) (fC (.int 0)))) (zw (f2 gIx (fVar 8) (fC (.int 1))) (hNil))) [.pers (.scr ns),.pers (.lst (hs.map .int)),.pers (.lst (B.map zv)),.pers (.int st),.pers (.lst (cs.map .int)),.pers (.lst (gs.map zh)),.pers (.int la),.pers (zd s),.pers (zd e),.own (out.map zd ++ [zd s]),.pers (.lst (out.map zd)),.pers (.lst ((revR gs).map zh)),.pers (.int k),.pers (.lst ((gs.map mirG).map zh)),.pers (.lst ([slaS k s,slaS k e].map zd))] = .ok (.pers (zd (mirS e))) := by
  show Out.ok (Val.pers (.tup [.int (0 - e.1),.int e.2])) = _
  rw [Int.zero_sub]
  rfl
 rw [retS,zO (zft (a := zd (mirS s)) (b := .lst ((gs.map mirG).map zh)) (c := zd (mirS e)) (v := (out.map mirS).map zd) h0 (.inl rfl) h1 q3) hc]
 show ((gEq (.lst ((out.map mirS).map zd)) (.lst ((out.map mirS).map zd))).bind _) = _
 rw [ze7]
 rfl
theorem main : ∀ ns : List Int,ns.length ≤ 63 → runD 15 zaU [.scr ns] = .ok (.pers (.bl true)) := by
 intro ns hns
 obtain ⟨hs,h14,en⟩ := zdJ hns
 obtain ⟨ps,⟨pn,pl,pr⟩,ep⟩ := zhE h14
 have el := zgn (ps := ps) (by lia)
 have bok := zgH pn
 have hbi : ∀ l ∈ wD ps,(∃ i : Int,l.1 = 2 * i ∧ 0 ≤ i ∧ i ≤ 3) ∧ ∀ y ∈ l.2,0 ≤ y ∧ y ≤ 12 := fun l hl => by
  obtain ⟨⟨p,hp,e⟩,h⟩ := zgI hl
  refine ⟨?_,fun y hy => (pr _ (h y hy)).2⟩
  obtain ⟨i,hi,h1,h2⟩ := (pr p hp).1
  exact ⟨i,by rw [← e]; exact hi,h1,h2⟩
 generalize wD ps = B at el bok hbi
 have at14 : ∀ j : Nat,(hj : j < 14) → atI (hs.map D.int) (j : Int) = some (.int (hs[j]'(by lia))) := fun j hj => by
  rw [wE (by rw [List.length_map]; lia),List.getElem_map]
 have a8 := at14 8 (by lia)
 have a12 := at14 12 (by lia)
 have a13 := at14 13 (by lia)
 generalize (hs[8]'(by lia)) = u8 at a8
 generalize (hs[12]'(by lia)) = u12 at a12
 generalize (hs[13]'(by lia)) = u13 at a13
 obtain ⟨st,est,st0,st1⟩ : ∃ st : Int,st = u8 % ((B.length : Int) + 1) ∧ 0 ≤ st ∧ st ≤ B.length := by
  have h1 := Int.emod_nonneg u8 (b := (B.length : Int) + 1) (by lia)
  have h2 := Int.emod_lt_of_pos u8 (b := (B.length : Int) + 1) (by lia)
  exact ⟨_,rfl,h1,by lia⟩
 have cells : ∃ cs : List Int,cs.length ≤ 63 ∧ (cs ≠ [] → 0 < B.length) ∧ zdc [.pers (.scr ns),.pers (.lst (hs.map .int)),.pers (.lst (B.map zv)),.pers (.int st),.pers (.lst []),.un,.un,.un,.un,.un,.un,.un,.un,.un,.un] = .ok (.next [.pers (.scr ns),.pers (.lst (hs.map .int)),.pers (.lst (B.map zv)),.pers (.int st),.pers (.lst (cs.map .int)),.un,.un,.un,.un,.un,.un,.un,.un,.un,.un]) := by
  have c : fTrB (f2 gNe (fVar 2) (fLst (hNil))) [.pers (.scr ns),.pers (.lst (hs.map .int)),.pers (.lst (B.map zv)),.pers (.int st),.pers (.lst []),.un,.un,.un,.un,.un,.un,.un,.un,.un,.un] = .ok (!decide (B = [])) := by
   rw [fTrB,zO (x := .pers (.lst (B.map zv))) (y := .fresh []) rfl rfl]
   show ((gNe (.lst (B.map zv)) (.lst [])).bind _) = _
   rw [zbt]
   rfl
  by_cases z : B = []
  ·rw [decide_eq_true z] at c
   refine ⟨[],by simp,fun w => absurd rfl w,?_⟩
   rw [zdc,ifS,c,zi,if_neg (by decide)]
   rfl
  ·rw [decide_eq_false z] at c
   obtain ⟨m,hm,em⟩ := zgz ns (some 2) (some 26)
   obtain ⟨cs,hcs,ec⟩ := zgC m
   refine ⟨cs,by lia,fun _ => List.length_pos_iff.mpr z,?_⟩
   have hi : fItL (fSlS (fVar 0) (fSo (fC (.int 2))) (fSo (fC (.int 26)))) [.pers (.scr ns),.pers (.lst (hs.map .int)),.pers (.lst (B.map zv)),.pers (.int st),.pers (.lst []),.un,.un,.un,.un,.un,.un,.un,.un,.un,.un] = .ok (m.map .int) := by
    show Out.ok (cutD (ns.map D.int) (some 2) (some 26)) = _
    rw [em]
   rw [zdc,ifS,c,zi,if_pos (by decide),setS,yq,hi,zi,if_pos (by rw [List.length_map]; lia)]
   show (((compD (gN 0) fYes zdj (m.map .int) [.un]).bind _).bind _) = _
   rw [ec]
   rfl
 obtain ⟨cs,hcs,hcB,ec⟩ := cells
 obtain ⟨gs,pth,red,glen,la0,la1,er⟩ := ziz (B := B) (st := st) (cs := cs) hcB st0 st1 (by lia)
 obtain ⟨s,sr,es⟩ := zec (a := st) (n := u12) (fun l hl => (hbi l hl).1) st0
 obtain ⟨e,er2,ee⟩ := zec (a := st + sumG gs) (n := u13) (fun l hl => (hbi l hl).1) la0
 generalize hla : st + sumG gs = la at er ee
 have R : RowR gs s e := by
  refine ⟨zau bok gs st pth red,fun g hg => ?_,fun g hg => ?_,by lia,fun g hg => ?_,⟨sr.1,sr.2.1⟩,⟨er2.1,er2.2.1⟩⟩
  ·obtain ⟨h',k⟩ := uq pth hg
   exact k.way
  ·obtain ⟨h',k⟩ := uq pth hg
   exact k.ok bok
  ·obtain ⟨h',l,⟨gx,j,_,glo,ghi⟩,i,hi,_⟩ := uq pth hg
   have hm : l ∈ B := List.mem_of_getElem? hi
   obtain ⟨⟨x,hx,x0,x3⟩,hy⟩ := hbi l hm
   refine ⟨by lia,fun q => sr.2.2 l hm (by rw [← q,gx]),fun q => er2.2.2 l hm (by rw [← q,gx]),fun y h => ?_⟩
   rcases h with h | h
   ·rw [glo] at h
    by_cases z : j = 0
    ·rw [if_pos z] at h; cases h
    ·rw [if_neg z] at h
     exact hy y (List.mem_of_getElem? h)
   ·rw [ghi] at h
    exact hy y (List.mem_of_getElem? h)
 show ((zaU [.pers (.scr ns),.un,.un,.un,.un,.un,.un,.un,.un,.un,.un,.un,.un,.un,.un]).bind _) = _
 have hf : zaU [.pers (.scr ns),.un,.un,.un,.un,.un,.un,.un,.un,.un,.un,.un,.un,.un,.un] = .ok (.ret (.pers (.bl true))) := by
  unfold zaU
  rw [zk (env' := [.pers (.scr ns),.pers (.lst (hs.map .int)),.un,.un,.un,.un,.un,.un,.un,.un,.un,.un,.un,.un,.un]) (by
   rw [setS]
   show (((xS [.scr ns,.int 14]).bind _).bind _) = _
   rw [en]
   rfl)]
  rw [zk (env' := [.pers (.scr ns),.pers (.lst (hs.map .int)),.pers (.lst (B.map zv)),.un,.un,.un,.un,.un,.un,.un,.un,.un,.un,.un,.un]) (by
   have hp : zI uQ (zm (fVar 1) (fNil)) [.pers (.scr ns),.pers (.lst (hs.map .int)),.un,.un,.un,.un,.un,.un,.un,.un,.un,.un,.un,.un,.un] = .ok (.fresh (ps.map zd)) := by
    show ((uQ [.lst (hs.map .int)]).bind _) = _
    rw [ep]
    rfl
   rw [setS,zI,zm,hp,zi,fNil]
   show (((vH [.lst (ps.map zd)]).bind _).bind _) = _
   rw [el]
   rfl)]
  rw [zk (env' := [.pers (.scr ns),.pers (.lst (hs.map .int)),.pers (.lst (B.map zv)),.pers (.int st),.un,.un,.un,.un,.un,.un,.un,.un,.un,.un,.un]) (by
   have hl : f2 gAdd (fB gLen (zm (fVar 2) (fNil))) (fC (.int 1)) [.pers (.scr ns),.pers (.lst (hs.map .int)),.pers (.lst (B.map zv)),.un,.un,.un,.un,.un,.un,.un,.un,.un,.un,.un,.un] = .ok (.pers (.int ((B.length : Int) + 1))) := by
    show Out.ok (Val.pers (.int (((B.map zv).length : Int) + 1))) = _
    rw [List.length_map]
   rw [setS,zO (x := .pers (.int u8)) (by
    rw [zO (x := .pers (.lst (hs.map .int))) (y := .pers (.int 8)) rfl rfl]
    exact vp a8) hl]
   show ((gMod (.int u8) (.int ((B.length : Int) + 1))).bind _) = _
   rw [wW (by lia),est]
   rfl)]
  rw [zk (env' := [.pers (.scr ns),.pers (.lst (hs.map .int)),.pers (.lst (B.map zv)),.pers (.int st),.pers (.lst []),.un,.un,.un,.un,.un,.un,.un,.un,.un,.un]) rfl]
  rw [zk ec]
  rw [zk (env' := [.pers (.scr ns),.pers (.lst (hs.map .int)),.pers (.lst (B.map zv)),.pers (.int st),.pers (.lst (cs.map .int)),.pers (.lst (gs.map zh)),.pers (.int la),.un,.un,.un,.un,.un,.un,.un,.un]) (by
   rw [asgS]
   show (((zdL [.lst (B.map zv),.int st,.lst (cs.map .int)]).bind _).bind _) = _
   rw [er]
   rfl)]
  rw [zk (env' := [.pers (.scr ns),.pers (.lst (hs.map .int)),.pers (.lst (B.map zv)),.pers (.int st),.pers (.lst (cs.map .int)),.pers (.lst (gs.map zh)),.pers (.int la),.pers (zd s),.un,.un,.un,.un,.un,.un,.un]) (by
   have h12 : f2 gIx (fVar 1) (fC (.int 12)) [.pers (.scr ns),.pers (.lst (hs.map .int)),.pers (.lst (B.map zv)),.pers (.int st),.pers (.lst (cs.map .int)),.pers (.lst (gs.map zh)),.pers (.int la),.un,.un,.un,.un,.un,.un,.un,.un] = .ok (.pers (.int u12)) := by
    rw [zO (x := .pers (.lst (hs.map .int))) (y := .pers (.int 12)) rfl rfl]
    exact vp a12
   have v2 : fVar 2 [.pers (.scr ns),.pers (.lst (hs.map .int)),.pers (.lst (B.map zv)),.pers (.int st),.pers (.lst (cs.map .int)),.pers (.lst (gs.map zh)),.pers (.int la),.un,.un,.un,.un,.un,.un,.un,.un] = .ok (.pers (.lst (B.map zv))) := rfl
   have v3 : fVar 3 [.pers (.scr ns),.pers (.lst (hs.map .int)),.pers (.lst (B.map zv)),.pers (.int st),.pers (.lst (cs.map .int)),.pers (.lst (gs.map zh)),.pers (.int la),.un,.un,.un,.un,.un,.un,.un,.un] = .ok (.pers (.int st)) := rfl
   rw [setS,zI,zm,v2,zi,zm,v3,zi,zm,h12,zi,fNil]
   show (((vW [.lst (B.map zv),.int st,.int u12]).bind _).bind _) = _
   rw [es]
   rfl)]
  rw [zk (env' := [.pers (.scr ns),.pers (.lst (hs.map .int)),.pers (.lst (B.map zv)),.pers (.int st),.pers (.lst (cs.map .int)),.pers (.lst (gs.map zh)),.pers (.int la),.pers (zd s),.pers (zd e),.un,.un,.un,.un,.un,.un]) (by
   have h13 : f2 gIx (fVar 1) (fC (.int 13)) [.pers (.scr ns),.pers (.lst (hs.map .int)),.pers (.lst (B.map zv)),.pers (.int st),.pers (.lst (cs.map .int)),.pers (.lst (gs.map zh)),.pers (.int la),.pers (zd s),.un,.un,.un,.un,.un,.un,.un] = .ok (.pers (.int u13)) := by
    rw [zO (x := .pers (.lst (hs.map .int))) (y := .pers (.int 13)) rfl rfl]
    exact vp a13
   have v2 : fVar 2 [.pers (.scr ns),.pers (.lst (hs.map .int)),.pers (.lst (B.map zv)),.pers (.int st),.pers (.lst (cs.map .int)),.pers (.lst (gs.map zh)),.pers (.int la),.pers (zd s),.un,.un,.un,.un,.un,.un,.un] = .ok (.pers (.lst (B.map zv))) := rfl
   have v6 : fVar 6 [.pers (.scr ns),.pers (.lst (hs.map .int)),.pers (.lst (B.map zv)),.pers (.int st),.pers (.lst (cs.map .int)),.pers (.lst (gs.map zh)),.pers (.int la),.pers (zd s),.un,.un,.un,.un,.un,.un,.un] = .ok (.pers (.int la)) := rfl
   rw [setS,zI,zm,v2,zi,zm,v6,zi,zm,h13,zi,fNil]
   show (((vW [.lst (B.map zv),.int la,.int u13]).bind _).bind _) = _
   rw [ee]
   rfl)]
  exact zhV h14 R
 rw [hf]
 rfl
end My
namespace My
open PySem PySem.Spec PyProof.Rows L2 DL
noncomputable def top (i : Nat) : Stmt := PySem.Challenge.pw_tautline_k32_pulled_from_the_other_end.main.body.getD i (.Pass ⟨0,0,0,0⟩)
noncomputable abbrev vi : Stmt := top 14
theorem zac : FnScope ["_law_script","_law_many","_law_found","_law_k","_law_cell","_law_at"] ["_law_script","_law_many"] (defScope vi) := ⟨rfl,rfl,rfl,by decide +kernel,rfl,by decide +kernel,by decide +kernel⟩
noncomputable abbrev zaB : Stmt := top 16
theorem zcO : FnScope ["_law_pegs_here","_law_found","_law_x"] ["_law_pegs_here"] (defScope zaB) := ⟨rfl,rfl,rfl,by decide +kernel,rfl,by decide +kernel,by decide +kernel⟩
noncomputable abbrev zcQ : Stmt := top 15
theorem zel : FnScope ["_law_head","_law_found","_law_way","_law_k","_law_number","_law_peg"] ["_law_head"] (defScope zcQ) := ⟨rfl,rfl,rfl,by decide +kernel,rfl,by decide +kernel,by decide +kernel⟩
noncomputable abbrev zcR : Stmt := top 17
theorem zem : FnScope ["_law_line","_law_number","_law_way","_law_x","_law_heights","_law_at","_law_low","_law_high"] ["_law_line","_law_number","_law_way"] (defScope zcR) := ⟨rfl,rfl,rfl,by decide +kernel,rfl,by decide +kernel,by decide +kernel⟩
noncomputable abbrev zfY : Stmt := top 18
theorem zgQ : FnScope ["_law_lines_here","_law_start","_law_cells","_law_found","_law_at","_law_cell","_law_way","_law_gate_here"] ["_law_lines_here","_law_start","_law_cells"] (defScope zfY) := ⟨rfl,rfl,rfl,by decide +kernel,rfl,by decide +kernel,by decide +kernel⟩
noncomputable abbrev zcP : Stmt := top 19
theorem zek : FnScope ["_law_lines_here","_law_at","_law_number"] ["_law_lines_here","_law_at","_law_number"] (defScope zcP) := ⟨rfl,rfl,rfl,by decide +kernel,rfl,by decide +kernel,by decide +kernel⟩
noncomputable abbrev y0 : Stmt := top 11
theorem wp : FnScope ["pegs","kept","peg"] ["pegs"] (defScope y0) := ⟨rfl,rfl,rfl,by decide +kernel,rfl,by decide +kernel,by decide +kernel⟩
noncomputable abbrev y9 : Stmt := top 7
theorem wt : FnScope ["gate","later"] ["gate","later"] (defScope y9) := ⟨rfl,rfl,rfl,by decide +kernel,rfl,by decide +kernel,by decide +kernel⟩
noncomputable abbrev yF : Stmt := top 6
theorem xR : FnScope ["gate","later","x"] ["gate","later"] (defScope yF) := ⟨rfl,rfl,rfl,by decide +kernel,rfl,by decide +kernel,by decide +kernel⟩
noncomputable abbrev x5 : Stmt := top 1
theorem vU : FnScope ["board","stretch","start","end"] ["board","stretch"] (defScope x5) := ⟨rfl,rfl,rfl,by decide +kernel,rfl,by decide +kernel,by decide +kernel⟩
noncomputable abbrev x4 : Stmt := top 2
theorem vT : FnScope ["stretch","peg","start","end","across","turn"] ["stretch","peg"] (defScope x4) := ⟨rfl,rfl,rfl,by decide +kernel,rfl,by decide +kernel,by decide +kernel⟩
noncomputable abbrev yO : Stmt := top 10
theorem wc : FnScope ["stretch","gate","told","low","high"] ["stretch","gate"] (defScope yO) := ⟨rfl,rfl,rfl,by decide +kernel,rfl,by decide +kernel,by decide +kernel⟩
noncomputable abbrev yc : Stmt := top 9
theorem xk : FnScope ["stretch","run","farthest","most","gate","beyond","peg"] ["stretch","run"] (defScope yc) := ⟨rfl,rfl,rfl,by decide +kernel,rfl,by decide +kernel,by decide +kernel⟩
noncomputable abbrev y8 : Stmt := top 8
theorem wq : FnScope ["start","run","goal","reached","goals","peg"] ["start","run","goal"] (defScope y8) := ⟨rfl,rfl,rfl,by decide +kernel,rfl,by decide +kernel,by decide +kernel⟩
noncomputable abbrev xZ : Stmt := top 5
theorem vS : FnScope ["start","row","end","spots","run","gate","turn"] ["start","row","end"] (defScope xZ) := ⟨rfl,rfl,rfl,by decide +kernel,rfl,by decide +kernel,by decide +kernel⟩
noncomputable abbrev yN : Stmt := top 12
theorem wb : FnScope ["one","middle","other","across","up","next_across","next_up"] ["one","middle","other"] (defScope yN) := ⟨rfl,rfl,rfl,by decide +kernel,rfl,by decide +kernel,by decide +kernel⟩
noncomputable abbrev wH : Stmt := top 4
theorem uH : FnScope ["start","row","end","way","bends"] ["start","row","end"] (defScope wH) := ⟨rfl,rfl,rfl,by decide +kernel,rfl,by decide +kernel,by decide +kernel⟩
noncomputable abbrev xn : Stmt := top 21
theorem wT : FnScope ["_law_row_here","_law_by","_law_found","_law_x","_law_low","_law_high","_law_way"] ["_law_row_here","_law_by"] (defScope xn) := ⟨rfl,rfl,rfl,by decide +kernel,rfl,by decide +kernel,by decide +kernel⟩
noncomputable abbrev vh : Stmt := top 20
theorem zab : FnScope ["_law_spots","_law_by"] ["_law_spots","_law_by"] (defScope vh) := ⟨rfl,rfl,rfl,by decide +kernel,rfl,by decide +kernel,by decide +kernel⟩
noncomputable abbrev zb4 : Stmt := top 22
theorem zgR : FnScope ["_law_script","_law_head","_law_board","_law_first","_law_cells","_law_row_here","_law_last","_law_start","_law_end","_law_found","_law_kept","_law_other","_law_by","_law_others","_law_ends"] ["_law_script"] (defScope zb4) := ⟨rfl,rfl,rfl,by decide +kernel,rfl,by decide +kernel,by decide +kernel⟩
section
variable (P : Program) (w : World) (K : PySem.W.Frag) (mg : Str → Option Value) (base : Heap) (k : Nat)
noncomputable abbrev tP : Prop := Cal P w K mg base k "_law_numbers" ["_law_script","_law_many"] xS
noncomputable abbrev zcE : Prop := Cal P w K mg base k "_law_lines" ["_law_pegs_here"] vH
noncomputable abbrev zfJ : Prop := Cal P w K mg base k "_law_pegs" ["_law_head"] uQ
noncomputable abbrev zfK : Prop := Cal P w K mg base k "_law_gate" ["_law_line","_law_number","_law_way"] zag
noncomputable abbrev zii : Prop := Cal P w K mg base k "_law_row" ["_law_lines_here","_law_start","_law_cells"] zdL
noncomputable abbrev zfI : Prop := Cal P w K mg base k "_law_spot" ["_law_lines_here","_law_at","_law_number"] vW
noncomputable abbrev xN : Prop := Cal P w K mg base k "unrepeated" ["pegs"] zW
noncomputable abbrev xP : Prop := Cal P w K mg base k "lies_below" ["gate","later"] zX
noncomputable abbrev xj : Prop := Cal P w K mg base k "turning_pegs" ["gate","later"] zP
noncomputable abbrev ve : Prop := Cal P w K mg base k "crossed" ["board","stretch"] yk
noncomputable abbrev vd : Prop := Cal P w K mg base k "side_of" ["stretch","peg"] yH
noncomputable abbrev xC : Prop := Cal P w K mg base k "pegs_beyond" ["stretch","gate"] zN
noncomputable abbrev yJ : Prop := Cal P w K mg base k "farthest_beyond" ["stretch","run"] zJ
noncomputable abbrev xO : Prop := Cal P w K mg base k "run_pulled" ["start","run","goal"] zK
noncomputable abbrev vc : Prop := Cal P w K mg base k "touched" ["start","row","end"] yj
noncomputable abbrev xB : Prop := Cal P w K mg base k "straight_on" ["one","middle","other"] zQ
noncomputable abbrev vR : Prop := Cal P w K mg base k "pulled" ["start","row","end"] zH
noncomputable abbrev wa : Prop := Cal P w K mg base k "_law_slanted_row" ["_law_row_here","_law_by"] yd
noncomputable abbrev tN : Prop := Cal P w K mg base k "_law_slanted" ["_law_spots","_law_by"] yi
end
section
variable {P : Program} {w : World} {K : PySem.W.Frag} {mg : Str → Option Value} {base : Heap} {k : Nat} {f : Addr} {fd : FuncData}
theorem zcu (F : Fun K "_law_numbers" "_law_numbers" vi f fd) (hm : mg "_law_numbers" = some (.ref f))  (b_range : mg "range" = none) (b_len : mg "len" = none) (b_min : mg "min" = none) (b_max : mg "max" = none) : tP P w K mg base (k + 1) := by
 have nd := (zac).nd
 exact Cal.imp (m := runD 6 wA) ⟨f,fd,xU (N := ["_law_script","_law_many","_law_found","_law_k","_law_cell","_law_at"]) F zac fun cdv A outer s G H E hr =>
  zl ((by first | exact tq (i := 2) false nd (cap := []) (own := ["_law_k"]) ⟨rfl,by decide +kernel,by decide +kernel,rfl,rfl⟩ (vy b_range (zo (zf (pv 1)) (zF))) (fun _ _ _ => yI (i := 0) (show (["_law_k"] : List Str).Nodup from by decide +kernel)) (xf 0) (fun _ _ _ => xx) (fun _ _ _ => zj) | exact zz (i := 2) false nd (xz (cap := []) (own := ["_law_k"]) ⟨rfl,by decide +kernel,by decide +kernel,rfl,rfl⟩ (vy b_range (zo (zf (pv 1)) (zF))) (fun _ _ _ => yI (i := 0) (show (["_law_k"] : List Str).Nodup from by decide +kernel)) (xf 0) (fun _ _ _ => xx) (fun _ _ _ => zj))))
  (zl (vx PassesOwn.never (vy b_range (zo (yw (zfr rfl) zia b_max boot_max (zo (zf (pv 1)) (zo (yw (tz rfl) zcq b_min boot_min (zo (yw yb vZ b_len PySem.boot_len (zo (zf (pv 0)) (zF))) (zo (zj) (zF)))) (zF)))) (zF))) (yI (i := 3) nd)
  (zl (zz (i := 4) true nd (zj))
  (zl (xy (zfd (yw yb vZ b_len PySem.boot_len (zo (zf (pv 0)) (zF))) (zj))
  (zx (zz (i := 4) true nd (yE (zD (zf (pv 0)) (yE (zf (pv 3)) (yw (tz rfl) zcq b_min boot_min (zo (yw yb vZ b_len PySem.boot_len (zo (zf (pv 0)) (zF))) (zo (zj) (zF)))))) (yS (zdk (zj) (zj)) (zj)))))
  (zY))
  (zl (zz (i := 5) true nd (yE (zf (pv 3)) (zf (pv 1))))
  (zx (zjt (pv 2) (zf (pv 5)) (yE (yS (yS (xG (zD (zf (pv 2)) (zf (pv 5))) (zj)) (zf (pv 4))) (xG (zf (pv 3)) (zf (pv 3)))) (yS (zdk (zj) (zj)) (zj)))))))))
  (zx (z9 (zf (pv 2))))),hm,F.kp,F.binds (ps := ["_law_script","_law_many"]) fun _ _ _ _ _ _ us hl => match us,hl with | [_,_],_ => rfl⟩ zbs
theorem zfu (F : Fun K "_law_lines" "_law_lines" zaB f fd) (hm : mg "_law_lines" = some (.ref f))  (b_sorted : mg "sorted" = none) (b_set : mg "set" = none) : zcE P w K mg base (k + 1) := by
 have nd := (zcO).nd
 exact Cal.imp (m := runD 3 u9) ⟨f,fd,xU (N := ["_law_pegs_here","_law_found","_law_x"]) F zcO fun cdv A outer s G H E hr =>
  zl (zz (i := 1) false nd (yL (zE)))
  (zl (vx PassesOwn.never (yx (zbN (xz (cap := []) (own := ["_law_peg"]) ⟨rfl,by decide +kernel,by decide +kernel,rfl,rfl⟩ (yx (zf (pv 0))) (fun _ _ _ => yI (i := 0) (show (["_law_peg"] : List Str).Nodup from by decide +kernel)) (xf 0) (fun _ _ _ => xx) (fun _ _ _ => zD (zf (pv 0)) (zj))) b_sorted b_set)) (yI (i := 2) nd)
  (zx (yr (pv 1) (zT (zu (zf (pv 2)) (zu (yw zcs zfo b_sorted boot_sorted (zo (xz (cap := [2]) (own := ["_law_peg"]) ⟨rfl,by decide +kernel,by decide +kernel,rfl,rfl⟩ (yx (zf (pv 0))) (fun _ _ _ => yI (i := 1) (show (["_law_x","_law_peg"] : List Str).Nodup from by decide +kernel)) (xf 1) (fun _ _ _ => tm (zcm (hu20 hr) (zD (zf (pv 1)) (zj)) (zf (pv 0)))) (fun _ _ _ => zD (zf (pv 1)) (zj))) (zF))) (zE)))))))
  (zx (z9 (zf (pv 1))))),hm,F.kp,F.binds (ps := ["_law_pegs_here"]) fun _ _ _ _ _ _ us hl => match us,hl with | [_],_ => rfl⟩ zdK
theorem zgF (F : Fun K "_law_pegs" "_law_pegs" zcQ f fd) (hm : mg "_law_pegs" = some (.ref f))  (b_range : mg "range" = none) : zfJ P w K mg base (k + 1) := by
 have nd := (zel).nd
 exact Cal.imp (m := runD 6 zbH) ⟨f,fd,xU (N := ["_law_head","_law_found","_law_way","_law_k","_law_number","_law_peg"]) F zel fun cdv A outer s G H E hr =>
  zl (zz (i := 1) false nd (yL (zE)))
  (zl (zz (i := 2) true nd (yE (zD (zf (pv 0)) (zj)) (zj)))
  (zl (vx PassesOwn.never (vy b_range (zo (yE (zD (zf (pv 0)) (zj)) (zj)) (zF))) (yI (i := 3) nd)
  (zl (zz (i := 4) true nd (zD (zf (pv 0)) (yS (zj) (zf (pv 3)))))
  (zl (zz (i := 5) true nd (zT (zu (xG (zj) (yE (zf (pv 4)) (zj))) (zu (yE (zdl (zf (pv 4)) (zj)) (zj)) (zE)))))
  (zl (xy (zcm (hu20 hr) (zf (pv 2)) (zj))
  (zx (zz (i := 5) true nd (zT (zu (zj) (zu (yE (zf (pv 4)) (zj)) (zE))))))
  (zY))
  (zl (xy (zcm (hu20 hr) (zf (pv 2)) (zj))
  (zx (zz (i := 5) true nd (zT (zu (xG (zj) (yE (zf (pv 4)) (zj))) (zu (xG (zj) (yE (zdl (zf (pv 4)) (zj)) (zj))) (zE))))))
  (zY))
  (zx (xy (zjr (hu20 hr) (zf (pv 5)) (zf (pv 1)))
  (zx (yr (pv 1) (zf (pv 5))))
  (zY))))))))
  (zx (z9 (zf (pv 1)))))),hm,F.kp,F.binds (ps := ["_law_head"]) fun _ _ _ _ _ _ us hl => match us,hl with | [_],_ => rfl⟩ zeH
theorem zgG (F : Fun K "_law_gate" "_law_gate" zcR f fd) (hm : mg "_law_gate" = some (.ref f))  (b_len : mg "len" = none) : zfK P w K mg base (k + 1) := by
 have nd := (zem).nd
 exact Cal.imp (m := runD 8 zbI) ⟨f,fd,xU (N := ["_law_line","_law_number","_law_way","_law_x","_law_heights","_law_at","_law_low","_law_high"]) F zem fun cdv A outer s G H E hr =>
  zl (zg8 (zf (pv 0)) (wj rfl (zA (i := 3) nd (zA (i := 4) nd (xi)))))
  (zl (zz (i := 5) true nd (yE (zf (pv 1)) (yS (yw yb vZ b_len PySem.boot_len (zo (zf (pv 4)) (zF))) (zj))))
  (zl (zz (i := 6) true nd (wZ))
  (zl (zz (i := 7) true nd (wZ))
  (zl (xy (zfd (zf (pv 5)) (zj))
  (zx (zz (i := 6) true nd (zD (zf (pv 4)) (ya (zf (pv 5)) (zj)))))
  (zY))
  (zl (xy (zh3 (zf (pv 5)) (yw yb vZ b_len PySem.boot_len (zo (zf (pv 4)) (zF))))
  (zx (zz (i := 7) true nd (zD (zf (pv 4)) (zf (pv 5)))))
  (zY))
  (zx (z9 (zT (zu (zf (pv 3)) (zu (zf (pv 6)) (zu (zf (pv 7)) (zu (zf (pv 2)) (zE))))))))))))),hm,F.kp,F.binds (ps := ["_law_line","_law_number","_law_way"]) fun _ _ _ _ _ _ us hl => match us,hl with | [_,_,_],_ => rfl⟩ zeI
theorem zib (F : Fun K "_law_row" "_law_row" zfY f fd) (hm : mg "_law_row" = some (.ref f)) (c_gate : zfK P w K mg base k) (b_len : mg "len" = none) (b_int : mg "int" = none) (b_min : mg "min" = none) : zii P w K mg base (k + 1) := by
 have nd := (zgQ).nd
 exact Cal.imp (m := runD 8 ze5) ⟨f,fd,xU (N := ["_law_lines_here","_law_start","_law_cells","_law_found","_law_at","_law_cell","_law_way","_law_gate_here"]) F zgQ fun cdv A outer s G H E hr =>
  zl (zz (i := 3) false nd (yL (zE)))
  (zl (zz (i := 4) true nd (zf (pv 1)))
  (zl (vx PassesOwn.never (yx (zf (pv 2))) (yI (i := 5) nd)
  (zl (zz (i := 6) true nd (zj))
  (zl (xy (dt_w (zh2 (zcm (hu20 hr) (zf (pv 4)) (yw yb vZ b_len PySem.boot_len (zo (zf (pv 0)) (zF)))) (ze9 (dt_w (zfa (zfd (zf (pv 4)) (zj)) (zck (zcm (hu20 hr) (yE (zf (pv 5)) (zj)) (zj))))))))
  (zx (zz (i := 6) true nd (xW (zj))))
  (zY))
  (zl (zz (i := 7) true nd (zZ c_gate hr (zo (zD (zf (pv 0)) (yw (tz rfl) zcq b_min boot_min (zo (zf (pv 4)) (zo (ya (yS (zf (pv 4)) (zf (pv 6))) (ut zfs zjy b_int boot_int (zo (zh5 (hu20 hr) (zf (pv 6)) (zj)) (zF)))) (zF))))) (zo (zdl (zf (pv 5)) (zj)) (zo (zf (pv 6)) (zF)))) (zq (zq (zq (zM))))))
  (zl (zz (i := 4) true nd (yS (zf (pv 4)) (zf (pv 6))))
  (zx (xy (dt_w (zfa (zcl (hu20 hr) (zf (pv 3)) (yL (zE))) (zck (zcm (hu20 hr) (zD (zf (pv 3)) (xW (zj))) (zh7 (zcn (zf (pv 7)) (vL) (xh (zj))) (zT (zu (ya (zj) (zf (pv 6))) (zE))))))))
  (zx (zju (pv 3)))
  (zx (yr (pv 3) (zf (pv 7)))))))))))
  (zh4 3 (zx (z9 (zT (zu (zf (pv 3)) (zu (zf (pv 4)) (zE))))))))),hm,F.kp,F.binds (ps := ["_law_lines_here","_law_start","_law_cells"]) fun _ _ _ _ _ _ us hl => match us,hl with | [_,_,_],_ => rfl⟩ zgd
theorem zgE (F : Fun K "_law_spot" "_law_spot" zcP f fd) (hm : mg "_law_spot" = some (.ref f))  (b_len : mg "len" = none) : zfI P w K mg base (k + 1) := by
 have nd := (zek).nd
 exact Cal.imp (m := runD 3 vX) ⟨f,fd,xU (N := ["_law_lines_here","_law_at","_law_number"]) F zek fun cdv A outer s G H E hr =>
  zl (xy (zcm (hu20 hr) (zf (pv 0)) (yL (zE)))
  (zx (z9 (zT (zu (yE (zf (pv 2)) (zj)) (zu (ya (yE (zdl (zf (pv 2)) (zj)) (zj)) (zj)) (zE))))))
  (zY))
  (zl (xy (zh3 (zf (pv 1)) (yw yb vZ b_len PySem.boot_len (zo (zf (pv 0)) (zF))))
  (zx (z9 (zT (zu (ya (zD (zD (zf (pv 0)) (zf (pv 1))) (zj)) (zj)) (zu (ya (yE (zf (pv 2)) (zj)) (zj)) (zE))))))
  (zY))
  (zx (z9 (zT (zu (yS (zD (zD (zf (pv 0)) (xW (zj))) (zj)) (zj)) (zu (ya (yE (zf (pv 2)) (zj)) (zj)) (zE))))))),hm,F.kp,F.binds (ps := ["_law_lines_here","_law_at","_law_number"]) fun _ _ _ _ _ _ us hl => match us,hl with | [_,_,_],_ => rfl⟩ zeG
theorem ud (F : Fun K "unrepeated" "unrepeated" y0 f fd) (hm : mg "unrepeated" = some (.ref f))   : xN P w K mg base (k + 1) := by
 have nd := (wp).nd
 exact Cal.imp (m := runD 3 yB) ⟨f,fd,xU (N := ["pegs","kept","peg"]) F wp fun cdv A outer s G H E hr =>
  zl (zz (i := 1) false nd (yL (zE)))
  (zl (vx PassesOwn.never (yx (zf (pv 0))) (yI (i := 2) nd)
  (zx (xy (dt_w (zh2 (zfc (zap (zf (pv 1)))) (ze9 (zcl (hu20 hr) (zD (zf (pv 1)) (xW (zj))) (zf (pv 2))))))
  (zx (yr (pv 1) (zf (pv 2))))
  (zY))))
  (zx (z9 (zf (pv 1))))),hm,F.kp,F.binds (ps := ["pegs"]) fun _ _ _ _ _ _ us hl => match us,hl with | [_],_ => rfl⟩ vE
theorem uh (F : Fun K "lies_below" "lies_below" y9 f fd) (hm : mg "lies_below" = some (.ref f))   : xP P w K mg base (k + 1) := by
 have nd := (wt).nd
 exact Cal.imp (m := runD 2 yD) ⟨f,fd,xU (N := ["gate","later"]) F wt fun cdv A outer s G H E hr =>
  zx (z9 (zfk (zfj (zD (zf (pv 0)) (zj)) (wZ)) (zfk (zfj (zD (zf (pv 1)) (zj)) (wZ)) (zha (de_le (zD (zf (pv 0)) (zj)) (zD (zf (pv 1)) (zj))))))),hm,F.kp,F.binds (ps := ["gate","later"]) fun _ _ _ _ _ _ us hl => match us,hl with | [_,_],_ => rfl⟩ vG
theorem vA (F : Fun K "turning_pegs" "turning_pegs" yF f fd) (hm : mg "turning_pegs" = some (.ref f)) (c_p_lies_below : xP P w K mg base k)  : xj P w K mg base (k + 1) := by
 have nd := (xR).nd
 exact Cal.imp (m := runD 3 yg) ⟨f,fd,xU (N := ["gate","later","x"]) F xR fun cdv A outer s G H E hr =>
  zl (zz (i := 2) true nd (zD (zf (pv 0)) (zj)))
  (zl (xy (zap (zZ c_p_lies_below hr (zo (zf (pv 0)) (zo (zf (pv 1)) (zF))) (zq (zq (zM)))))
  (zx (z9 (zT (zu (zT (zu (zf (pv 2)) (zu (zD (zf (pv 0)) (zj)) (zE)))) (zu (zT (zu (zf (pv 2)) (zu (zD (zf (pv 1)) (zj)) (zE)))) (zE))))))
  (zY))
  (zx (z9 (zT (zu (zT (zu (zf (pv 2)) (zu (zD (zf (pv 0)) (zj)) (zE)))) (zu (zT (zu (zf (pv 2)) (zu (zD (zf (pv 1)) (zj)) (zE)))) (zE))))))),hm,F.kp,F.binds (ps := ["gate","later"]) fun _ _ _ _ _ _ us hl => match us,hl with | [_,_],_ => rfl⟩ w8
theorem za3 (F : Fun K "crossed" "crossed" x5 f fd) (hm : mg "crossed" = some (.ref f))  (b_reversed : mg "reversed" = none) : ve P w K mg base (k + 1) := by
 have nd := (vU).nd
 exact Cal.imp (m := runD 4 yY) ⟨f,fd,xU (N := ["board","stretch","start","end"]) F vU fun cdv A outer s G H E hr =>
  zl (zz (i := 2) true nd (zD (zD (zf (pv 1)) (zj)) (zj)))
  (zl (zz (i := 3) true nd (zD (zD (zf (pv 1)) (zj)) (zj)))
  (zl (xy (zh3 (zf (pv 2)) (zf (pv 3)))
  (zx (z9 (xz (cap := [2,3]) (own := ["line"]) ⟨rfl,by decide +kernel,by decide +kernel,rfl,rfl⟩ (yx (zf (pv 0))) (fun _ _ _ => yI (i := 2) (show (["start","end","line"] : List Str).Nodup from by decide +kernel)) (xf 2) (fun _ _ _ => tm (zfe (zf (pv 0)) (zD (zf (pv 2)) (zj)) (zf (pv 1)))) (fun _ _ _ => zf (pv 2)))))
  (zY))
  (zx (z9 (xz (cap := [3,2]) (own := ["line"]) ⟨rfl,by decide +kernel,by decide +kernel,rfl,rfl⟩ (zfi b_reversed (zf (pv 0))) (fun _ _ _ => yI (i := 2) (show (["end","start","line"] : List Str).Nodup from by decide +kernel)) (xf 2) (fun _ _ _ => tm (zfe (zf (pv 0)) (zD (zf (pv 2)) (zj)) (zf (pv 1)))) (fun _ _ _ => zf (pv 2))))))),hm,F.kp,F.binds (ps := ["board","stretch"]) fun _ _ _ _ _ _ us hl => match us,hl with | [_,_],_ => rfl⟩ tV
theorem za2 (F : Fun K "side_of" "side_of" x4 f fd) (hm : mg "side_of" = some (.ref f))   : vd P w K mg base (k + 1) := by
 have nd := (vT).nd
 exact Cal.imp (m := runD 6 yX) ⟨f,fd,xU (N := ["stretch","peg","start","end","across","turn"]) F vT fun cdv A outer s G H E hr =>
  zl (zz (i := 2) true nd (zD (zf (pv 0)) (zj)))
  (zl (zz (i := 3) true nd (zD (zf (pv 0)) (zj)))
  (zl (zz (i := 4) true nd (ya (zD (zf (pv 3)) (zj)) (zD (zf (pv 2)) (zj))))
  (zl (zz (i := 5) true nd (ya (xG (zf (pv 4)) (ya (zD (zf (pv 1)) (zj)) (zD (zf (pv 2)) (zj)))) (xG (ya (zD (zf (pv 3)) (zj)) (zD (zf (pv 2)) (zj))) (ya (zD (zf (pv 1)) (zj)) (zD (zf (pv 2)) (zj))))))
  (zx (z9 (de_if (zfd (zf (pv 4)) (zj)) (zf (pv 5)) (xW (zf (pv 5))))))))),hm,F.kp,F.binds (ps := ["stretch","peg"]) fun _ _ _ _ _ _ us hl => match us,hl with | [_,_],_ => rfl⟩ tU
theorem vP (F : Fun K "pegs_beyond" "pegs_beyond" yO f fd) (hm : mg "pegs_beyond" = some (.ref f)) (c_p_side_of : vd P w K mg base k)  : xC P w K mg base (k + 1) := by
 have nd := (wc).nd
 exact Cal.imp (m := runD 5 yp) ⟨f,fd,xU (N := ["stretch","gate","told","low","high"]) F wc fun cdv A outer s G H E hr =>
  zl (zz (i := 2) false nd (yL (zE)))
  (zl (xy (zaZ (zD (zf (pv 1)) (zj)) (wZ))
  (zl (zz (i := 3) true nd (zT (zu (zD (zf (pv 1)) (zj)) (zu (zD (zf (pv 1)) (zj)) (zE)))))
  (zx (yr (pv 2) (zT (zu (zZ c_p_side_of hr (zo (zf (pv 0)) (zo (zf (pv 3)) (zF))) (zq (zq (zM)))) (zu (zf (pv 3)) (zE)))))))
  (zY))
  (zl (xy (zaZ (zD (zf (pv 1)) (zj)) (wZ))
  (zl (zz (i := 4) true nd (zT (zu (zD (zf (pv 1)) (zj)) (zu (zD (zf (pv 1)) (zj)) (zE)))))
  (zx (yr (pv 2) (zT (zu (xW (zZ c_p_side_of hr (zo (zf (pv 0)) (zo (zf (pv 4)) (zF))) (zq (zq (zM))))) (zu (zf (pv 4)) (zE)))))))
  (zY))
  (zx (z9 (zf (pv 2)))))),hm,F.kp,F.binds (ps := ["stretch","gate"]) fun _ _ _ _ _ _ us hl => match us,hl with | [_,_],_ => rfl⟩ vn
theorem wC (F : Fun K "farthest_beyond" "farthest_beyond" yc f fd) (hm : mg "farthest_beyond" = some (.ref f)) (c_p_crossed : ve P w K mg base k) (c_p_pegs_beyond : xC P w K mg base k)  : yJ P w K mg base (k + 1) := by
 have nd := (xk).nd
 exact Cal.imp (m := runD 7 zR) ⟨f,fd,xU (N := ["stretch","run","farthest","most","gate","beyond","peg"]) F xk fun cdv A outer s G H E hr =>
  zl (zz (i := 2) true nd (wZ))
  (zl (zz (i := 3) true nd (zj))
  (zl (vx PassesOwn.never (yx (zZ c_p_crossed hr (zo (zf (pv 1)) (zo (zf (pv 0)) (zF))) (zq (zq (zM))))) (yI (i := 4) nd)
  (zx (vx PassesOwn.never (yx (zZ c_p_pegs_beyond hr (zo (zf (pv 0)) (zo (zf (pv 4)) (zF))) (zq (zq (zM))))) (wj rfl (zA (i := 5) nd (zA (i := 6) nd (xi))))
  (zx (xy (zfd (zf (pv 5)) (zf (pv 3)))
  (zl (zz (i := 2) true nd (zf (pv 6)))
  (zx (zz (i := 3) true nd (zf (pv 5)))))
  (zY))))))
  (zx (z9 (zf (pv 2)))))),hm,F.kp,F.binds (ps := ["stretch","run"]) fun _ _ _ _ _ _ us hl => match us,hl with | [_,_],_ => rfl⟩ wl
theorem uf (F : Fun K "run_pulled" "run_pulled" y8 f fd) (hm : mg "run_pulled" = some (.ref f)) (c_p_farthest_beyond : yJ P w K mg base k)  : xO P w K mg base (k + 1) := by
 have nd := (wq).nd
 exact Cal.imp (m := runD 6 yC) ⟨f,fd,xU (N := ["start","run","goal","reached","goals","peg"]) F wq fun cdv A outer s G H E hr =>
  zl (zz (i := 3) false nd (yL (zu (zf (pv 0)) (zE))))
  (zl (zz (i := 4) false nd (yL (zu (zf (pv 2)) (zE))))
  (zl (zgy 100 PassesOwn.never (zap (zf (pv 4)))
  (zl (zz (i := 5) true nd (zZ c_p_farthest_beyond hr (zo (zT (zu (zD (zf (pv 3)) (xW (zj))) (zu (zD (zf (pv 4)) (xW (zj))) (zE)))) (zo (zf (pv 1)) (zF))) (zq (zq (zM)))))
  (zx (xy (zjs (zf (pv 5)) (wZ))
  (zx (zff (pv 3) (pv 4)))
  (zx (yr (pv 4) (zf (pv 5))))))))
  (zx (z9 (zcn (zf (pv 3)) (xh (zj)) (vL)))))),hm,F.kp,F.binds (ps := ["start","run","goal"]) fun _ _ _ _ _ _ us hl => match us,hl with | [_,_,_],_ => rfl⟩ vF
theorem za1 (F : Fun K "touched" "touched" xZ f fd) (hm : mg "touched" = some (.ref f)) (c_p_turning_pegs : xj P w K mg base k) (c_p_run_pulled : xO P w K mg base k)  : vc P w K mg base (k + 1) := by
 have nd := (vS).nd
 exact Cal.imp (m := runD 7 xt) ⟨f,fd,xU (N := ["start","row","end","spots","run","gate","turn"]) F vS fun cdv A outer s G H E hr =>
  zl (zz (i := 3) false nd (yL (zu (zf (pv 0)) (zE))))
  (zl (zz (i := 4) false nd (yL (zE)))
  (zl (vx PassesOwn.never (yx (zf (pv 1))) (yI (i := 5) nd)
  (zl (xy (dt_w (zfa (zap (zf (pv 4))) (zck (zcl (hu20 hr) (zD (zD (zf (pv 4)) (xW (zj))) (zj)) (zD (zf (pv 5)) (zj))))))
  (zl (zz (i := 6) true nd (zZ c_p_turning_pegs hr (zo (zD (zf (pv 4)) (xW (zj))) (zo (zf (pv 5)) (zF))) (zq (zq (zM)))))
  (zl (zbM (pv 3) (zZ c_p_run_pulled hr (zo (zD (zf (pv 3)) (xW (zj))) (zo (zf (pv 4)) (zo (zD (zf (pv 6)) (zj)) (zF)))) (zq (zq (zq (zM))))))
  (zl (yr (pv 3) (zD (zf (pv 6)) (zj)))
  (zx (zz (i := 4) false nd (yL (zE)))))))
  (zY))
  (zx (yr (pv 4) (zf (pv 5))))))
  (zl (zbM (pv 3) (zZ c_p_run_pulled hr (zo (zD (zf (pv 3)) (xW (zj))) (zo (zf (pv 4)) (zo (zf (pv 2)) (zF)))) (zq (zq (zq (zM))))))
  (zx (z9 (zcn (zf (pv 3)) (xh (zj)) (xh (xW (zj))))))))),hm,F.kp,F.binds (ps := ["start","row","end"]) fun _ _ _ _ _ _ us hl => match us,hl with | [_,_,_],_ => rfl⟩ tR
theorem vO (F : Fun K "straight_on" "straight_on" yN f fd) (hm : mg "straight_on" = some (.ref f))   : xB P w K mg base (k + 1) := by
 have nd := (wb).nd
 exact Cal.imp (m := runD 7 yo) ⟨f,fd,xU (N := ["one","middle","other","across","up","next_across","next_up"]) F wb fun cdv A outer s G H E hr =>
  zl (zz (i := 3) true nd (ya (zD (zf (pv 1)) (zj)) (zD (zf (pv 0)) (zj))))
  (zl (zz (i := 4) true nd (ya (zD (zf (pv 1)) (zj)) (zD (zf (pv 0)) (zj))))
  (zl (zz (i := 5) true nd (ya (zD (zf (pv 2)) (zj)) (zD (zf (pv 1)) (zj))))
  (zl (zz (i := 6) true nd (ya (zD (zf (pv 2)) (zj)) (zD (zf (pv 1)) (zj))))
  (zx (z9 (zfk (zh5 (hu20 hr) (xG (zf (pv 3)) (zf (pv 6))) (xG (zf (pv 4)) (zf (pv 5)))) (zha (de_gt (yS (xG (zf (pv 3)) (zf (pv 5))) (xG (zf (pv 4)) (zf (pv 6)))) (zj))))))))),hm,F.kp,F.binds (ps := ["one","middle","other"]) fun _ _ _ _ _ _ us hl => match us,hl with | [_,_,_],_ => rfl⟩ vm
theorem zbQ (F : Fun K "pulled" "pulled" wH f fd) (hm : mg "pulled" = some (.ref f)) (c_p_unrepeated : xN P w K mg base k) (c_p_touched : vc P w K mg base k) (c_p_straight_on : xB P w K mg base k) (b_zip : mg "zip" = none) : vR P w K mg base (k + 1) := by
 have nd := (uH).nd
 exact Cal.imp (m := runD 5 xV) ⟨f,fd,xU (N := ["start","row","end","way","bends"]) F uH fun cdv A outer s G H E hr =>
  zl (zz (i := 3) true nd (yS (yS (yL (zu (zf (pv 0)) (zE))) (zZ c_p_unrepeated hr (zo (zZ c_p_touched hr (zo (zf (pv 0)) (zo (zf (pv 1)) (zo (zf (pv 2)) (zF)))) (zq (zq (zq (zM))))) (zF)) (zq (zM)))) (yL (zu (zf (pv 2)) (zE)))))
  (zl ((by first | exact tq (i := 4) true nd (cap := []) (own := ["one","middle","other"]) ⟨rfl,by decide +kernel,by decide +kernel,rfl,rfl⟩ (zfh b_zip (zf (pv 3)) (zcn (zf (pv 3)) (xh (zj)) (vL)) (zcn (zf (pv 3)) (xh (zj)) (vL))) (fun _ _ _ => wj rfl (zA (i := 0) (show (["one","middle","other"] : List Str).Nodup from by decide +kernel) (zA (i := 1) (show (["one","middle","other"] : List Str).Nodup from by decide +kernel) (zA (i := 2) (show (["one","middle","other"] : List Str).Nodup from by decide +kernel) (xi))))) (xH [0,1,2]) (fun _ _ _ => tm (zfc (zap (zZ c_p_straight_on hr (zo (zf (pv 0)) (zo (zf (pv 1)) (zo (zf (pv 2)) (zF)))) (zq (zq (zq (zM)))))))) (fun _ _ _ => zf (pv 1)) | exact zz (i := 4) true nd (xz (cap := []) (own := ["one","middle","other"]) ⟨rfl,by decide +kernel,by decide +kernel,rfl,rfl⟩ (zfh b_zip (zf (pv 3)) (zcn (zf (pv 3)) (xh (zj)) (vL)) (zcn (zf (pv 3)) (xh (zj)) (vL))) (fun _ _ _ => wj rfl (zA (i := 0) (show (["one","middle","other"] : List Str).Nodup from by decide +kernel) (zA (i := 1) (show (["one","middle","other"] : List Str).Nodup from by decide +kernel) (zA (i := 2) (show (["one","middle","other"] : List Str).Nodup from by decide +kernel) (xi))))) (xH [0,1,2]) (fun _ _ _ => tm (zfc (zap (zZ c_p_straight_on hr (zo (zf (pv 0)) (zo (zf (pv 1)) (zo (zf (pv 2)) (zF)))) (zq (zq (zq (zM)))))))) (fun _ _ _ => zf (pv 1)))))
  (zx (z9 (yS (yS (yL (zu (zf (pv 0)) (zE))) (zf (pv 4))) (yL (zu (zf (pv 2)) (zE))))))),hm,F.kp,F.binds (ps := ["start","row","end"]) fun _ _ _ _ _ _ us hl => match us,hl with | [_,_,_],_ => rfl⟩ zaK
theorem tB (F : Fun K "_law_slanted_row" "_law_slanted_row" xn f fd) (hm : mg "_law_slanted_row" = some (.ref f))   : wa P w K mg base (k + 1) := by
 have nd := (wT).nd
 exact Cal.imp (m := runD 7 yQ) ⟨f,fd,xU (N := ["_law_row_here","_law_by","_law_found","_law_x","_law_low","_law_high","_law_way"]) F wT fun cdv A outer s G H E hr =>
  zl (zz (i := 2) false nd (yL (zE)))
  (zl (vx PassesOwn.never (yx (zf (pv 0))) (wj rfl (zA (i := 3) nd (zA (i := 4) nd (zA (i := 5) nd (zA (i := 6) nd (xi))))))
  (zl (xy (zaZ (zf (pv 4)) (wZ))
  (zx (zz (i := 4) true nd (yS (zf (pv 4)) (xG (zf (pv 1)) (zf (pv 3))))))
  (zY))
  (zl (xy (zaZ (zf (pv 5)) (wZ))
  (zx (zz (i := 5) true nd (yS (zf (pv 5)) (xG (zf (pv 1)) (zf (pv 3))))))
  (zY))
  (zx (yr (pv 2) (zT (zu (zf (pv 3)) (zu (zf (pv 4)) (zu (zf (pv 5)) (zu (zf (pv 6)) (zE)))))))))))
  (zx (z9 (zf (pv 2))))),hm,F.kp,F.binds (ps := ["_law_row_here","_law_by"]) fun _ _ _ _ _ _ us hl => match us,hl with | [_,_],_ => rfl⟩ v7
theorem zct (F : Fun K "_law_slanted" "_law_slanted" vh f fd) (hm : mg "_law_slanted" = some (.ref f))   : tN P w K mg base (k + 1) := by
 have nd := (zab).nd
 exact Cal.imp (m := runD 2 wz) ⟨f,fd,xU (N := ["_law_spots","_law_by"]) F zab fun cdv A outer s G H E hr =>
  zx (z9 (xz (cap := [1]) (own := ["_law_x","_law_y"]) ⟨rfl,by decide +kernel,by decide +kernel,rfl,rfl⟩ (yx (zf (pv 0))) (fun _ _ _ => wj rfl (zA (i := 1) (show (["_law_by","_law_x","_law_y"] : List Str).Nodup from by decide +kernel) (zA (i := 2) (show (["_law_by","_law_x","_law_y"] : List Str).Nodup from by decide +kernel) (xi)))) (xH [1,2]) (fun _ _ _ => xx) (fun _ _ _ => zT (zu (zf (pv 1)) (zu (yS (zf (pv 2)) (xG (zf (pv 0)) (zf (pv 1)))) (zE)))))),hm,F.kp,F.binds (ps := ["_law_spots","_law_by"]) fun _ _ _ _ _ _ us hl => match us,hl with | [_,_],_ => rfl⟩ zbr
theorem zi3 (F : Fun K "law" "law" zb4 f fd) (c_numbers : tP P w K mg base k) (c_lines : zcE P w K mg base k) (c_pegs : zfJ P w K mg base k) (c_row : zii P w K mg base k) (c_spot : zfI P w K mg base k) (c_p_pulled : vR P w K mg base k) (c_slanted_row : wa P w K mg base k) (c_slanted : tN P w K mg base k) (b_len : mg "len" = none) (b_list : mg "list" = none) (b_reversed : mg "reversed" = none)  : FnOk P w K mg base CX0 (k + 1) f fd ["_law_script"] (spD K (runD 15 zaU) 1) := by
 have nd := (zgR).nd
 exact xU (N := ["_law_script","_law_head","_law_board","_law_first","_law_cells","_law_row_here","_law_last","_law_start","_law_end","_law_found","_law_kept","_law_other","_law_by","_law_others","_law_ends"]) F zgR fun cdv A outer s G H E hr =>
  zl (zz (i := 1) true nd (zZ c_numbers hr (zo (zf (pv 0)) (zo (zj) (zF))) (zq (zq (zM)))))
  (zl (zz (i := 2) true nd (zZ c_lines hr (zo (zZ c_pegs hr (zo (zf (pv 1)) (zF)) (zq (zM))) (zF)) (zq (zM))))
  (zl (zz (i := 3) true nd (yE (zD (zf (pv 1)) (zj)) (yS (yw yb vZ b_len PySem.boot_len (zo (zf (pv 2)) (zF))) (zj))))
  (zl (zz (i := 4) true nd (yL (zE)))
  (zl (xy (zcl (hu20 hr) (zf (pv 2)) (yL (zE)))
  (zx ((by first | exact tq (i := 4) true nd (cap := []) (own := ["_law_cell"]) ⟨rfl,by decide +kernel,by decide +kernel,rfl,rfl⟩ (yx (zg9 (zf (pv 0)) (xh (zj)) (xh (zj)))) (fun _ _ _ => yI (i := 0) (show (["_law_cell"] : List Str).Nodup from by decide +kernel)) (xf 0) (fun _ _ _ => xx) (fun _ _ _ => yE (zf (pv 0)) (zdk (zj) (zj))) | exact zz (i := 4) true nd (xz (cap := []) (own := ["_law_cell"]) ⟨rfl,by decide +kernel,by decide +kernel,rfl,rfl⟩ (yx (zg9 (zf (pv 0)) (xh (zj)) (xh (zj)))) (fun _ _ _ => yI (i := 0) (show (["_law_cell"] : List Str).Nodup from by decide +kernel)) (xf 0) (fun _ _ _ => xx) (fun _ _ _ => yE (zf (pv 0)) (zdk (zj) (zj)))))))
  (zY))
  (zl (zg8 (zZ c_row hr (zo (zf (pv 2)) (zo (zf (pv 3)) (zo (zf (pv 4)) (zF)))) (zq (zq (zq (zM))))) (wj rfl (zA (i := 5) nd (zA (i := 6) nd (xi)))))
  (zl (zz (i := 7) true nd (zZ c_spot hr (zo (zf (pv 2)) (zo (zf (pv 3)) (zo (zD (zf (pv 1)) (zj)) (zF)))) (zq (zq (zq (zM))))))
  (zl (zz (i := 8) true nd (zZ c_spot hr (zo (zf (pv 2)) (zo (zf (pv 6)) (zo (zD (zf (pv 1)) (zj)) (zF)))) (zq (zq (zq (zM))))))
  (zl (zz (i := 9) false nd (zZ c_p_pulled hr (zo (zf (pv 7)) (zo (ut wB zcr b_list boot_list (zo (zf (pv 5)) (zF))) (zo (zf (pv 8)) (zF)))) (zq (zq (zq (zM))))))
  (zl (zz (i := 10) true nd (ut wB zcr b_list boot_list (zo (zf (pv 9)) (zF))))
  (zl (yr (pv 9) (zf (pv 7)))
  (zl ((by first | exact tq (i := 11) true nd (cap := []) (own := ["_law_x","_law_low","_law_high","_law_way"]) ⟨rfl,by decide +kernel,by decide +kernel,rfl,rfl⟩ (zfi b_reversed (zf (pv 5))) (fun _ _ _ => wj rfl (zA (i := 0) (show (["_law_x","_law_low","_law_high","_law_way"] : List Str).Nodup from by decide +kernel) (zA (i := 1) (show (["_law_x","_law_low","_law_high","_law_way"] : List Str).Nodup from by decide +kernel) (zA (i := 2) (show (["_law_x","_law_low","_law_high","_law_way"] : List Str).Nodup from by decide +kernel) (zA (i := 3) (show (["_law_x","_law_low","_law_high","_law_way"] : List Str).Nodup from by decide +kernel) (xi)))))) (xH [0,1,2,3]) (fun _ _ _ => xx) (fun _ _ _ => zT (zu (zf (pv 0)) (zu (zf (pv 1)) (zu (zf (pv 2)) (zu (ya (zj) (zf (pv 3))) (zE)))))) | exact zz (i := 11) true nd (xz (cap := []) (own := ["_law_x","_law_low","_law_high","_law_way"]) ⟨rfl,by decide +kernel,by decide +kernel,rfl,rfl⟩ (zfi b_reversed (zf (pv 5))) (fun _ _ _ => wj rfl (zA (i := 0) (show (["_law_x","_law_low","_law_high","_law_way"] : List Str).Nodup from by decide +kernel) (zA (i := 1) (show (["_law_x","_law_low","_law_high","_law_way"] : List Str).Nodup from by decide +kernel) (zA (i := 2) (show (["_law_x","_law_low","_law_high","_law_way"] : List Str).Nodup from by decide +kernel) (zA (i := 3) (show (["_law_x","_law_low","_law_high","_law_way"] : List Str).Nodup from by decide +kernel) (xi)))))) (xH [0,1,2,3]) (fun _ _ _ => xx) (fun _ _ _ => zT (zu (zf (pv 0)) (zu (zf (pv 1)) (zu (zf (pv 2)) (zu (ya (zj) (zf (pv 3))) (zE)))))))))
  (zl (xy (dt_w (zh2 (zcl (hu20 hr) (zZ c_p_pulled hr (zo (zf (pv 8)) (zo (zf (pv 11)) (zo (zf (pv 7)) (zF)))) (zq (zq (zq (zM))))) (zdP (zf (pv 10)) b_list b_reversed)) (ze9 (zcl (hu20 hr) (zZ c_p_pulled hr (zo (zf (pv 7)) (zo (ut wB zcr b_list boot_list (zo (zf (pv 5)) (zF))) (zo (zf (pv 8)) (zF)))) (zq (zq (zq (zM))))) (zf (pv 10))))))
  (zx (z9 (zjw)))
  (zY))
  (zl (zz (i := 12) true nd (ya (yE (zD (zf (pv 1)) (zj)) (zj)) (zj)))
  (zl (zz (i := 13) true nd (zZ c_slanted_row hr (zo (zf (pv 5)) (zo (zf (pv 12)) (zF))) (zq (zq (zM)))))
  (zl (zz (i := 14) true nd (zZ c_slanted hr (zo (yL (zu (zf (pv 7)) (zu (zf (pv 8)) (zE)))) (zo (zf (pv 12)) (zF))) (zq (zq (zM)))))
  (zl (xy (zcl (hu20 hr) (zZ c_p_pulled hr (zo (zD (zf (pv 14)) (zj)) (zo (zf (pv 13)) (zo (zD (zf (pv 14)) (zj)) (zF)))) (zq (zq (zq (zM))))) (zZ c_slanted hr (zo (zf (pv 10)) (zo (zf (pv 12)) (zF))) (zq (zq (zM)))))
  (zx (z9 (zjw)))
  (zY))
  (zl ((by first | exact tq (i := 13) true nd (cap := []) (own := ["_law_x","_law_low","_law_high","_law_way"]) ⟨rfl,by decide +kernel,by decide +kernel,rfl,rfl⟩ (yx (zf (pv 5))) (fun _ _ _ => wj rfl (zA (i := 0) (show (["_law_x","_law_low","_law_high","_law_way"] : List Str).Nodup from by decide +kernel) (zA (i := 1) (show (["_law_x","_law_low","_law_high","_law_way"] : List Str).Nodup from by decide +kernel) (zA (i := 2) (show (["_law_x","_law_low","_law_high","_law_way"] : List Str).Nodup from by decide +kernel) (zA (i := 3) (show (["_law_x","_law_low","_law_high","_law_way"] : List Str).Nodup from by decide +kernel) (xi)))))) (xH [0,1,2,3]) (fun _ _ _ => xx) (fun _ _ _ => zT (zu (ya (zj) (zf (pv 0))) (zu (zf (pv 1)) (zu (zf (pv 2)) (zu (ya (zj) (zf (pv 3))) (zE)))))) | exact zz (i := 13) true nd (xz (cap := []) (own := ["_law_x","_law_low","_law_high","_law_way"]) ⟨rfl,by decide +kernel,by decide +kernel,rfl,rfl⟩ (yx (zf (pv 5))) (fun _ _ _ => wj rfl (zA (i := 0) (show (["_law_x","_law_low","_law_high","_law_way"] : List Str).Nodup from by decide +kernel) (zA (i := 1) (show (["_law_x","_law_low","_law_high","_law_way"] : List Str).Nodup from by decide +kernel) (zA (i := 2) (show (["_law_x","_law_low","_law_high","_law_way"] : List Str).Nodup from by decide +kernel) (zA (i := 3) (show (["_law_x","_law_low","_law_high","_law_way"] : List Str).Nodup from by decide +kernel) (xi)))))) (xH [0,1,2,3]) (fun _ _ _ => xx) (fun _ _ _ => zT (zu (ya (zj) (zf (pv 0))) (zu (zf (pv 1)) (zu (zf (pv 2)) (zu (ya (zj) (zf (pv 3))) (zE)))))))))
  (zx (z9 (zh5 (hu20 hr) (zZ c_p_pulled hr (zo (zT (zu (ya (zj) (zD (zf (pv 7)) (zj))) (zu (zD (zf (pv 7)) (zj)) (zE)))) (zo (zf (pv 13)) (zo (zT (zu (ya (zj) (zD (zf (pv 8)) (zj))) (zu (zD (zf (pv 8)) (zj)) (zE)))) (zF)))) (zq (zq (zq (zM))))) (xz (cap := []) (own := ["_law_x","_law_y"]) ⟨rfl,by decide +kernel,by decide +kernel,rfl,rfl⟩ (yx (zf (pv 10))) (fun _ _ _ => wj rfl (zA (i := 0) (show (["_law_x","_law_y"] : List Str).Nodup from by decide +kernel) (zA (i := 1) (show (["_law_x","_law_y"] : List Str).Nodup from by decide +kernel) (xi)))) (xH [0,1]) (fun _ _ _ => xx) (fun _ _ _ => zT (zu (ya (zj) (zf (pv 0))) (zu (zf (pv 1)) (zE)))))))))))))))))))))))))
end
end My
namespace My
open PySem PySem.Spec PyProof.Rows L2 DL
noncomputable abbrev A_ (K : PySem.W.Frag) (x : Str) (f : Addr) : Prop := PySem.W.nsIn K mainGlobals x = some (some (.ref f))
noncomputable abbrev L_ (K : PySem.W.Frag) (f : Addr) (x : Str) (s : Stmt) (oc kV dc pm cd ct : Value) (od an : Option Addr) (sl : Array (Option Value)) : Prop := K.lookup f = some ⟨oc,od,.func (PySem.W.fnOf x x (defArgs s) (defBody s) (defScope s) .none kV dc pm an cd ct),sl⟩
noncomputable abbrev D_ (K : PySem.W.Frag) (cd : Value) (x : Str) : Prop := PySem.W.codeIn K cd x = true
noncomputable abbrev P_ (K : PySem.W.Frag) (f : Addr) : Prop := PySem.W.keepIn K (.ref f) = true
theorem zjD {l : PySem.W.OpenLaw} {w : World} {K : PySem.W.Frag} {h : Heap} {mg : Str → Option Value} {fa f1 f2 f3 f4 f5 f6 f7 f8 f9 f10 f11 f12 f13 f14 f15 f16 f17 f18 f19 f20 : Addr} (X : K.In h) (G : h.Ns mainGlobals mg) (hfa : mg "law" = some (.ref fa))
 {od1 an1 od2 an2 od3 an3 od4 an4 od5 an5 od6 an6 od7 an7 od8 an8 od9 an9 od10 an10 od11 an11 od12 an12 od13 an13 od14 an14 od15 an15 od16 an16 od17 an17 od18 an18 od19 an19 od20 an20 : Option Addr} {sl1 sl2 sl3 sl4 sl5 sl6 sl7 sl8 sl9 sl10 sl11 sl12 sl13 sl14 sl15 sl16 sl17 sl18 sl19 sl20 : Array (Option Value)} {oc1 kV1 dc1 pm1 cd1 ct1 oc2 kV2 dc2 pm2 cd2 ct2 oc3 kV3 dc3 pm3 cd3 ct3 oc4 kV4 dc4 pm4 cd4 ct4 oc5 kV5 dc5 pm5 cd5 ct5 oc6 kV6 dc6 pm6 cd6 ct6 oc7 kV7 dc7 pm7 cd7 ct7 oc8 kV8 dc8 pm8 cd8 ct8 oc9 kV9 dc9 pm9 cd9 ct9 oc10 kV10 dc10 pm10 cd10 ct10 oc11 kV11 dc11 pm11 cd11 ct11 oc12 kV12 dc12 pm12 cd12 ct12 oc13 kV13 dc13 pm13 cd13 ct13 oc14 kV14 dc14 pm14 cd14 ct14 oc15 kV15 dc15 pm15 cd15 ct15 oc16 kV16 dc16 pm16 cd16 ct16 oc17 kV17 dc17 pm17 cd17 ct17 oc18 kV18 dc18 pm18 cd18 ct18 oc19 kV19 dc19 pm19 cd19 ct19 oc20 kV20 dc20 pm20 cd20 ct20 : Value}
 (a1 : A_ K "_law_numbers" f1) (l1 : L_ K f1 "_law_numbers" vi oc1 kV1 dc1 pm1 cd1 ct1 od1 an1 sl1) (c1 : D_ K cd1 "_law_numbers") (k1 : P_ K f1)
 (a2 : A_ K "_law_lines" f2) (l2 : L_ K f2 "_law_lines" zaB oc2 kV2 dc2 pm2 cd2 ct2 od2 an2 sl2) (c2 : D_ K cd2 "_law_lines") (k2 : P_ K f2)
 (a3 : A_ K "_law_pegs" f3) (l3 : L_ K f3 "_law_pegs" zcQ oc3 kV3 dc3 pm3 cd3 ct3 od3 an3 sl3) (c3 : D_ K cd3 "_law_pegs") (k3 : P_ K f3)
 (a4 : A_ K "_law_gate" f4) (l4 : L_ K f4 "_law_gate" zcR oc4 kV4 dc4 pm4 cd4 ct4 od4 an4 sl4) (c4 : D_ K cd4 "_law_gate") (k4 : P_ K f4)
 (a5 : A_ K "_law_row" f5) (l5 : L_ K f5 "_law_row" zfY oc5 kV5 dc5 pm5 cd5 ct5 od5 an5 sl5) (c5 : D_ K cd5 "_law_row") (k5 : P_ K f5)
 (a6 : A_ K "_law_spot" f6) (l6 : L_ K f6 "_law_spot" zcP oc6 kV6 dc6 pm6 cd6 ct6 od6 an6 sl6) (c6 : D_ K cd6 "_law_spot") (k6 : P_ K f6)
 (a7 : A_ K "unrepeated" f7) (l7 : L_ K f7 "unrepeated" y0 oc7 kV7 dc7 pm7 cd7 ct7 od7 an7 sl7) (c7 : D_ K cd7 "unrepeated") (k7 : P_ K f7)
 (a8 : A_ K "lies_below" f8) (l8 : L_ K f8 "lies_below" y9 oc8 kV8 dc8 pm8 cd8 ct8 od8 an8 sl8) (c8 : D_ K cd8 "lies_below") (k8 : P_ K f8)
 (a9 : A_ K "turning_pegs" f9) (l9 : L_ K f9 "turning_pegs" yF oc9 kV9 dc9 pm9 cd9 ct9 od9 an9 sl9) (c9 : D_ K cd9 "turning_pegs") (k9 : P_ K f9)
 (a10 : A_ K "crossed" f10) (l10 : L_ K f10 "crossed" x5 oc10 kV10 dc10 pm10 cd10 ct10 od10 an10 sl10) (c10 : D_ K cd10 "crossed") (k10 : P_ K f10)
 (a11 : A_ K "side_of" f11) (l11 : L_ K f11 "side_of" x4 oc11 kV11 dc11 pm11 cd11 ct11 od11 an11 sl11) (c11 : D_ K cd11 "side_of") (k11 : P_ K f11)
 (a12 : A_ K "pegs_beyond" f12) (l12 : L_ K f12 "pegs_beyond" yO oc12 kV12 dc12 pm12 cd12 ct12 od12 an12 sl12) (c12 : D_ K cd12 "pegs_beyond") (k12 : P_ K f12)
 (a13 : A_ K "farthest_beyond" f13) (l13 : L_ K f13 "farthest_beyond" yc oc13 kV13 dc13 pm13 cd13 ct13 od13 an13 sl13) (c13 : D_ K cd13 "farthest_beyond") (k13 : P_ K f13)
 (a14 : A_ K "run_pulled" f14) (l14 : L_ K f14 "run_pulled" y8 oc14 kV14 dc14 pm14 cd14 ct14 od14 an14 sl14) (c14 : D_ K cd14 "run_pulled") (k14 : P_ K f14)
 (a15 : A_ K "touched" f15) (l15 : L_ K f15 "touched" xZ oc15 kV15 dc15 pm15 cd15 ct15 od15 an15 sl15) (c15 : D_ K cd15 "touched") (k15 : P_ K f15)
 (a16 : A_ K "straight_on" f16) (l16 : L_ K f16 "straight_on" yN oc16 kV16 dc16 pm16 cd16 ct16 od16 an16 sl16) (c16 : D_ K cd16 "straight_on") (k16 : P_ K f16)
 (a17 : A_ K "pulled" f17) (l17 : L_ K f17 "pulled" wH oc17 kV17 dc17 pm17 cd17 ct17 od17 an17 sl17) (c17 : D_ K cd17 "pulled") (k17 : P_ K f17)
 (a18 : A_ K "_law_slanted_row" f18) (l18 : L_ K f18 "_law_slanted_row" xn oc18 kV18 dc18 pm18 cd18 ct18 od18 an18 sl18) (c18 : D_ K cd18 "_law_slanted_row") (k18 : P_ K f18)
 (a19 : A_ K "_law_slanted" f19) (l19 : L_ K f19 "_law_slanted" vh oc19 kV19 dc19 pm19 cd19 ct19 od19 an19 sl19) (c19 : D_ K cd19 "_law_slanted") (k19 : P_ K f19)
 (a20 : A_ K "law" f20) (l20 : L_ K f20 "law" zb4 oc20 kV20 dc20 pm20 cd20 ct20 od20 an20 sl20) (c20 : D_ K cd20 "law") (k20 : P_ K f20)
 (z_range : PySem.W.nsIn K mainGlobals "range" = some none)
 (z_len : PySem.W.nsIn K mainGlobals "len" = some none)
 (z_min : PySem.W.nsIn K mainGlobals "min" = some none)
 (z_max : PySem.W.nsIn K mainGlobals "max" = some none)
 (z_sorted : PySem.W.nsIn K mainGlobals "sorted" = some none)
 (z_set : PySem.W.nsIn K mainGlobals "set" = some none)
 (z_int : PySem.W.nsIn K mainGlobals "int" = some none)
 (z_reversed : PySem.W.nsIn K mainGlobals "reversed" = some none)
 (z_zip : PySem.W.nsIn K mainGlobals "zip" = some none)
 (z_list : PySem.W.nsIn K mainGlobals "list" = some none) :
 ∃ fd : FuncData,(∀ (s : Shared) (v : Value),BindsTo s fd ⟨[v],[]⟩ [("_law_script",v)]) ∧ ∀ base : Heap,K.In base → base.Ns mainGlobals mg → FnOk l.prog w K mg base CX0 7 fa fd ["_law_script"] (spD K (runD 15 zaU) 1) := by
 have e := hfa.symm.trans (PySem.W.mg_of X G a20)
 cases e
 have b_range := PySem.W.mg_none_of X G z_range
 have b_len := PySem.W.mg_none_of X G z_len
 have b_min := PySem.W.mg_none_of X G z_min
 have b_max := PySem.W.mg_none_of X G z_max
 have b_sorted := PySem.W.mg_none_of X G z_sorted
 have b_set := PySem.W.mg_none_of X G z_set
 have b_int := PySem.W.mg_none_of X G z_int
 have b_reversed := PySem.W.mg_none_of X G z_reversed
 have b_zip := PySem.W.mg_none_of X G z_zip
 have b_list := PySem.W.mg_none_of X G z_list
 have F1 := yK (st := vi) l1 c1 k1
 have F2 := yK (st := zaB) l2 c2 k2
 have F3 := yK (st := zcQ) l3 c3 k3
 have F4 := yK (st := zcR) l4 c4 k4
 have F5 := yK (st := zfY) l5 c5 k5
 have F6 := yK (st := zcP) l6 c6 k6
 have F7 := yK (st := y0) l7 c7 k7
 have F8 := yK (st := y9) l8 c8 k8
 have F9 := yK (st := yF) l9 c9 k9
 have F10 := yK (st := x5) l10 c10 k10
 have F11 := yK (st := x4) l11 c11 k11
 have F12 := yK (st := yO) l12 c12 k12
 have F13 := yK (st := yc) l13 c13 k13
 have F14 := yK (st := y8) l14 c14 k14
 have F15 := yK (st := xZ) l15 c15 k15
 have F16 := yK (st := yN) l16 c16 k16
 have F17 := yK (st := wH) l17 c17 k17
 have F18 := yK (st := xn) l18 c18 k18
 have F19 := yK (st := vh) l19 c19 k19
 have F20 := yK (st := zb4) l20 c20 k20
 refine ⟨PySem.W.fnOf "law" "law" (defArgs zb4) (defBody zb4) (defScope zb4) .none kV20 dc20 pm20 an20 cd20 ct20,fun s v => .of_eq rfl,fun base _ _ => ?run⟩
 case run =>
  have q_numbers : tP l.prog w K mg base 1 := zcu (k := 0) F1 (PySem.W.mg_of X G a1)  b_range b_len b_min b_max
  have q_lines : zcE l.prog w K mg base 1 := zfu (k := 0) F2 (PySem.W.mg_of X G a2)  b_sorted b_set
  have q_pegs : zfJ l.prog w K mg base 1 := zgF (k := 0) F3 (PySem.W.mg_of X G a3)  b_range
  have q_gate : zfK l.prog w K mg base 1 := zgG (k := 0) F4 (PySem.W.mg_of X G a4)  b_len
  have q_row : zii l.prog w K mg base 2 := zib (k := 1) F5 (PySem.W.mg_of X G a5) (q_gate.mono (by decide)) b_len b_int b_min
  have q_spot : zfI l.prog w K mg base 1 := zgE (k := 0) F6 (PySem.W.mg_of X G a6)  b_len
  have q_p_unrepeated : xN l.prog w K mg base 1 := ud (k := 0) F7 (PySem.W.mg_of X G a7)
  have q_p_lies_below : xP l.prog w K mg base 1 := uh (k := 0) F8 (PySem.W.mg_of X G a8)
  have q_p_turning_pegs : xj l.prog w K mg base 2 := vA (k := 1) F9 (PySem.W.mg_of X G a9) (q_p_lies_below.mono (by decide))
  have q_p_crossed : ve l.prog w K mg base 1 := za3 (k := 0) F10 (PySem.W.mg_of X G a10)  b_reversed
  have q_p_side_of : vd l.prog w K mg base 1 := za2 (k := 0) F11 (PySem.W.mg_of X G a11)
  have q_p_pegs_beyond : xC l.prog w K mg base 2 := vP (k := 1) F12 (PySem.W.mg_of X G a12) (q_p_side_of.mono (by decide))
  have q_p_farthest_beyond : yJ l.prog w K mg base 3 := wC (k := 2) F13 (PySem.W.mg_of X G a13) (q_p_crossed.mono (by decide)) (q_p_pegs_beyond.mono (by decide))
  have q_p_run_pulled : xO l.prog w K mg base 4 := uf (k := 3) F14 (PySem.W.mg_of X G a14) (q_p_farthest_beyond.mono (by decide))
  have q_p_touched : vc l.prog w K mg base 5 := za1 (k := 4) F15 (PySem.W.mg_of X G a15) (q_p_turning_pegs.mono (by decide)) (q_p_run_pulled.mono (by decide))
  have q_p_straight_on : xB l.prog w K mg base 1 := vO (k := 0) F16 (PySem.W.mg_of X G a16)
  have q_p_pulled : vR l.prog w K mg base 6 := zbQ (k := 5) F17 (PySem.W.mg_of X G a17) (q_p_unrepeated.mono (by decide)) (q_p_touched.mono (by decide)) (q_p_straight_on.mono (by decide)) b_zip
  have q_slanted_row : wa l.prog w K mg base 1 := tB (k := 0) F18 (PySem.W.mg_of X G a18)
  have q_slanted : tN l.prog w K mg base 1 := zct (k := 0) F19 (PySem.W.mg_of X G a19)
  exact zi3 (k := 6) F20 (q_numbers.mono (by decide)) (q_lines.mono (by decide)) (q_pegs.mono (by decide)) (q_row.mono (by decide)) (q_spot.mono (by decide)) (q_p_pulled.mono (by decide)) (q_slanted_row.mono (by decide)) (q_slanted.mono (by decide)) b_len b_list b_reversed
theorem zjc (main : ∀ ns : List Int,ns.length ≤ 63 → runD 15 zaU [.scr ns] = .ok (.pers (.bl true))) (K : PySem.W.Frag) (H : Hp) (a : Addr) (ns : List Int) (hl : ns.length ≤ 63) (hS : SqL K H a (ns.map V.int)) :
 spD K (runD 15 zaU) 1 [.ref a] H (fun v _ => v = .bl true) fun _ _ _ => False :=
 ⟨H,[.scr ns],_,rfl,Same.refl _,⟨_,_,rfl,⟨a,rfl,hS⟩,rfl⟩,main ns hl,fun v G' H' _ _ h => h⟩
end My
namespace My
open PySem PySem.Spec PyProof.Rows L2 DL
end My
open PySem PySem.W PyProof.Rows
set_option maxRecDepth 100000 in
set_option maxHeartbeats 0 in
theorem PySem.Challenge.cw_tautline_k32_pulled_from_the_other_end_holds : PySem.Challenge.rw_tautline_k32_pulled_from_the_other_end.Holds := by
 w_on; o_law; k_head; (case hw => w_witness2)
 k_fill
 refine L2.zfL (l := PySem.Challenge.rw_tautline_k32_pulled_from_the_other_end) (n := 63) (k := 7) (x := "_law_script") (CX := L2.CX0) (sp := fun K => DL.spD K (DL.runD 15 My.zaU) 1) rfl (by decide) rfl ⟨rfl,by decide,by decide⟩ (fun w h Y => PySem.W.kIn_of Y) ?F ?S ?C
 case F =>
  intro w mg fa h KX G hmg
  refine' My.zjD KX G hmg ?a1 ?l1 ?c1 ?k1 ?a2 ?l2 ?c2 ?k2 ?a3 ?l3 ?c3 ?k3 ?a4 ?l4 ?c4 ?k4 ?a5 ?l5 ?c5 ?k5 ?a6 ?l6 ?c6 ?k6 ?a7 ?l7 ?c7 ?k7 ?a8 ?l8 ?c8 ?k8 ?a9 ?l9 ?c9 ?k9 ?a10 ?l10 ?c10 ?k10 ?a11 ?l11 ?c11 ?k11 ?a12 ?l12 ?c12 ?k12 ?a13 ?l13 ?c13 ?k13 ?a14 ?l14 ?c14 ?k14 ?a15 ?l15 ?c15 ?k15 ?a16 ?l16 ?c16 ?k16 ?a17 ?l17 ?c17 ?k17 ?a18 ?l18 ?c18 ?k18 ?a19 ?l19 ?c19 ?k19 ?a20 ?l20 ?c20 ?k20 ?z_range ?z_len ?z_min ?z_max ?z_sorted ?z_set ?z_int ?z_reversed ?z_zip ?z_list
  (case a1 => unfold My.A_; k_is); (case l1 => unfold My.L_; k_is); (case c1 => unfold My.D_; k_is); (case k1 => unfold My.P_; k_is)
  (case a2 => unfold My.A_; k_is); (case l2 => unfold My.L_; k_is); (case c2 => unfold My.D_; k_is); (case k2 => unfold My.P_; k_is)
  (case a3 => unfold My.A_; k_is); (case l3 => unfold My.L_; k_is); (case c3 => unfold My.D_; k_is); (case k3 => unfold My.P_; k_is)
  (case a4 => unfold My.A_; k_is); (case l4 => unfold My.L_; k_is); (case c4 => unfold My.D_; k_is); (case k4 => unfold My.P_; k_is)
  (case a5 => unfold My.A_; k_is); (case l5 => unfold My.L_; k_is); (case c5 => unfold My.D_; k_is); (case k5 => unfold My.P_; k_is)
  (case a6 => unfold My.A_; k_is); (case l6 => unfold My.L_; k_is); (case c6 => unfold My.D_; k_is); (case k6 => unfold My.P_; k_is)
  (case a7 => unfold My.A_; k_is); (case l7 => unfold My.L_; k_is); (case c7 => unfold My.D_; k_is); (case k7 => unfold My.P_; k_is)
  (case a8 => unfold My.A_; k_is); (case l8 => unfold My.L_; k_is); (case c8 => unfold My.D_; k_is); (case k8 => unfold My.P_; k_is)
  (case a9 => unfold My.A_; k_is); (case l9 => unfold My.L_; k_is); (case c9 => unfold My.D_; k_is); (case k9 => unfold My.P_; k_is)
  (case a10 => unfold My.A_; k_is); (case l10 => unfold My.L_; k_is); (case c10 => unfold My.D_; k_is); (case k10 => unfold My.P_; k_is)
  (case a11 => unfold My.A_; k_is); (case l11 => unfold My.L_; k_is); (case c11 => unfold My.D_; k_is); (case k11 => unfold My.P_; k_is)
  (case a12 => unfold My.A_; k_is); (case l12 => unfold My.L_; k_is); (case c12 => unfold My.D_; k_is); (case k12 => unfold My.P_; k_is)
  (case a13 => unfold My.A_; k_is); (case l13 => unfold My.L_; k_is); (case c13 => unfold My.D_; k_is); (case k13 => unfold My.P_; k_is)
  (case a14 => unfold My.A_; k_is); (case l14 => unfold My.L_; k_is); (case c14 => unfold My.D_; k_is); (case k14 => unfold My.P_; k_is)
  (case a15 => unfold My.A_; k_is); (case l15 => unfold My.L_; k_is); (case c15 => unfold My.D_; k_is); (case k15 => unfold My.P_; k_is)
  (case a16 => unfold My.A_; k_is); (case l16 => unfold My.L_; k_is); (case c16 => unfold My.D_; k_is); (case k16 => unfold My.P_; k_is)
  (case a17 => unfold My.A_; k_is); (case l17 => unfold My.L_; k_is); (case c17 => unfold My.D_; k_is); (case k17 => unfold My.P_; k_is)
  (case a18 => unfold My.A_; k_is); (case l18 => unfold My.L_; k_is); (case c18 => unfold My.D_; k_is); (case k18 => unfold My.P_; k_is)
  (case a19 => unfold My.A_; k_is); (case l19 => unfold My.L_; k_is); (case c19 => unfold My.D_; k_is); (case k19 => unfold My.P_; k_is)
  (case a20 => unfold My.A_; k_is); (case l20 => unfold My.L_; k_is); (case c20 => unfold My.D_; k_is); (case k20 => unfold My.P_; k_is)
  (case z_range => k_is)
  (case z_len => k_is)
  (case z_min => k_is)
  (case z_max => k_is)
  (case z_sorted => k_is)
  (case z_set => k_is)
  (case z_int => k_is)
  (case z_reversed => k_is)
  (case z_zip => k_is)
  (case z_list => k_is)
 case S => exact fun K H a ns hl hO hS => My.zjc My.main K H a ns hl hS
 case C => exact fun _ _ _ _ z => z
